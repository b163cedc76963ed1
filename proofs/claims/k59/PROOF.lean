import PyProof.Rows.All
import Wide.All
import OpenK.AllK
import Wide.FinOn
import Lean
import PyProof.EqAt
import PyProof.EqKinds
import PyProof.TupleCall
import PyProof.TupleKey
import PyProof.DictRoadsH
import Wide.Seal
import PyProof.NeKinds
import PyProof.ZipIter
import PyProof.EnumMake
import PyProof.Rows.TupTab
import KE.KDictLaws
import PyProof.AutoListH
import PyProof.AttrMissHeap
import KE.KDictOf
import KE.KIntText
import PyProof.StrBlockL
import PyProof.StrLawsChain
import PyProof.FString
import PyProof.Rows.FStr
import OpenK.KOwn
import KE.KIsAll
import KE.KDictList
import PyProof.Draws
import PySem.Challenge.RW_cubebook_k59_refused_questions
open PySem.W renaming Frag→Am,keepIn→Hz,findIn→Iz,instObj→JM,fnOf→IE,emptyDict→Ms,callWith_K→Ru
open PySem renaming wpAny_bind→Al,sizeLine→AA,Spec→Qai,wpAny_pure→AO,starEach→AE,Program→AI,mainGlobals→BN,wpAny_loadPart'→Eu,FuncData→B6,wpAny_mono→CU,foldedSetIterable→EU,bootBuiltins→DO,compareOp→C8,wpAny_field→D2,swapsWith→Dv,wpAny_setField_rec→Hf,behindInMarks→FA,wpAny_holding→FC,wpAny_callSpecial?_slot→K9,attributeBase→Gk,wpAny_truthy_bool→Ix,wpAny_newObj_type→IH,mem_of_lookup→JX,codeAny_builtin→IM,holding→D8,keywordEach→Gn,assignEach→F1,wpAny_call_entry→JY,Keyword→Et,tupleKind_room_in1→Lx,sysModules→Gd,wpAny_Call_Name_kw→Mu,Builtin→Fi,sizeLine_eq→Iy,binaryOp→Gj,backToKw→Gm,NameKind→Gp,wpAny_getItem_str_slice→RJ,plainId_quiet→Ld,DictEntry→Hv,wpAny_rule→IG,wpAny_typeNameOfWhole_keyiter→Y1,wpAny_pyIter_list→Oo,wpAny_loadPart_at→Pa,codeAny_mono→K6,wpAny_typeOf→La,wpAny_setField→Nc,wpAny_execs_cons→Oj,codeAny_call_builtin→SD,wpAny_passesOwn→Oq
open PySem.Heap renaming get?_push_of_some→Bp,get?_push_size→B4,lt_size→Br,SameBut→DP,get?_update_other→Lc,get?_update_self→My,size_push→K5
open List renaming mem_cons_self→Bk,mem_cons_of_mem→Bu,map_cons→A3,length_map→Bh,getElem?_eq_getElem→B8,mem_map→Be,getElem?_eq_some_iff→Cm,size_toArray→BR,range→Bf,mem_cons→BK,mem_append_right→CY,length_cons→Ce,map_map→BS,all_eq_true→CZ,getElem?_cons_zero→E7,getElem?_set_ne→Ep,mem_append→Dn,getElem?_map→DQ,replicate→C9,getElem?_cons_succ→Fn,mem_singleton→D9,nil_append→D1,map_nil→Db,zipWith→Dk,set_cons_zero→E8,append_nil→Eb,set_cons_succ→Fv,length_append→FG,getElem?_append_left→HA,getElem_mem→FL,mem_range→ET,getElem?_set_self→Hx,mem_of_getElem?→GY,map_append→FN,getElem?_replicate→ID,range'→EN,mem_append_left→Iw,zip_cons_cons→HH,cons_append→G0,getD→Ex,getElem?_append→J7,not_mem_nil→HU,range_eq_range'→KJ,getElem?_append_right→Mw,replicate_zero→KP,length_nil→HI,length_replicate→K8,contains_iff_mem→LR,ext_getElem?→J5,nodup_cons→IB,replicate_succ→L7,zipWith_cons_cons→Ob,range'_succ→KI,drop_eq_getElem_cons→OD,nodup_append→Lv,length_eq_zero_iff→OS,drop_eq_nil_of_le→OC,all_cons→J8,length→IC,all_map→J9,mem_flatMap→N3,filterMap_cons→Oi,mem_map_of_mem→QN,of_mem_zip→Mv,mem_filter→Mg,take_of_length_le→Sd,append_assoc→O9,length_singleton→Rz,length_filter_le→VB
open Option renaming bind_eq_some_iff→BL,map_eq_some_iff→BG,bind→De,map→Em,map_some→J2,isSome_iff_exists→WG
open Nat renaming lt_of_lt_of_le→BE,le_refl→A5,lt_of_add_right_lt→Df,le_trans→BJ,ne_of_lt→BX,lt_of_le_of_lt→Gr,reduceAdd→FZ,le_add_right_of_le→J1,lt_of_sub_eq_succ→J3,ne_of_gt→Gi,zero_le→F2,lt_irrefl→Hw,lt_of_lt_of_eq→K7,lt_trans→HG,zero_add→Ik,zero_lt_of_lt→LF,le_sub_one_iff_lt→OW,reduceSub→KO,le_succ_of_le→Ni,le_of_not_lt→Mz,le_add_right→M1,eq_of_le_of_lt_succ→Ss,le_of_add_right_le→RC,le_of_lt→K1,lt_or_ge→LC,succ_le_succ→Oz,le_antisymm→O5
open Bool renaming and_eq_true→Co,false_eq_true→Ff,and_self→Ia,not_false→IW,false_ne_true→Me,not_eq_true'→Nd,true_and→LN,not_true→MW
open False renaming elim→BP
open PySem.Value renaming ref→Ci,none→Gb
open Int renaming emod_nonneg→En,emod_lt_of_pos→Fy,toNat_of_nonneg→Ju,toNat_natCast→Jf,natCast_pos→L8,natCast_nonneg→Pw,zero_le_ofNat→QE,lt_of_not_ge→Oy
open Ne renaming symm→B0
open PySem.W.KasT renaming kasWp→Dr,kasWp_bind→O7
open Option.some renaming inj→Gf
open PyProof.Rows renaming callWith_type1→Mn,listUpdate_at→Nb
open PySem.Paired renaming length→Gc
open PySem.Obj renaming mapSeq→Fe,data_mapFields→LH,isFreed_of_fields→SE
open PySem.Builtin.Str renaming occurrences→Mp
open PySem.Heap.SameBut renaming update→Lz
open PySem.NameKind renaming free→IL
open Classical renaming propDecidable→OO
open True renaming intro→GX
open PySem.Str renaming ofString→IF
open PySem.F renaming slot_enumerate_next→SR,plainAttrs_list→RS,slot_dict_setdefault→Ys,args_tuple_add_2→Xy,entry_tuple_add→Xx,slot_dict_keyiterator_next→qV
open Array renaming getElem?_eq_some_iff→SF,length_toList→Re
open PySem.Builtin.Slice renaming slicePlaces→Rw,sliceAdjust→WL
open List.cons renaming injEq→O2
open PySem.Builtin.SmallTypes renaming nextOf→ah
open PySem.Calls renaming call_function_entry→ap
open PySem renaming Value→Aa,Shared→Ab,Addr→Ac,Str→Ae,model→Af,Around→Ag,World→Ah,Heap→Ak,eval→Ao,cLine→Aq,Stmt→Au,backTo→Ay,Pos→Az,rawInt→AZ,Builtin→A4,sliceBounds→BH
open Pure renaming pure→AC
open PyProof.Rows renaming envOfC→A0
open Option renaming some→Z,none→J
open Bool renaming true→J',false→O'
abbrev U:=@List
abbrev O:=@Option
set_option Elab.async false
set_option linter.all false
set_option backward.eqns.nonrecursive false
set_option tactic.hygienic false
set_option maxHeartbeats 4000000
set_option maxRecDepth 100000
abbrev AJ:=PySem.Value->PySem.Shared->Prop
abbrev Cg(x:PySem.Str):Prop:=(x==("__debug__":PySem.Str))=O'
abbrev AS:=U (PySem.Addr×PySem.Obj)
abbrev Bl:=PySem.Str->O PySem.Value
theorem ZX{b:Type}{c:Prop}[Decidable c]{a:O b}{r:b}(h:(if c then a else J)=Z r):c/\a=Z r:=by
 split at h
 ·exact⟨‹_›,h⟩
 ·cases h
noncomputable section
set_option bootstrap.genMatcherCode false
set_option genSizeOf false
set_option genSizeOfSpec false
set_option compiler.extract_closed false
set_option bootstrap.genMatcherCode false
set_option genSizeOf false
set_option genSizeOfSpec false
open List renaming toArray->T'
local macro_rules|`(#[$a,*])=>`(⟨$a,*⟩)
local macro_rules|`(tactic|erw[$[$t:term],*]$[$l]?)=>`(tactic|simp only[$[$t:term],*]$[$l]?)
local macro_rules|`(tactic|ext)=>`(tactic|decide)
variable{C a:Ac}{apos cpos p2 pos pos':Az}{E:AJ}{elts es ifs:U PySem.Expr}{Q:Unit->Ab->Prop}{u:Aa}{gs:U (U Nat)}{pl:PySem.Sem Bool}{o:Obj}{ps:U Ae}{pins:AS}{R:PySem.Result->Ab->Prop}{sc scope:PySem.Scope}{φ:Nat->Ac}{j t':Nat}{ws:U Nat}{elt iter tg:PySem.Expr}{g':Array PySem.GenState}{s':Ab}{items:Array Aa}{RR:Aa->Ac->PySem.Result->Ab->Prop}{isA:Nat->Aa->Prop}{ch:U Ac}{B:Aa->PySem.Sem PySem.Fin}{dd:O Ac}{d':PySem.Drawn}{tn:Nat->Ak->Prop}
namespace L2
open PySem PySem.Spec PyProof.Rows
inductive V where
 |non|bl (b:Bool)|int (i:Int)|str (x:Ae)|ref (a:Ac)|ty (n:String)
 deriving DecidableEq
variable{vs ys:U V}
def RelV:V->Aa->Prop
 |.non,u=>u=Gb
 |.bl b,u=>u=Value.bool b
 |.int i,u=>∃t,u=Value.int i t
 |.str x,u=>∃t,u=Value.str x t
 |.ref a,u=>u=Ci a
 |.ty n,u=>u=Value.type n
abbrev An:U V->U Aa->Prop:=Paired RelV
theorem An.length{xs:U V}{us:U Aa}(r:An xs us):xs.length=us.length:=Gc r
theorem An.get:∀{xs:U V}{us:U Aa}{i:Nat}{x:V},An xs us->xs[i]?=Z x->∃u,us[i]?=Z u/\RelV x u
 |_,_,_,_,.nil,e=>by simp at e
 |_,_,0,_,.cons r _,e=>by simp at e;subst e;exact#[_,rfl,r]
 |_,_,i+1,x,.cons _ t,e=>by
  obtain⟨u,a,b⟩:=An.get (i:=i) (x:=x) t (by simpa using e)
  exact#[u,by simpa using a,b]
theorem An.set{x:V}{u:Aa}(r:RelV x u):∀{xs:U V}{us:U Aa}(i:Nat),An xs us->An (xs.set i x) (us.set i u)
 |_,_,_,.nil=>.nil
 |_,_,0,.cons _ t=>.cons r t
 |_,_,i+1,.cons q t=>.cons q (An.set r i t)
theorem An.append{xs:U V}{us ws:U Aa}(h:An xs us)(s:An ys ws):An (xs++ys) (us++ws):=by
 induction h with
 |nil=>exact s
 |cons r _ a=>exact .cons r a
theorem An.take:∀{xs:U V}{us:U Aa}(n:Nat),An xs us->An (xs.take n) (us.take n)
 |_,_,0,_=>.nil
 |_,_,_+1,.nil=>.nil
 |_,_,n+1,.cons r t=>.cons r (An.take n t)
theorem An.drop:∀{xs:U V}{us:U Aa}(n:Nat),An xs us->An (xs.drop n) (us.drop n)
 |_,_,0,r=>r
 |_,_,_+1,.nil=>.nil
 |_,_,n+1,.cons _ t=>An.drop n t
def Cj:O V->O Aa->Prop
 |some v,Z u=>RelV v u
 |none,J=>True
 |_,_=>False
inductive At where
 |non|int (i:Int)|str (x:Ae)
 deriving DecidableEq
variable{us:U (U At×Ac×Aa)}
def Iu:At->Aa->Bool
 |.non,.none=>J'
 |.int k,v=>Value.isInt k v
 |.str x,v=>Value.isStrOf x v
 |_,_=>O'
noncomputable def Q9(w:Ah):At->Int
 |.non=>reduceHash 4238894112
 |.int k=>hashInt k
 |.str x=>hashStr w x
theorem Iv:∀{k:At}{v:Aa},Iu k v=J'->(k=.non/\v=.none)\/(∃i t,k=.int i/\v=Value.int i t)\/(∃x t,k=.str x/\v=Value.str x t)
 |.non,v,h=>by cases v<;>first|exact .inl ⟨rfl,rfl⟩|exact absurd h Me
 |.int i,v,h=>by obtain⟨t,e⟩:=Value.isInt_shape (k:=i) (v:=v) h;exact .inr (.inl #[i,t,rfl,e])
 |.str x,v,h=>by obtain⟨t,e⟩:=Value.isStrOf_shape (x:=x) (v:=v) h;exact .inr (.inr #[x,t,rfl,e])
theorem jy(i:Int)(t:Tok):Iu (.int i) (.int i t)=J':=by simp[Iu,Value.isInt]
theorem jz(x:Ae)(t:Tok):Iu (.str x) (.str x t)=J':=by simp[Iu,Value.isStrOf]
theorem jA{prog:AI}{w:Ah}{A:Ag}{s:Ab}{Q:Int->Ab->Prop}(h:Q (reduceHash 4238894112) {s with toks:=s.toks+1}):
  wpAny (Af prog w) A (PySem.pyHash .none) Q E s:=
 PySem.W.pyHash_slot (T:="NoneType") rfl F.slot_NoneType_hash F.entry_NoneType_hash (F.args_NoneType_hash_1 _) (beq_builtin_none _) (.inl rfl) (Al (AO (Al (wpAny_mkInt (AO #[_,_,rfl,h])))))
theorem jB(a b:Int):decide ((At.int a)=.int b)=(a==b):=by
 grind
theorem jC(a b:Ae):decide ((At.str a)=.str b)=decide (a=b):=by
 simp_all
def ZC(prog:AI)(w:Ah):PySem.KeyKind prog w At where
 is:=Iu
 hash:=Q9 w
 inj:=λv a b d f=>by
  rcases Iv d with⟨rfl,rfl⟩|⟨i,t,rfl,rfl⟩|⟨x,t,rfl,rfl⟩<;>rcases Iv f with⟨rfl,e⟩|⟨j,u,rfl,e⟩|⟨y,u,rfl,e⟩ <;>
   first|rfl|(cases e;done)|(cases e;rfl)
 byValue:=λk v h=>by
  rcases Iv h with⟨rfl,rfl⟩|⟨i,t,rfl,rfl⟩|⟨x,t,rfl,rfl⟩<;>rfl
 pyHash:=λc h=>by
  rcases Iv c with⟨rfl,rfl⟩|⟨i,t,rfl,rfl⟩|⟨x,t,rfl,rfl⟩
  ·exact jA h
  ·exact wpAny_pyHash_int h
  ·exact wpAny_pyHash_str h
 eqBool:=λg c h=>by
  rcases Iv g with⟨rfl,rfl⟩|⟨i,t,rfl,rfl⟩|⟨x,t,rfl,rfl⟩<;>rcases Iv c with⟨rfl,rfl⟩|⟨j,u,rfl,rfl⟩|⟨y,u,rfl,rfl⟩
  ·exact SeqAt.EqAt.same Gb _ _ _ _ h
  ·exact SeqAt.EqAt.none_int j u _ _ _ _ h
  ·exact SeqAt.EqAt.none_str y u _ _ _ _ h
  ·exact SeqAt.EqAt.int_none i t _ _ _ _ h
  ·rw[jB]at h;exact wpAny_eqBool_int h
  ·exact SeqAt.EqAt.int_str i t y u _ _ _ _ h
  ·exact SeqAt.EqAt.str_none x t _ _ _ _ h
  ·exact SeqAt.EqAt.str_int x t j u _ _ _ _ h
  ·rw[jC]at h;exact wpAny_eqBool_str h
 «strs»:=λk x t v h=>by
  rcases Iv h with⟨rfl,e⟩|⟨i,u,rfl,e⟩|⟨y,u,rfl,e⟩
  ·exact nomatch e
  ·exact nomatch e
  ·injection e with l _
   subst l
   cases v<;>rfl
inductive KT where
 |at(a:At)|tup (l:List At)
 deriving DecidableEq
def KT.hash(w:Ah):KT->Int
 |.at a=>Q9 w a
 |.tup l=>reduceHash (Builtin.Tuple.tupleHashOf (l.map (Q9 w)))
def F0:At->V
 |.non=>.non
 |.int i=>.int i
 |.str x=>.str x
def jD:KT->V->Prop
 |.at a,v=>v=F0 a
 |.tup _,v=>∃p,v=.ref p
def JL(w:Ah):U KT->U V->U Hv->Prop
 |[],a,b=>a=[]/\b=[]
 |k::c,a,b=>∃kv v r e t,a=kv::v::r/\b=e::t/\RelV kv e.key/\RelV v e.val/\e.hash=k.hash w/\jD k kv/\JL w c r t
inductive HO where
 |lst (xs:List V)
 |tup (xs:List V)
 |dct (ks:List KT) (vs:List V)
 |ins (C dx:Ac) (fs:List (Ae×V))
 |own (x:Ac)
 |xd (fs:List (Ae×V))
 |met (f x:Ac)
 |rng (lo hi:Int)
 |frz (o:Obj) (u:HO)
 |tbl (ps:Array Aa)
 |ext (φ:Ak->Prop)
abbrev Hp:=Ac->O HO
variable{H H' H0:Hp}
noncomputable def AN(H:Hp)(a:Ac)(o:HO):Hp:=λb=>if b=a then Z o else H b
theorem ZZ{o:HO}:AN H a o a=Z o:=by grind [AN]
theorem Zq{b:Ac}{o:HO}(h:b≠a):AN H a o b=H b:=by grind [AN]
theorem jF{o u:HO}:AN (AN H a o) a u=AN H a u:=by grind [AN]
theorem ZV{b:Ac}{o:HO}(h:H a=Z o)(h':H b=J):a≠b:=by
 grind
section
variable(P:AI)(w:Ah)
def AY(P:AI)(w:Ah)(H:Hp)(h:Ak)(a:Ac):HO->Prop
 |.lst d=>d.length<=AA/\∃(b:U Aa) (n:Nat),An d b/\h.get? a=Z {cls:=.type "list",data:=.seq b.toArray n}
 |.tup d=>d.length<=AA/\∃b:U Aa,An d b/\IsTup h a b.toArray
 |.dct i p=>i.length<=AA/\(a==Gd)=O'/\i.Nodup/\∃o k q,h.get? a=Z o/\o.ExactDict/\o.data=.dict k q/\JL w i p k.toList
 |.ins C g e=>H g=Z (.own a)/\e.length<=1000/\g≠a/\h.get? a=Z (JM C g) /\
   ∃c,h.Ns1 g c/\(∀f,Cj (e.lookup f) (c f))/\PySem.Within c (e.map (·.1))
 |.own _=>∃o,h.get? a=Z o
 |.xd e=>∃c,h.Ns1 a c/\∀f,Cj (e.lookup f) (c f)
 |.rng lo r=>∃t u v,h.get? a=Z {cls:=.type "range",data:=.fields (T' [.int lo t,.int r u,.int 1 v])}
 |.frz o u=>h.get? a=Z o/\AY P w H h a u
 |.tbl s=>h.get? a=Z {cls:=.none,data:=.fields s}
 |.met f x=>h.get? a=Z (PySem.W.methodObj (.ref f) (.ref x))
 |.ext j=>j h/\(∃o,h.get? a=Z o)/\∀l m:Ak,j l->(∀o,l.get? a=Z o->m.get? a=Z o)->j m
def B7(H:Hp)(h:Ak):Prop:=∀a o,H a=Z o->AY P w H h a o
end
section
variable{P:AI}{w:Ah}{h h':Ak}{o:HO}
theorem AY.lt(x:AY P w H h a o):a<h.objs.size:=by
 cases o with
 |lst b=>obtain⟨_,_,_,_,e⟩:=x;exact Br e
 |tup b=>obtain⟨_,_,_,p⟩:=x;exact p.lt
 |dct d g=>obtain⟨_,_,_,o,_,_,e,_⟩:=x;exact Br e
 |ins C i c=>obtain⟨_,_,_,e,_⟩:=x;exact Br e
 |own y=>obtain⟨_,e⟩:=x;exact Br e
 |xd c=>obtain⟨_,⟨_,_,_,e,_⟩,_⟩:=x;exact Br e
 |rng lo j=>obtain⟨_,_,_,e⟩:=x;exact Br e
 |frz ob u=>obtain⟨e,_⟩:=x;exact Br e
 |tbl k=>exact Br (show h.get? a=Z _ from x)
 |met f y=>exact Br (show h.get? a=Z _ from x)
 |ext l=>obtain⟨_,⟨_,e⟩,_⟩:=x;exact Br e
theorem Paired.mapP{e g:Type}{F G:e->g->Prop}{c:U e}{d:U g}(h:Paired F c d)(f:∀a b,F a b->G a b):Paired G c d:=by
 induction h with
 |nil=>exact .nil
 |cons r _ i=>exact .cons (f _ _ r) i
theorem AY.stay(x:AY P w H h a o)(k:∀b u,(b=a\/H b=Z (.own a))->h.get? b=Z u->h'.get? b=Z u)
  (A:∀b,H b=Z (.own a)->H' b=Z (.own a)) (Q:∀b xs,H b=Z (.tup xs)->H' b=Z (.tup xs)):AY P w H' h' a o:=by
 induction o with
 |lst xs=>obtain⟨z,g,n,r,e⟩:=x;exact#[z,g,n,r,k _ _ (.inl rfl) e]
 |tup xs=>obtain⟨z,g,r,ob,e,c⟩:=x;exact#[z,g,r,ob,k _ _ (.inl rfl) e,c]
 |dct F L=>obtain⟨z,y,n,ob,i,j,e,c⟩:=x;exact#[z,y,n,ob,i,j,k _ _ (.inl rfl) e,c]
 |ins C M B=>
  obtain⟨d,z,ne,e,l,⟨m,i,j,E,c⟩,r⟩:=x
  exact#[A _ d,z,ne,k _ _ (.inl rfl) e,l,#[m,i,j,k _ _ (.inr d) E,c],r]
 |own y=>obtain⟨ob,e⟩:=x;exact#[ob,k _ _ (.inl rfl) e]
 |xd B=>obtain⟨l,⟨m,i,j,e,c⟩,r⟩:=x;exact#[l,#[m,i,j,k _ _ (.inl rfl) e,c],r]
 |rng lo N=>obtain⟨t,u,v,e⟩:=x;exact#[t,u,v,k _ _ (.inl rfl) e]
 |frz ob u G=>obtain⟨e,q⟩:=x;exact#[k _ _ (.inl rfl) e,G q]
 |tbl s=>
  have e:h.get? a=Z {cls:=.none,data:=.fields s}:=x
  show h'.get? a=Z {cls:=.none,data:=.fields s}
  grind
 |met f y=>
  have e:h.get? a=Z (PySem.W.methodObj (.ref f) (.ref y)):=x
  show h'.get? a=Z (PySem.W.methodObj (.ref f) (.ref y))
  simp_all
 |ext K=>obtain⟨p,⟨o,e⟩,st⟩:=x;exact#[st _ _ p λo q=>k _ _ (.inl rfl) q,#[o,k _ _ (.inl rfl) e],st]
theorem B7.lt(x:B7 P w H h)(e:H a=Z o):a<h.objs.size:=(x a o e).lt
theorem B7.fresh(x:B7 P w H h)(e:h.objs.size<=a):H a=J:=by
 cases q:H a with
 |none=>rfl
 |some u=>exact absurd (BE (x.lt q) e) (Hw _)
theorem B7.kept(x:B7 P w H h)(k:∀b u,h.get? b=Z u->h'.get? b=Z u):B7 P w H h':=λa o e=>
 (x a o e).stay (λb u _ q=>k b u q) (λ_ q=>q) λ_ _ q=>q
theorem B7.laid(x:B7 P w H h)(k:∀b u,h.get? b=Z u->h'.get? b=Z u)(d:h.objs.size<=a)(new:AY P w (AN H a o) h' a o):B7 P w (AN H a o) h':=λb u e=>by
 by_cases f:b=a
 ·subst f;rw[ZZ]at e;cases e;exact new
 ·rw[Zq f]at e
  exact(x b u e).stay (λc v _ q=>k c v q) (λc q=>Zq (ZV q (x.fresh d)) ▸ q) λc g q=>Zq (ZV q (x.fresh d)) ▸ q
end
def Rd(H:Hp)(a:Ac)(u:HO):Prop:=H a=Z u\/∃o,H a=Z (.frz o u)
theorem Rd.ok{P:AI}{w:Ah}{h:Ak}{u:HO}(r:Rd H a u)(x:B7 P w H h):AY P w H h a u:=by
 rcases r with r|⟨o,r⟩
 ·exact x a u r
 ·obtain⟨_,q⟩:=x a _ r
  exact q
def Mf:O HO->Prop
 |some (.lst _)=>True
 |some (.dct _ _)=>True
 |some (.ins _ _ _)=>True
 |some (.ext _)=>True
 |_=>False
section
variable{P:AI}{w:Ah}{h h':Ak}{x e:Ac}{o':HO}
theorem B7.write(ok:B7 P w H h)(d:Mf (H x))(j:e=x\/H e=Z (.own x))(k:∀b u,b≠e->h.get? b=Z u->h'.get? b=Z u)(i:∃u,h'.get? e=Z u)
  (new:AY P w (AN H x o') h' x o'):B7 P w (AN H x o') h':=λb u q=>by
 by_cases f:b=x
 ·subst f;rw[ZZ]at q;cases q;exact new
 ·rw[Zq f]at q
  by_cases a:b=e
  ·have l:H b=Z (.own x):=by
    rcases j with z|z
    ·exact absurd (a.trans z) f
    ·rw[a];exact z
   rw[q]at l;cases l
   obtain⟨v,n⟩:=i
   exact#[v,a ▸ n]
  ·refine(ok b u q).stay (λc v g r=>k c v ?_ r) (λc r=>by rw[Zq ((λc y r z=>by subst z;rw[r]at d;exact d) c b r)];exact r) λc m r=>by rw[Zq ((λc m r z=>by subst z;rw[r]at d;exact d) c m r)];exact r
   rcases g with rfl|g
   ·exact a
   ·rintro rfl
    rcases j with z|z
    ·exact(λc y r z=>by subst z;rw[r]at d;exact d) c b g z
    ·rw[g]at z;cases z;exact f rfl
end
structure Un(fs ex:List Ac)(H H':Hp)(h h':Ak):Prop where
 keep:∀b o,h.get? b=Z o->H b=J->b∉fs->b∉ex->h'.get? b=Z o
 slot:∀b o,h.get? b=Z o->H b=J->b∈fs->b∉ex->∃sl,h'.get? b=Z {o with slots:=sl}
 free:∀b o,h.get? b=Z o->H b=J->b∉ex->H' b=J
 there:∀b o,h.get? b=Z o->b∉ex->∃o',h'.get? b=Z o'
 tups:∀b xs,H b=Z (.tup xs)->H' b=Z (.tup xs)
 frzs:∀b o u,H b=Z (.frz o u)->H' b=Z (.frz o u)
 tbls:∀b ps,H b=Z (.tbl ps)->∃more,H' b=Z (.tbl (ps++more))
section
variable{fs ex:U Ac}{H1:Hp}{h h1 h':Ak}{x e:Ac}{o:HO}
theorem Un.any(u:Un fs ex H H1 h h1){b:Ac}{ob:Obj}(q:h.get? b=Z ob)(n:H b=J)(a:b∉ex):∃d,h1.get? b=Z {ob with slots:=d}:=by
 by_cases c:b∈fs
 ·exact u.slot b ob q n c a
 ·exact#[ob.slots,u.keep b ob q n c a]
theorem Un.kept(k:∀b u,h.get? b=Z u->h'.get? b=Z u):Un fs ex H H h h':=
 #[λb ob q _ _ _=>k b ob q,λb ob q _ _ _=>#[ob.slots,k b ob q],λ_ _ _ n _=>n,λb ob q _=>#[ob,k b ob q],λ_ _ q=>q,λ_ _ _ q=>q,λ_ a q=>#[(T' []),by rw[q];simp]]
theorem Un.refl:Un fs ex H H h h:=by grind [Un.kept]
theorem Un.laid(k:∀b u,h.get? b=Z u->h'.get? b=Z u)(d:h.objs.size<=a)(c:H a=J):Un fs ex H (AN H a o) h h' where
 keep:=λb u q _ _ _=>k b u q
 slot:=λb u q _ _ _=>#[u.slots,k b u q]
 free:=λb u q n _=>Zq (BX (BE (Br q) d)) ▸ n
 there:=λb u q _=>#[u,k b u q]
 tups:=λb e q=>Zq (ZV q c) ▸ q
 frzs:=λb u e q=>Zq (ZV q c) ▸ q
 tbls:=λb f q=>#[(T' []),by rw[Zq (ZV q c),q];simp]
theorem Un.write(a:Mf (H x))(l:e=x\/H e=Z (.own x))(k:∀b u,b≠e->h.get? b=Z u->h'.get? b=Z u)(f:∃u,h'.get? e=Z u):Un fs ex H (AN H x o) h h':=by
 have g:∀b,H b=J->b≠x:=λb n z=>by subst z;rw[n]at a;exact a
 have d:∀b,H b=J->b≠e:=λb n z=>by
  simp_all
 have c:∀b u,H b=Z u->¬ Mf (Z u)->b≠x:=λb u q i z=>by subst z;rw[q]at a;exact i a
 refine#[λb u q n _ _=>k b u (d b n) q,λb u q n _ _=>#[u.slots,k b u (d b n) q],λb u q n _=>Zq (g b n) ▸ n,λb u q _=>?_,
  λb j q=>Zq (c b _ q λz=>z) ▸ q,λb u j q=>Zq (c b _ q λz=>z) ▸ q,λb m q=>#[(T' []),by rw[Zq (c b _ q λz=>z),q];simp]]
 grind
end
def Oh(h:Ak)(H:Hp):U Ac:=(Bf h.objs.size).filter λa=>(H a).isSome
def JN(h:Ak)(H:Hp):Ak:=PySem.W.hideAll h (Oh h H)
theorem jH(h:Ak)(H:Hp):(JN h H).objs.size=h.objs.size:=PySem.W.hideAll_size _ _
theorem VX{h:Ak}{b:Ac}(e:h.get? b=Z o)(n:H b=J):(JN h H).get? b=Z o:=
 PySem.W.hideAll_get _ e λa=>by
  have q:(H b).isSome=J':=(Mg.mp a).2
  simp_all
theorem jI{h:Ak}{b:Ac}(e:(JN h H).get? b=Z o):h.get? b=Z o/\H b=J:=by
 refine#[(PySem.W.of_hideAll (Oh h H) e),?_]
 cases q:H b with
 |none=>rfl
 |some x=>
  have z:(JN h H).get? b=J:=PySem.W.hideAll_none (Oh h H) (Mg.mpr #[ET.mpr (Br (PySem.W.of_hideAll (Oh h H) e)),by simp[q]])
  simp_all
noncomputable def jJ(g h:Ak)(L:Ac):AS:=(Bf h.objs.size).filterMap λa=>if a=L\/(g.get? a).isSome=J' then J else(h.get? a).map λo=>(a,o)
def Ax(g h:Ak)(L d:Ac):AS:=(jJ g h L).filter λp=>decide (p.1≠d)
structure Mod(K:Am)(mg:Bl)(base:Ak):Prop where
 kin:K.In base
 glob:base.Ns BN mg
 blt:∃mb,base.Ns builtinsNs mb/\∀x:Ae,x≠"__name__"->mb x=DO x
 nolimit:base.NoLimit
structure Cx where
 prog:AI
 w:Ah
 K:Am
 mg:Bl
 base:Ak
 A:Ag
 N:List Ae
 s₀:Ab
 H₀:Hp
 env:Env
 outer:List Env
 stack:List Env
 ex:List Ac
 fn:Ae->Bool
 calm:Bool
 pn:AS
 xe:AJ
variable{X Y:Cx}
def Cd(l:U Env):U Ac:=l.filterMap (·.frame)
abbrev Cx.fs(X:Cx):U Ac:=Cd X.outer
def Mh(a:Scope)(x:Ae):Prop:=a.names.lookup x=Z .local\/a.names.lookup x=Z .cell\/a.names.lookup x=Z .free
def Loc(a:Scope)(x:Ae):Prop:=a.names.lookup x=Z .local\/a.names.lookup x=Z .cell
def jK(env:Env)(h:Ak)(m:Bl)(x:Ae)(u:Aa):Prop:=
 (env.kindOf x=Z .local/\m x=Z u)\/((env.kindOf x=Z .cell\/env.kindOf x=Z .free)/\∃c,env.cells.lookup x=Z c/\h.IsCell c (Z u))
structure Cx.Ok(X:Cx):Prop where
 mod:Mod X.K X.mg X.base
 kind:X.env.scope.kind=.function
 glob:X.env.globals=BN
 blt:X.env.builtins=builtinsNs
 above:X.s₀.heap.objs.size<=X.env.locals
 inj:∀x y c,X.env.cells.lookup x=Z c->X.env.cells.lookup y=Z c->x=y
 has:∀x,(X.env.kindOf x=Z .cell\/X.env.kindOf x=Z .free)->∃c,X.env.cells.lookup x=Z c
 cab:∀x c,X.fn x=J'->X.env.cells.lookup x=Z c->X.s₀.heap.objs.size<=c
 hd:X.calm=J'->X.A.handled=J
 frames:X.A.frames=Z X.stack
 stk:X.stack=X.outer\/(X.stack=X.env::X.outer/\X.env.frame=Z X.env.locals)
 exf:∀b∈X.ex,b≠X.env.locals/\∀x c,X.env.cells.lookup x=Z c->c≠b
 bs:∀b o,X.base.get? b=Z o->X.s₀.heap.get? b=Z o/\X.H₀ b=J
 bsz:X.base.objs.size<=X.s₀.heap.objs.size
 noex:∀b o,X.base.get? b=Z o->b∉X.ex
 exfs:∀b∈X.ex,b∉X.fs
 funs:X.s₀.heap.FunFrames X.base X.outer
 frf:∀b∈X.fs,X.H₀ b=J
structure Inv(X:Cx)(pins:AS)(I:List (Option V))(H:Hp)(s:Ab):Prop where
 ok:X.Ok
 os:s.os=X.s₀.os
 bare:AllBare s.gens
 base:Un X.fs X.ex X.H₀ H X.s₀.heap s.heap
 loc:∃m,s.heap.Ns X.env.locals m/\∀(i:Nat) (x:Ae) (v:V),X.N[i]?=Z x->I[i]?=Z (Z v)->Mh X.env.scope x->∃u,RelV v u/\jK X.env s.heap m x u
 cell:∀x c,X.env.cells.lookup x=Z c->∃v,s.heap.IsCell c v
 free:H X.env.locals=J
 freeC:∀x c,X.env.cells.lookup x=Z c->H c=J
 pin:∀p∈X.pn++pins,s.heap.get? p.1=Z p.2/\H p.1=J/\p.1≠X.env.locals/\p.1∉X.fs/\∀v,p.2.data≠.cell v
 hok:B7 X.prog X.w H s.heap
 len:I.length=X.N.length
section
variable{I:U (O V)}{s:Ab}{h':Ak}
theorem Cx.Ok.nofr(ok:X.Ok){b:Ac}(e:X.base.get? b=Z o):b∉X.fs:=λa=>by
 have:=(ok.funs.mem a).1
 simp_all
theorem Inv.bs(a:Inv X pins I H s):∀b o,X.base.get? b=Z o->s.heap.get? b=Z o/\H b=J:=λb o e=>
 #[a.base.keep b o (a.ok.bs b o e).1 (a.ok.bs b o e).2 (a.ok.nofr e) (a.ok.noex b o e),a.base.free b o (a.ok.bs b o e).1 (a.ok.bs b o e).2 (a.ok.noex b o e)]
theorem Inv.bk(a:Inv X pins I H s):∀b o,X.base.get? b=Z o->s.heap.get? b=Z o:=λb o e=>(a.bs b o e).1
theorem Inv.mod(a:Inv X pins I H s):Mod X.K X.mg X.base:=a.ok.mod
theorem Inv.kIn(a:Inv X pins I H s):X.K.In s.heap:=a.ok.mod.kin.keeps a.bk
theorem Inv.lt(b:Inv X pins I H s):X.env.locals<s.heap.objs.size:=let⟨_,a,_⟩:=b.loc;a.lt
theorem Inv.sz(a:Inv X pins I H s):X.s₀.heap.objs.size<=s.heap.objs.size:=BJ a.ok.above (K1 a.lt)
theorem Inv.nofs(d:Inv X pins I H s)(h:s.heap.objs.size<=a):a∉X.fs:=λb=>by
 obtain⟨_,o,c,_⟩:=d.ok.funs.mem b
 exact absurd (BE (Br c) (BJ d.sz h)) (Hw _)
theorem Inv.cne(i:Inv X pins I H s):∀x c,X.env.cells.lookup x=Z c->c≠X.env.locals:=λx c e z=>by
 obtain⟨v,o,d,hd⟩:=i.cell x c e
 obtain⟨m,⟨f,g,h,a,b,_⟩,_⟩:=i.loc
 simp_all
theorem Inv.funs(n:Inv X pins I H s):s.heap.FunFrames X.base X.outer:=by
 have all:∀(l:U Env),(∀b∈Cd l,b∈X.fs)->X.s₀.heap.FunFrames X.base l->s.heap.FunFrames X.base l:=by
  intro l
  induction l with
  |nil=>intro _ _;trivial
  |cons env r g=>
   rintro f ⟨h,⟨L,o,a,i,j,hd⟩,k⟩
   have c:L∈X.fs:=f L (by unfold Cd;rw[Oi,a];exact Bk)
   obtain⟨m,e⟩:=n.base.slot L o j (n.ok.frf L c) c λz=>n.ok.exfs L z c
   exact#[h,#[L,_,a,i,e,hd],g (λb d=>f b (by unfold Cd;rw[Oi,a];exact Bu _ d)) k]
 exact all X.outer (λ_ d=>d) n.ok.funs
theorem Inv.stack(c:Inv X pins I H s):s.heap.FunFrames X.base X.stack:=by
 rcases c.ok.stk with e|⟨e,a⟩
 ·rw[e];exact c.funs
 ·rw[e]
  obtain⟨m,b,_⟩:=c.loc
  exact .cons (by rw[c.ok.kind];decide) a b (Heap.get?_none_of_le (BJ c.ok.bsz c.ok.above)) c.funs
theorem Inv.stkSub(d:Inv X pins I H s):∀b∈Cd X.stack,b∈X.env.locals::X.fs:=λb a=>by
 rcases d.ok.stk with e|⟨e,c⟩
 ·rw[e]at a;exact Bu _ a
 ·rw[e]at a
  unfold Cd at a
  rw[Oi,c]at a
  exact a
theorem Inv.stkFree(d:Inv X pins I H s):∀b∈Cd X.stack,H b=J:=λb a=>by
 rcases BK.mp (d.stkSub b a)with e|a
 ·rw[e];exact d.free
 ·obtain⟨_,o,c,_⟩:=d.ok.funs.mem a
  exact d.base.free b o c (d.ok.frf b a) λz=>d.ok.exfs b z a
theorem Inv.step(R:Inv X pins I H s)
  (f:∀b∈ch,(b∈X.ex\/X.s₀.heap.objs.size<=b)/\b≠X.env.locals/\(∀x c,X.env.cells.lookup x=Z c->c≠b)/\∀p∈X.pn++pins,p.1≠b)
  (keep:∀b o,b≠X.env.locals->b∉X.fs->b∉ch->s.heap.get? b=Z o->H b=J->h'.get? b=Z o)
  (slot:∀b o,b≠X.env.locals->b∈X.fs->b∉ch->s.heap.get? b=Z o->H b=J->∃F,h'.get? b=Z {o with slots:=F}) (free:∀b o,b∉ch->s.heap.get? b=Z o->H b=J->H' b=J)
  (there:∀b o,b∉ch->s.heap.get? b=Z o->∃B,h'.get? b=Z B)
  (tups:∀b xs,H b=Z (.tup xs)->H' b=Z (.tup xs)) (frzs:∀b o u,H b=Z (.frz o u)->H' b=Z (.frz o u)) (tbls:∀b G,H b=Z (.tbl G)->∃C,H' b=Z (.tbl (G++C)))
  (ns:∀m,s.heap.Ns X.env.locals m->h'.Ns X.env.locals m) (hok:B7 X.prog X.w H' h') (K:AllBare g'):
  Inv X pins I H' {s with heap:=h',gens:=g',drawn:=d',toks:=t' }:=by
 have j:∀b o,X.s₀.heap.get? b=Z o->b∉X.ex->b∉ch:=λb o e a y=>by
  rcases(f b y).1 with z|z
  ·exact a z
  ·exact absurd (BE (Br e) z) (Hw _)
 have g:∀x c,X.env.cells.lookup x=Z c->∀v,s.heap.IsCell c v->h'.IsCell c v:=λx c e v ⟨o,A,hd⟩=>by
  have h:c∉ch:=λz=>(f c z).2.2.1 x c e rfl
  by_cases M:c∈X.fs
  ·obtain⟨F,q⟩:=slot c o (R.cne x c e) M h A (R.freeC x c e)
   exact#[_,q,hd]
  ·exact#[o,keep c o (R.cne x c e) M h A (R.freeC x c e),hd]
 refine#[R.ok,R.os,K,#[λb o e n y a=>?_,λb o e n y a=>?_,λb o e n a=>?_,λb o e a=>?_,λb xs e=>tups b xs (R.base.tups b xs e),λb o xs e=>frzs b o xs (R.base.frzs b o xs e),λb G e=>?_],?_,λx c e=>?_,?_,λx c e=>?_,λp N=>?_,hok,R.len]
 ·exact keep b o ((λb o e=>BX (BE (Br e) R.ok.above)) b o e) y (j b o e a) (R.base.keep b o e n y a) (R.base.free b o e n a)
 ·obtain⟨F,t⟩:=R.base.slot b o e n y a
  obtain⟨L,E⟩:=slot b _ ((λb o e=>BX (BE (Br e) R.ok.above)) b o e) y (j b o e a) t (R.base.free b o e n a)
  exact#[L,E]
 ·obtain⟨B,t⟩:=R.base.there b o e a
  exact free b B (j b o e a) t (R.base.free b o e n a)
 ·obtain⟨B,t⟩:=R.base.there b o e a
  exact there b B (j b o e a) t
 ·obtain⟨Q,t⟩:=R.base.tbls b G e
  obtain⟨T,E⟩:=tbls b _ t
  exact#[Q++T,by rw[E,Array.append_assoc]]
 ·obtain⟨m,P,Y⟩:=R.loc
  refine#[m,ns m P,λi x v t E e3=>?_]
  obtain⟨u,r,l⟩:=Y i x v t E e3
  refine#[u,r,?_]
  rcases l with l|⟨k,c,e,z⟩
  ·exact .inl l
  ·exact .inr #[k,c,e,g x c e _ z]
 ·obtain⟨v,z⟩:=R.cell x c e
  exact#[v,g x c e v z]
 ·obtain⟨m,⟨o,_,_,A,_⟩,_⟩:=R.loc
  exact free _ o (λz=>(f _ z).2.1 rfl) A R.free
 ·obtain⟨v,o,A,hd⟩:=R.cell x c e
  exact free c o (λz=>(f c z).2.2.1 x c e rfl) A (R.freeC x c e)
 ·obtain⟨e,n,ne,nf,d⟩:=R.pin p N
  have h:p.1∉ch:=λz=>(f p.1 z).2.2.2 p N rfl
  exact#[keep p.1 p.2 ne nf h e n,free p.1 p.2 h e n,ne,nf,d]
theorem Inv.un(q:Inv X pins I H s)(u:Un X.fs [] H H' s.heap h')(hok:B7 X.prog X.w H' h'):Inv X pins I H' {s with heap:=h',toks:=t' }:=by
 obtain⟨m,⟨o,k,l,g,r⟩,_⟩:=id q.loc
 obtain⟨p,h⟩:=u.any g q.free (by simp)
 exact q.step (g':=s.gens) (d':=s.drawn) (ch:=[]) (λ_ z=>nomatch z) (λb o _ c _ e n=>u.keep b o e n c (by simp)) (λb o _ c _ e n=>u.slot b o e n c (by simp)) (λb o _ e n=>u.free b o e n (by simp)) (λb o _ e=>u.there b o e (by simp)) u.tups u.frzs u.tbls (λx i=>by
  obtain⟨y,d,f,a,j⟩:=i
  rw[g]at a;cases a
  exact#[_,d,f,h,j]) hok q.bare
theorem Inv.call(E:Inv X pins I H s)(u:Un (Cd X.stack) ch H H' s.heap h')(hok:B7 X.prog X.w H' h')(k:AllBare g')
  (d:∀b∈ch,(b∈X.ex\/X.s₀.heap.objs.size<=b)/\b≠X.env.locals/\(∀x c,X.env.cells.lookup x=Z c->c≠b)/\∀p∈X.pn++pins,p.1≠b):
  Inv X pins I H' {s with heap:=h',gens:=g',drawn:=d',toks:=t' }:=by
 obtain⟨m,⟨o,v,y,j,r⟩,_⟩:=id E.loc
 obtain⟨A,g⟩:=u.any j E.free λz=>(d _ z).2.1 rfl
 exact E.step (ch:=ch) d (λb o g l a e n=>u.keep b o e n (λz=>(BK.mp (E.stkSub b z)).elim g l) a) (λb o _ _ a e n=>u.any e n a) (λb o a e n=>u.free b o e n a) (λb o a e=>u.there b o e a) u.tups u.frzs u.tbls (λB q=>by
  obtain⟨C,h,i,f,t⟩:=q
  rw[j]at f;cases f
  exact#[_,h,i,g,t]) hok k
theorem Inv.turned{it:Ac}(B:Inv X pins I H s)(k:∀b o,b≠it->s.heap.get? b=Z o->h'.get? b=Z o)(g:H it=J)(f:it≠X.env.locals)
  (h:it∈X.ex\/X.s₀.heap.objs.size<=it) (i:∀x c,X.env.cells.lookup x=Z c->c≠it) (j:∀p∈X.pn++pins,p.1≠it):Inv X pins I H {s with heap:=h',toks:=t' }:=by
 have d:∀b u,H b=Z u->b≠it:=λb u e z=>by rw[z,g]at e;cases e
 refine B.step (g':=s.gens) (d':=s.drawn) (ch:=[it]) (λb l=>?_) (λb o _ _ a e _=>k b o (λz=>a (by simp[z])) e) (λb o _ _ a e _=>#[o.slots,k b o (λz=>a (by simp[z])) e]) (λ_ _ _ _ n=>n)
  (λb o a e=>#[o,k b o (λz=>a (by simp[z])) e]) (λ_ _ e=>e) (λ_ _ _ e=>e) (λb G e=>#[(T' []),by rw[e];simp]) (λm t=>?_) (λb u e=>?_) B.bare
 ·have e:b=it:=by simpa using l
  subst e
  exact#[h,f,i,j]
 ·obtain⟨o,w,y,A,r⟩:=t
  exact#[o,w,y,k _ o (B0 f) A,r]
 ·refine(B.hok b u e).stay (λc v a q=>k c v ?_ q) (λ_ q=>q) λ_ _ q=>q
  rcases a with z|z
  ·rw[z];exact d b u e
  ·exact d c _ z
theorem Inv.tok(a:Inv X pins I H s)(t:Nat):Inv X pins I H {s with toks:=t}:=a.un (h':=s.heap) (t':=t) Un.refl a.hok
theorem Inv.kept(a:Inv X pins I H s)(k:∀b u,s.heap.get? b=Z u->h'.get? b=Z u):Inv X pins I H {s with heap:=h',toks:=t' }:=a.un (Un.kept k) (a.hok.kept k)
theorem Inv.laid{o:HO}(d:Inv X pins I H s)(k:∀b u,s.heap.get? b=Z u->h'.get? b=Z u)(c:s.heap.objs.size<=a)(new:AY X.prog X.w (AN H a o) h' a o):
  Inv X pins I (AN H a o) {s with heap:=h',toks:=t' }:=d.un (Un.laid k c (d.hok.fresh c)) (d.hok.laid k c new)
theorem Inv.write{x e:Ac}{o:HO}(f:Inv X pins I H s)(c:Mf (H x))(d:e=x\/H e=Z (.own x))(k:∀b u,b≠e->s.heap.get? b=Z u->h'.get? b=Z u)(a:∃u,h'.get? e=Z u)
  (new:AY X.prog X.w (AN H x o) h' x o):Inv X pins I (AN H x o) {s with heap:=h',toks:=t' }:=f.un (Un.write c d k a) (f.hok.write c d k a new)
theorem Inv.weak{a:U (O V)}(h:Inv X pins I H s)(c:a.length=I.length)(w:∀(i:Nat) v,a[i]?=Z (Z v)->I[i]?=Z (Z v)):Inv X pins a H s:=
 #[h.ok,h.os,h.bare,h.base,let⟨m,d,b⟩:=h.loc;#[m,d,λi x v e f g=>b i x v e (w i v f) g],h.cell,h.free,h.freeC,h.pin,h.hok,c.trans h.len]
theorem Inv.pins_of{a:AS}(c:Inv X pins I H s)(h:∀p∈a,s.heap.get? p.1=Z p.2/\H p.1=J/\p.1≠X.env.locals/\p.1∉X.fs/\∀v,p.2.data≠.cell v):Inv X a I H s:=
 #[c.ok,c.os,c.bare,c.base,c.loc,c.cell,c.free,c.freeC,λp b=>(Dn.mp b).elim (λz=>c.pin p (Iw _ z)) (h p),c.hok,c.len]
theorem VY{N:U Ae}(c:N.Nodup){i:Nat}{x:Ae}(a:N[i]?=Z x)(b:N[j]?=Z x):i=j:=by
 obtain⟨f,d⟩:=Cm.mp a
 obtain⟨g,e⟩:=Cm.mp b
 exact(List.getElem_inj c).mp (d.trans e.symm)
theorem VZ{M:Model}{A:Ag}{i:Nat}{x:Ae}{v:V}(R:Inv X pins I H s)(hN:X.N.Nodup)(P:X.N[i]?=Z x)(t:Loc X.env.scope x)(r:RelV v u)
  (h:∀s',Inv X pins (I.set i (Z v)) H s'->(∃a,DP a s.heap s'.heap/\(a=X.env.locals\/X.env.cells.lookup x=Z a))->Q () s') (hf:X.fn x=J'\/X.env.scope.names.lookup x=Z .local:=by first|exact .inl rfl|exact .inr rfl|assumption):wpAny M A (storeName X.env x u) Q E s:=by
 obtain⟨m,hn,hl⟩:=id R.loc
 have G:i<I.length:=R.len ▸ (Cm.mp P).1
 have g:∀{a:Ac} {h':Ak},(∃o,s.heap.get? a=Z o/\H a=J)->DP a s.heap h'->B7 X.prog X.w H h':=λ{a h'} ha f b ob e=>by
  obtain⟨_,_,hfree⟩:=ha
  refine(R.hok b ob e).stay (λc w' B q=>(f.2 c ?_).trans q) (λ_ q=>q) λ_ _ q=>q
  grind
 rcases t with F|F
 ·refine wpAny_storeName_local F hn (λh' hn' f=>?_) (show(X.env.scope.kind==.class||(X.env.scope.kind==.module&&X.env.locals != X.env.globals))=O' by rw[R.ok.kind];rfl)
  obtain⟨oL,_,_,hoL,_⟩:=id hn
  refine h _ #[R.ok,R.os,R.bare,#[λb o e n L t=>?_,λb o e n L t=>?_,R.base.free,λb o e t=>?_,R.base.tups,R.base.frzs,R.base.tbls],#[_,hn',λj y v' l C e3=>?_],λy c e=>?_,R.free,R.freeC,λp hp=>?_,g #[oL,hoL,R.free] f,by simpa using R.len] #[_,f,.inl rfl]
  ·exact(f.2 b (BX (BE (Br e) R.ok.above))).trans (R.base.keep b o e n L t)
  ·obtain⟨sl,l⟩:=R.base.slot b o e n L t
   exact#[sl,(f.2 b (BX (BE (Br e) R.ok.above))).trans l]
  ·obtain⟨o',l⟩:=R.base.there b o e t
   exact#[o',(f.2 b (BX (BE (Br e) R.ok.above))).trans l]
  ·by_cases K:j=i
   ·subst K
    rw[P]at l;cases l
    rw[Hx G]at C
    cases C
    exact#[u,r,.inl #[F,by simp]]
   ·rw[Ep (B0 K)]at C
    obtain⟨u',r',q⟩:=hl j y v' l C e3
    refine#[u',r',?_]
    rcases q with⟨k,e⟩|⟨k,c,e,z⟩
    ·refine .inl #[k,?_]
     have:y≠x:=λe=>K (VY hN l (e ▸ P))
     simp[this,e]
    ·exact .inr #[k,c,e,z.sameBut f (R.cne y c e)]
  ·obtain⟨w',z⟩:=R.cell y c e
   exact#[w',z.sameBut f (R.cne y c e)]
  ·obtain⟨e,n,ne,nf,d⟩:=R.pin p hp
   exact#[(f.2 p.1 ne).trans e,n,ne,nf,d]
 ·have T:X.fn x=J':=by
   rcases hf with z|z
   ·exact z
   ·rw[z]at F;cases F
  obtain⟨c,B⟩:=R.ok.has x (.inl F)
  obtain⟨w',z⟩:=R.cell x c B
  refine wpAny_storeName_cell R.ok.kind F B z (λh' Y f=>?_)
  obtain⟨oc,hoc,hocd⟩:=id z
  refine h {s with heap:=h' } #[R.ok,R.os,R.bare,#[λb o e n L t=>?_,λb o e n L t=>?_,R.base.free,λb o e t=>?_,R.base.tups,R.base.frzs,R.base.tbls],#[m,hn.sameBut f (B0 (R.cne x c B)),λj y v' l C e3=>?_],λy c' e=>?_,R.free,R.freeC,λp hp=>?_,g #[oc,hoc,R.freeC x c B] f,by simpa using R.len] #[c,f,.inr B]
  ·exact(f.2 b (BX (BE (Br e) (R.ok.cab x c T B)))).trans (R.base.keep b o e n L t)
  ·obtain⟨sl,l⟩:=R.base.slot b o e n L t
   exact#[sl,(f.2 b (BX (BE (Br e) (R.ok.cab x c T B)))).trans l]
  ·obtain⟨o',l⟩:=R.base.there b o e t
   exact#[o',(f.2 b (BX (BE (Br e) (R.ok.cab x c T B)))).trans l]
  ·by_cases K:j=i
   ·subst K
    rw[P]at l;cases l
    rw[Hx G]at C
    cases C
    exact#[u,r,.inr #[.inl F,c,B,Y]]
   ·rw[Ep (B0 K)]at C
    obtain⟨u',r',q⟩:=hl j y v' l C e3
    refine#[u',r',?_]
    rcases q with q|⟨k,c',e,z'⟩
    ·exact .inl q
    ·refine .inr #[k,c',e,z'.sameBut f ?_]
     rintro rfl
     exact K (VY hN l (R.ok.inj _ _ _ e B ▸ P))
  ·by_cases hcc:c'=c
   ·subst hcc;exact#[_,Y]
   ·obtain⟨w2,z2⟩:=R.cell y c' e
    exact#[w2,z2.sameBut f hcc]
  ·obtain⟨e,n,ne,nf,d⟩:=R.pin p hp
   refine#[(f.2 p.1 ?_).trans e,n,ne,nf,d]
   grind
theorem Ra{M:Model}{A:Ag}{i:Nat}{x:Ae}{v:V}(f:Inv X pins I H s)(a:X.N.Nodup)(b:X.N[i]?=Z x)(c:Loc X.env.scope x)(r:RelV v u)
  (h:∀s',Inv X pins (I.set i (Z v)) H s'->Q () s') (d:X.fn x=J'\/X.env.scope.names.lookup x=Z .local:=by first|exact .inl rfl|exact .inr rfl|assumption):wpAny M A (storeName X.env x u) Q E s:=
 VZ f a b c r (λs' e _=>h s' e) d
theorem Inv.call'(j:Inv X pins I H s)(g:s'.os=s.os)(u:Un (Cd X.stack) ch H H' s.heap s'.heap)(hok:B7 X.prog X.w H' s'.heap)(h:AllBare s'.gens)
  (a:∀b∈ch,(b∈X.ex\/X.s₀.heap.objs.size<=b)/\b≠X.env.locals/\(∀x c,X.env.cells.lookup x=Z c->c≠b)/\∀p∈X.pn++pins,p.1≠b):Inv X pins I H' s':=by
 obtain⟨h',d,e,f,i⟩:=s'
 subst g
 exact j.call (g':=d) (t':=f) (d':=e) u hok h a
end
abbrev XK:=Aa->O Ac->Hp->Prop
abbrev St:=U (O V)
variable{I:St}
abbrev VK:=V->Hp->Prop
abbrev TE:=St->Hp->VK->Prop
variable{ta tb te:TE}
abbrev TT:=St->Hp->(Bool->Hp->Prop)->Prop
abbrev TA:=St->Hp->(U V->Hp->Prop)->Prop
structure Ends where
 nx:St->Hp->Prop
 rt:VK
 bk:St->Hp->Prop:=λ_ _=>False
 ct:St->Hp->Prop:=λ_ _=>False
abbrev TS:=Ends->St->Hp->Prop
def EP(X:Cx)(a:AS)(I:St)(Q:VK)(u:Aa)(s':Ab):Prop:=∃v b,Inv X a I b s'/\RelV v u/\Q v b
def TP(X:Cx)(a:AS)(I:St)(Q:Bool->Hp->Prop)(b:Bool)(s':Ab):Prop:=∃c,Inv X a I c s'/\Q b c
def AP(X:Cx)(a:AS)(I:St)(Q:U V->Hp->Prop)(us:U Aa)(s':Ab):Prop:=∃b c,Inv X a I c s'/\An b us/\Q b c
def SP(X:Cx)(b:AS)(D:Ends)(f:Flow)(s':Ab):Prop:=
 match f with
 |.next=>∃a c,Inv X b a c s'/\D.nx a c
 |.brk=>∃a c,Inv X b a c s'/\D.bk a c
 |.cont=>∃a c,Inv X b a c s'/\D.ct a c
 |.ret u=>∃v a c,Inv X b a c s'/\RelV v u/\D.rt v c
def PE(X:Cx)(e:Expr)(t:TE):Prop:=
 ∀(a:AS) (s:Ab) (b:St) (H:Hp) (Q:VK),Inv X a b H s->t b H Q->wpAny (Af X.prog X.w) X.A (Ao e X.env) (EP X a b Q) X.xe s
def PT(X:Cx)(e:Expr)(t:TT):Prop:=
 ∀(a:AS) (s:Ab) (b:St) (H:Hp) (Q:Bool->Hp->Prop),Inv X a b H s->t b H Q->wpAny (Af X.prog X.w) X.A (isTrue e X.env (Ao e X.env)) (TP X a b Q) X.xe s
def PW(X:Cx)(e:Expr)(t:TT):Prop:=
 ∀(b:Sem Aa) (a:AS) (s:Ab) (c:St) (H:Hp) (Q:Bool->Hp->Prop),Inv X a c H s->t c H Q->wpAny (Af X.prog X.w) X.A (isTrue e X.env b) (TP X a c Q) X.xe s
theorem PW.pt{e:Expr}{t:TT}(h:PW X e t):PT X e t:=h _
def PA(X:Cx)(es:U Expr)(t:TA):Prop:=
 ∀(b:Az) (a:AS) (s:Ab) (c:St) (H:Hp) (Q:U V->Hp->Prop),Inv X a c H s->t c H Q->wpAny (Af X.prog X.w) X.A (spliced (Ay b (AE es X.env))) (AP X a c Q) X.xe s
def PS(X:Cx)(st:Au)(t:TS):Prop:=
 ∀(a:AS) (s:Ab) (b:St) (H:Hp) (D:Ends),Inv X a b H s->t D b H->wpAny (Af X.prog X.w) X.A (exec st X.env) (SP X a D) X.xe s
def Ez(X:Cx)(st:U Au)(t:TS):Prop:=
 ∀(a:AS) (s:Ab) (b:St) (H:Hp) (D:Ends),Inv X a b H s->t D b H->wpAny (Af X.prog X.w) X.A (execs st X.env) (SP X a D) X.xe s
theorem AV{b:Type}{t:Sem b}{Q Q':b->Ab->Prop}{M:Model}{A:Ag}{s:Ab}(h:wpAny M A t Q E s)(c:∀a s,Q a s->Q' a s):wpAny M A t Q' E s:=CU h c λ_ _ x=>x
section
def V0(i:Nat):TE:=λa H Q=>∃v,a[i]?=Z (Z v)/\Q v H
def tC(v:V):TE:=λ_ H Q=>Q v H
theorem V1{i:Nat}{x:Ae}(j:X.N[i]?=Z x)(k:Mh X.env.scope x)(hd:Cg x:=by ext)(d:(x==("__classdict__":Ae))=O':=by ext):PE X (.Name x pos) (V0 i):=by
 intro f s q H Q t h
 obtain⟨v,e,h⟩:=h
 obtain⟨m,n,o⟩:=t.loc
 obtain⟨u,r,l⟩:=o i x v j e k
 rcases l with⟨b,p⟩|⟨b,c,g,a⟩
 ·exact wpAny_Name (wpAny_loadName_local t.ok.kind b n p #[v,H,t,r,h]) hd
 ·rcases b with b|b
  ·exact wpAny_Name (wpAny_loadName_cell t.ok.kind b g a #[v,H,t,r,h]) hd
  ·exact wpAny_Name (wpAny_loadName_free t.ok.kind b g a #[v,H,t,r,h] d) hd
theorem jM {i j pos}:PE X (.Constant (.int i) j pos) (tC (.int i)):=λ_ _ _ H _ a h=>wpAny_Constant_int #[.int i,H,a.tok _,#[_,rfl],h]
theorem jN {b j pos}:PE X (.Constant (.bool b) j pos) (tC (.bl b)):=λ_ _ _ H _ a h=>Constant_bool #[.bl b,H,a,rfl,h]
theorem jP {j pos}:PE X (.Constant .none j pos) (tC .non):=λ_ _ _ H _ a h=>Constant_none #[.non,H,a,rfl,h]
theorem jQ {x j pos}:PE X (.Constant (.str x) j pos) (tC (.str x)):=λ_ _ _ H _ a h=>Calls.Constant_str #[.str x,H,a.tok _,#[_,rfl],h]
def Gl(X:Cx)(x:Ae):Prop:=X.env.kindOf x=Z .globalImplicit
theorem Mi{a:AS}{s:Ab}{x:Ae}{Q:AJ}(d:Inv X a I H s)(b:Gl X x)(c:X.mg x=Z u)(h:Q u s)
  (hd:Cg x:=by ext):wpAny (Af X.prog X.w) X.A (Ao (.Name x pos) X.env) Q E s:=
 Calls.Name_function_global d.ok.kind b (Calls.loadGlobal_global (d.ok.glob ▸ d.mod.glob.keeps d.bk) c h) hd
theorem GS{a:AS}{s:Ab}{x:Ae}{Q:AJ}(j:Inv X a I H s)(b:Gl X x)(c:X.mg x=J)(d:DO x=Z u)(h:Q u s)
  (e:x≠"__name__":=by ext) (hd:Cg x:=by ext):wpAny (Af X.prog X.w) X.A (Ao (.Name x pos) X.env) Q E s:=by
 obtain⟨i,f,g⟩:=j.mod.blt
 exact Calls.Name_function_global j.ok.kind b (Calls.loadGlobal_builtin (j.ok.glob ▸ j.mod.glob.keeps j.bk) c (j.ok.blt ▸ f.keeps j.bk) ((g x e).trans d) h) hd
theorem Rb{x:Ae}{v:V}(a:Gl X x)(b:X.mg x=Z u)(r:RelV v u)(hd:Cg x:=by ext):PE X (.Name x pos) (tC v):=
 λ_ _ _ H _ c h=>Mi c a b #[v,H,c,r,h] hd
theorem V2{x:Ae}{v:V}(a:Gl X x)(b:X.mg x=J)(c:DO x=Z u)(r:RelV v u)(d:x≠"__name__":=by ext)(hd:Cg x:=by ext):PE X (.Name x pos) (tC v):=
 λ_ _ _ H _ e h=>GS e a b c #[v,H,e,r,h] d hd
variable{a b:Expr}
def PC(X:Cx)(op:CmpOp)(a b:Expr)(t:TE):Prop:=
 ∀(c:AS) (s:Ab) (f:St) (H:Hp) (Q:VK),Inv X c f H s->t f H Q ->
  wpAny (Af X.prog X.w) X.A (Ao a X.env) (λv d=>wpAny (Af X.prog X.w) X.A (Ao b X.env) (λu e=>wpAny (Af X.prog X.w) X.A (C8 op v u) (EP X c f Q) X.xe e) X.xe d) X.xe s
theorem Ge(b:Expr){op:CmpOp}(h:op≠.In)(a:op≠.NotIn):FA op b=O':=by
 cases b with
 |Set _ k _=>
  show(k==0&&(op==.In||op==.NotIn)&&_)=O'
  rw[beq_false_of_ne h,beq_false_of_ne a]
  simp
 |_=>rfl
def jR(ta:TE):TE:=λa H Q=>ta a H λx b=>Q (.bl (decide (x=.non))) b
def jS(ta:TE):TE:=λa H Q=>ta a H λx b=>Q (.bl (!decide (x=.non))) b
theorem RelV.none_iff{x:V}{v:Aa}(r:RelV x v):(v==Gb)=decide (x=.non):=by
 cases x with
 |non=>cases r;rfl
 |bl _=>cases r;rfl
 |int _=>obtain⟨t,rfl⟩:=r;rfl
 |str _=>obtain⟨t,rfl⟩:=r;rfl
 |ref _=>cases r;rfl
 |ty _=>cases r;rfl
theorem V3 {j b} (d:PE X a ta):PC X .Is a (.Constant .none j b) (jR ta):=by
 intro c s e H Q n h
 refine AV (d c s e H _ n h) λv m f=>?_
 obtain⟨x,g,i,k,l⟩:=f
 exact Constant_none (is_none_gen #[.bl _,g,i,by rw[k.none_iff];rfl,l])
theorem V4 {j b} (d:PE X a ta):PC X .IsNot a (.Constant .none j b) (jS ta):=by
 intro c s e H Q n h
 refine AV (d c s e H _ n h) λv m f=>?_
 obtain⟨x,g,i,k,l⟩:=f
 exact Constant_none (isnot_none_gen #[.bl _,g,i,by rw[k.none_iff];rfl,l])
def tB(t:TE):TT:=λa H Q=>t a H λx b=>∃c,x=.bl c/\Q c b
theorem V5{op:CmpOp}{t:TE}(h:PC X op a b t)(d:FA op b=O':=by first|exact Ge _ (by ext) (by ext)|rfl):PE X (.Compare a [op] [b] pos) t:=λc s e H Q g f=>wpAny_Compare1 (h c s e H Q g f) d
theorem V6{op:CmpOp}{t:TE}(h:PC X op a b t)(f:FA op b=O':=by first|exact Ge _ (by ext) (by ext)|rfl):PT X (.Compare a [op] [b] pos) (tB t):=by
 intro e s g H Q w i
 refine wpAny_isTrue_Compare1 (AV (h e s g H _ w i) λv o f=>AV f λu p j=>AV j λc r k=>?_) f
 obtain⟨x,l,m,n,d,rfl,q⟩:=k
 cases n
 exact Ix #[l,m,q]
variable{tA BC:TT}{Ax:U Expr}
def V7(t u:TT):TT:=λa H Q=>t a H λc b=>if c=J' then u a b Q else Q O' b
def V8(t u:TT):TT:=λa H Q=>t a H λc b=>if c=J' then Q J' b else u a b Q
def jU(t:TT):TT:=λa H Q=>t a H λc b=>Q (!c) b
theorem jV(d:PT X a tA):PW X (.BoolOp .And [a] pos) tA:=by
 intro wh b s f H Q i h
 refine isTrue_and (AV (d b s f H Q i h) λc g e=>?_)
 cases c with
 |true=>exact isTrue_and_nil e
 |false=>exact e
theorem V9(d:PT X a tA):PW X (.BoolOp .Or [a] pos) tA:=by
 intro wh b s f H Q i h
 refine isTrue_or (AV (d b s f H Q i h) λc g e=>?_)
 cases c with
 |false=>exact isTrue_or_nil e
 |true=>exact e
theorem jW(j:PT X a tA)(k:PW X (.BoolOp .And (b::Ax) pos) BC):PW X (.BoolOp .And (a::b::Ax) pos) (V7 tA BC):=by
 intro wh d s e H Q m h
 refine isTrue_and (AV (j d s e H _ m h) λc l ⟨f,g,i⟩=>?_)
 cases c with
 |true=>exact k wh d l e f Q g i
 |false=>exact#[f,g,i]
theorem Wa(j:PT X a tA)(k:PW X (.BoolOp .Or (b::Ax) pos) BC):PW X (.BoolOp .Or (a::b::Ax) pos) (V8 tA BC):=by
 intro wh d s e H Q m h
 refine isTrue_or (AV (j d s e H _ m h) λc l ⟨f,g,i⟩=>?_)
 cases c with
 |true=>exact#[f,g,i]
 |false=>exact k wh d l e f Q g i
theorem jX(d:PT X a tA):PT X (.UnaryOp .Not a pos) (jU tA):=by
 intro b s e H Q g h
 exact isTrue_not (d b s e H (λc f=>Q (!c) f) g h)
def jY(ta tb:TE):TE:=λa H Q=>ta a H λx b=>∃c,x=.bl c/\if c=J' then tb a b Q else Q (.bl O') b
def jZ(ta tb:TE):TE:=λa H Q=>ta a H λx b=>∃c,x=.bl c/\if c=J' then Q (.bl J') b else tb a b Q
def j0(ta:TE):TE:=λa H Q=>ta a H λx b=>∃c,x=.bl c/\Q (.bl (!c)) b
theorem j1 {op} {t:TE} (h:PE X a t):PE X (.BoolOp op [a] pos) t:=λb s c H Q e d=>BoolOp_one (h b s c H Q e d)
theorem j2(j:PE X a ta)(k:PE X (.BoolOp .And (b::Ax) pos) tb):PE X (.BoolOp .And (a::b::Ax) pos) (jY ta tb):=by
 intro d s f H Q o h
 refine BoolOp_and (AV (j d s f H _ o h) λv l m=>?_)
 obtain⟨x,g,i,n,e⟩:=m
 obtain⟨c,rfl,e⟩:=e
 cases n
 refine Ix ?_
 cases c with
 |true=>exact k d l f g Q i e
 |false=>exact#[.bl O',g,i,rfl,e]
theorem j3(j:PE X a ta)(k:PE X (.BoolOp .Or (b::Ax) pos) tb):PE X (.BoolOp .Or (a::b::Ax) pos) (jZ ta tb):=by
 intro d s f H Q o h
 refine BoolOp_or (AV (j d s f H _ o h) λv l m=>?_)
 obtain⟨x,g,i,n,e⟩:=m
 obtain⟨c,rfl,e⟩:=e
 cases n
 refine Ix ?_
 cases c with
 |false=>exact k d l f g Q i e
 |true=>exact#[.bl J',g,i,rfl,e]
theorem j4(e:PE X a ta):PE X (.UnaryOp .Not a pos) (j0 ta):=by
 intro b s f H Q m h
 refine UnaryOp_ (AV (e b s f H _ m h) λv l g=>?_)
 obtain⟨x,i,j,k,d⟩:=g
 obtain⟨c,rfl,d⟩:=d
 cases k
 exact not_of (Ix #[.bl (!c),i,j,rfl,d])
def j5(t:TT)(ta tb:TE):TE:=λa H Q=>t a H λc b=>if c=J' then ta a b Q else tb a b Q
theorem j6{c:Expr}(l:PT X c tA)(m:PE X a ta)(n:PE X b tb):PE X (.IfExp c a b pos) (j5 tA ta tb):=by
 intro e s f H Q o h
 refine wpAny_IfExp (AV (l e s f H _ o h) λd g ⟨i,j,k⟩=>?_)
 cases d with
 |true=>exact m e g f i Q j k
 |false=>exact n e g f i Q j k
end
def BF(K:Am)(H:Hp)(a:Ac)(xs:U V):Prop:=
 Rd H a (.lst xs) \/
  ∃(o:Obj) (b:Array Aa) (n:Nat),K.lookup a=Z o/\o.cls=.type "list"/\o.dict=J/\o.data=.seq b n/\b.size<=AA/\An xs b.toList
def B1(K:Am)(H:Hp)(a:Ac)(xs:U V):Prop:=
 Rd H a (.tup xs) \/
  ∃(o:Obj) (b:Array Aa) (n:Nat),K.lookup a=Z o/\o.cls=.type "tuple"/\o.data=.seq b n/\b.size<=AA/\An xs b.toList
noncomputable def j7:Aa->O V
 |.none=>Z .non
 |.bool b=>Z (.bl b)
 |.int i _=>Z (.int i)
 |.str x _=>Z (.str x)
 |.ref a=>Z (.ref a)
 |.type n=>Z (.ty n)
 |_=>J
theorem RelV.abs{x:V}(r:RelV x u):j7 u=Z x:=by
 cases x with
 |non=>cases r;rfl
 |bl _=>cases r;rfl
 |int _=>obtain⟨t,rfl⟩:=r;rfl
 |str _=>obtain⟨t,rfl⟩:=r;rfl
 |ref _=>cases r;rfl
 |ty _=>cases r;rfl
theorem RelV.inj{x y:V}(r:RelV x u)(q:RelV y u):x=y:=Gf (r.abs.symm.trans q.abs)
theorem An.inj{xs:U V}{us:U Aa}(h:An xs us)(g:An ys us):xs=ys:=by
 induction h generalizing ys with
 |nil=>cases g;rfl
 |cons r _ a=>
  cases g with
  |cons q t=>rw[r.inj q,a t]
section
variable{s:Ab}{xs:U V}
theorem B1.of{K:Am}(h:H a=Z (.tup xs)):B1 K H a xs:=.inl (.inl h)
theorem Inv.list(i:Inv X pins I H s)(h:BF X.K H a xs):∃b:U Aa,An xs b/\PlainL s.heap a b.toArray/\xs.length<=AA:=by
 rcases h with h|⟨o,b,n,c,d,hd,f,g,r⟩
 ·obtain⟨z,b,n,r,e⟩:=h.ok i.hok
  exact#[b,r,#[_,n,e,rfl,rfl,rfl],z]
 ·refine#[b.toList,r,#[o,n,i.kIn a o c,d,hd,by simpa using f],?_]
  have e:=r.length
  erw[Re]at e
  lia
theorem Inv.tuple(i:Inv X pins I H s)(h:B1 X.K H a xs):∃b:U Aa,An xs b/\IsTup s.heap a b.toArray/\xs.length<=AA:=by
 rcases h with h|⟨o,b,n,c,d,f,g,r⟩
 ·obtain⟨z,b,r,p⟩:=h.ok i.hok
  exact#[b,r,p,z]
 ·refine#[b.toList,r,#[o,i.kIn a o c,d,n,by simpa using f],?_]
  have e:=r.length
  erw[Re]at e
  lia
theorem Inv.list_inj(m:Inv X pins I H s)(h:BF X.K H a xs)(h':BF X.K H a ys):xs=ys:=by
 obtain⟨c,r,⟨o,n,e,_,_,d⟩,_⟩:=m.list h
 obtain⟨b,i,⟨k,l,f,_,_,g⟩,_⟩:=m.list h'
 rw[e]at f;cases f
 rw[d]at g
 injection g with j _
 have:c=b:=by simpa using congrArg Array.toList j
 subst this
 exact r.inj i
theorem Inv.tuple_inj(m:Inv X pins I H s)(h:B1 X.K H a xs)(h':B1 X.K H a ys):xs=ys:=by
 obtain⟨c,r,⟨o,e,_,n,d⟩,_⟩:=m.tuple h
 obtain⟨b,i,⟨k,f,_,l,g⟩,_⟩:=m.tuple h'
 rw[e]at f;cases f
 rw[d]at g
 injection g with j _
 have:c=b:=by simpa using congrArg Array.toList j
 subst this
 exact r.inj i
end
noncomputable abbrev Cx.wish(X:Cx)(E:AJ):Cx:={X with xe:=E}
abbrev Cx.nox(X:Cx):Cx:=X.wish λ_ _=>False
theorem Cx.Ok.wish(ok:X.Ok)(E:AJ):(X.wish E).Ok:=
 #[ok.mod,ok.kind,ok.glob,ok.blt,ok.above,ok.inj,ok.has,ok.cab,ok.hd,ok.frames,ok.stk,ok.exf,ok.bs,ok.bsz,ok.noex,ok.exfs,ok.funs,ok.frf]
theorem Cx.Ok.unwish(ok:(X.wish E).Ok):X.Ok:=
 #[ok.mod,ok.kind,ok.glob,ok.blt,ok.above,ok.inj,ok.has,ok.cab,ok.hd,ok.frames,ok.stk,ok.exf,ok.bs,ok.bsz,ok.noex,ok.exfs,ok.funs,ok.frf]
section
variable{s:Ab}
theorem Inv.wish(a:Inv X pins I H s)(E:AJ):Inv (X.wish E) pins I H s:=#[a.ok.wish E,a.os,a.bare,a.base,a.loc,a.cell,a.free,a.freeC,a.pin,a.hok,a.len]
theorem Inv.unwish(a:Inv (X.wish E) pins I H s):Inv X pins I H s:=#[a.ok.unwish,a.os,a.bare,a.base,a.loc,a.cell,a.free,a.freeC,a.pin,a.hok,a.len]
theorem SP.unwish{D:Ends}{f:Flow}(h:SP (X.wish E) pins D f s'):SP X pins D f s':=by
 cases f with
 |next=>obtain⟨a,b,c,q⟩:=h;exact#[a,b,c.unwish,q]
 |brk=>obtain⟨a,b,c,q⟩:=h;exact#[a,b,c.unwish,q]
 |cont=>obtain⟨a,b,c,q⟩:=h;exact#[a,b,c.unwish,q]
 |ret u=>obtain⟨v,a,b,c,r,q⟩:=h;exact#[v,a,b,c.unwish,r,q]
theorem Ez.nox{st:U Au}{t:TS}(h:Ez X.nox st t):Ez X st t:=λpins s I H D b a=>
 CU (h pins s I H D (b.wish _) a) (λ_ _ q=>q.unwish) λ_ _ z=>BP z
end
section
variable{st:Au}{Ax:U Au}{t u:TS}{e:Expr}
def j8:TS:=λD a H=>D.nx a H
def j9(t u:TS):TS:=λD a H=>t {D with nx:=u D} a H
theorem Fd:Ez X [] j8:=λ_ _ a H _ b h=>wpAny_execs_nil #[a,H,b,h]
theorem Wb(c:PS X st t)(d:Ez X Ax u):Ez X (st::Ax) (j9 t u):=by
 intro a s e H D k h
 refine Oj (AV (c a s e H {D with nx:=u D} k h) λf g q=>?_)
 cases f with
 |next=>
  obtain⟨b,i,j,q⟩:=q
  exact d a g b i D j q
 |ret v=>exact q
 |brk=>exact q
 |cont=>exact q
theorem Inv.quiet{a:AS}{s:Ab}(b:Inv X a I H s):interactive X.env=O':=by simp[interactive,b.ok.kind]
def ka(te:TE):TS:=λD a H=>te a H λ_ b=>D.nx a b
theorem Rf(c:PE X e te)(d:Dv e J pos.line X.env=AC O':=by rfl):PS X (.Expr e pos) (ka te):=by
 intro a s b H D l h
 exact wpAny_Expr_any (AV (c a s b H _ l h) λv j ⟨x,f,g,k,i⟩=>#[b,f,g,i]) l.quiet d
def kc(te:TE):TS:=λD a H=>te a H D.rt
theorem Ol(c:PE X e te):PS X (.Return (Z e) pos) (kc te):=by
 intro a s b H D k h
 exact wpAny_Return_some (AV (c a s b H _ k h) λv j ⟨x,d,f,g,i⟩=>#[x,b,d,f,g,i])
def kf(c:TT)(t u:TS):TS:=λD a H=>c a H λb d=>if b=J' then t D a d else u D a d
theorem Om{c:Expr}{a b:U Au}{g:TT}(m:PT X c g)(n:Ez X a t)(o:Ez X b u):PS X (.If c a b pos) (kf g t u):=by
 intro e s f H D p h
 refine wpAny_If (AV (m e s f H _ p h) λd i ⟨j,k,l⟩=>?_)
 cases d with
 |true=>exact n e i f j D k l
 |false=>exact o e i f j D k l
def kg:TS:=λ_ _ _=>False
theorem Gg:PS X st kg:=λ_ _ _ _ _ _ h=>h.elim
end
abbrev TG:=V->St->Hp->(St->Hp->Prop)->Prop
abbrev Hy:=U V->St->Hp->(St->Hp->Prop)->Prop
def PG(X:Cx)(a:Expr)(t:TG):Prop:=
 ∀(b:AS) (s:Ab) (d:St) (H:Hp) (v:V) (u:Aa) (Q:St->Hp->Prop),Inv X b d H s->RelV v u->t v d H Q ->
  wpAny (Af X.prog X.w) X.A (assign a X.env u) (λ_ f=>∃c e,Inv X b c e f/\Q c e) X.xe s
def Mj(X:Cx)(g:U Expr)(t:Hy):Prop:=
 ∀(a:AS) (s:Ab) (c:St) (H:Hp) (d:U V) (e:U Aa) (Q:St->Hp->Prop),Inv X a c H s->An d e->t d c H Q ->
  wpAny (Af X.prog X.w) X.A (assignInOrder ((F1 g X.env).map (·.2)) e) (λ_ h=>∃b f,Inv X a b f h/\Q b f) X.xe s
abbrev On:=V->V->V->Hp->(Hp->Prop)->Prop
def Rg(X:Cx)(t:On):Prop:=
 ∀(a:AS) (s:Ab) (b:St) (H:Hp) (o i v:V) (c d u:Aa) (Q:Hp->Prop),Inv X a b H s->RelV o c->RelV i d->RelV v u->t o i v H Q ->
  wpAny (Af X.prog X.w) X.A (setItem c d u) (λ_ f=>∃e,Inv X a b e f/\Q e) X.xe s
section
def JP(i:Nat):TG:=λv a H Q=>Q (a.set i (Z v)) H
theorem Wc{i:Nat}{x:Ae}(b:X.N.Nodup)(c:X.N[i]?=Z x)(d:Loc X.env.scope x)(e:X.fn x=J'\/X.env.scope.names.lookup x=Z .local:=by first|exact .inl rfl|exact .inr rfl|assumption):PG X (.Name x pos) (JP i):=by
 intro a s g H v u Q k r h
 exact wpAny_assign_Name (Ra k b c d r (λj f=>#[_,H,f,h]) e)
def kh:Hy:=λa b H Q=>a=[]/\Q b H
def ki(t:TG)(u:Hy):Hy:=λb c H Q=>∃v r,b=v::r/\t v c H λa d=>u r a d Q
theorem kj:Mj X [] kh:=by
 intro a s b H c d Q e r h
 obtain⟨rfl,h⟩:=h
 cases r
 exact assignInOrder_nil #[b,H,e,h]
theorem km{e:Expr}{t:TG}{u:Hy}(c:PG X e t)(d:Mj X es u)
  (f:(F1 (e::es) X.env).map (·.2)=assign e X.env::(F1 es X.env).map (·.2):=by rfl):Mj X (e::es) (ki t u):=by
 intro a s g H o p Q w r h
 obtain⟨v,q,rfl,h⟩:=h
 cases r with
 |cons r i=>
  rw[f]
  refine assignInOrder_cons (AV (c a s g H _ _ _ w r h) λ_ j k=>?_)
  obtain⟨b,l,m,n⟩:=k
  exact d a j b l _ _ Q m i n
def ko(K:Am)(n:Nat)(t:Hy):TG:=λv c H Q=>∃a b,v=.ref a/\B1 K H a b/\b.length=n/\t b c H Q
theorem kq{k:Nat}{t:Hy}{n:Nat}(i:X.calm=J')(h:Mj X es t)
  (j:(F1 es X.env).length=n:=by rfl) (d:(F1 es X.env).findIdx? (·.1)=J:=by rfl):PG X (.Tuple es k pos) (ko X.K n t):=by
 intro c s l H v u Q B r f
 obtain⟨a,m,rfl,p,q,f⟩:=f
 cases r
 obtain⟨w,g,x,z⟩:=B.tuple p
 exact assign_Tuple_tuple (B.ok.hd i) x (by simp[j,<- q,g.length]) d λA y=>h c _ l H m _ Q (B.kept (t':=s.toks) λb o e=>y b o (BX (Br e)) e) (by simpa using g) f
def kr(to b:TE)(t:On):TG:=λv a H Q=>to a H λo c=>b a c λi d=>t o i v d λe=>Q a e
theorem Rh{o i:Expr}{to f:TE}{t:On}(g:PE X o to)(j:PE X i f)(k:Rg X t)
  (F:∀v,assign (.Subscript o i pos) X.env v=(do
   let b <- D8 [v] (Ao o X.env)
   let c <- D8 [v,b] (Ao i X.env)
   standAt pos
   D8 [v,b,c] (setItem b c v)
   release [v,b,c] []):=by intro _;rfl):PG X (.Subscript o i pos) (kr to f t):=by
 intro a s d H v u Q K r h
 refine Al (FC (AV (g a s d H _ K h) λb l e=>?_))
 obtain⟨x,m,n,p,q⟩:=e
 refine Al (FC (AV (j a l d m _ n q) λc w e=>?_))
 obtain⟨y,z,A,B,C⟩:=e
 exact Al (wpAny_standAt (Al (FC (AV (k a w d z x y v b c u _ A p B r C) λ_ L ⟨E,G,q3⟩=>wpAny_release #[d,E,G,q3]))))
def K2(b:TE)(g:TG):TS:=λD a H=>b a H λx c=>g x a c D.nx
theorem Rj{b e:Expr}{c:TE}{g:TG}(f:PE X e c)(i:PG X b g)(j:swapsWithSole [b] e pos.line X.env=AC O':=by rfl)(k:swappedStores [b] e X.env=AC J:=by rfl)
  (l:(F1 [b] X.env).map (·.2)=[assign b X.env]:=by rfl):PS X (.Assign [b] e pos) (K2 c g):=by
 intro a s d H D w h
 refine wpAny_Assign_stores (AV (f a s d H _ w h) λv m n=>?_) j k
 obtain⟨x,o,p,r,t⟩:=n
 rw[l]
 exact AV (i a m d o x v _ p r t) λ_ u q=>q
theorem K3{i:Nat}{x:Ae}{e:Expr}{c:TE}{a:Az}(d:X.N.Nodup)(f:X.N[i]?=Z x)(g:Loc X.env.scope x)(j:PE X e c)(k:Dv e (Z (.Name x a)) pos.line X.env=AC O':=by rfl)(l:X.fn x=J'\/X.env.scope.names.lookup x=Z .local:=by first|exact .inl rfl|exact .inr rfl|assumption):
  PS X (.Assign [.Name x a] e pos) (K2 c (JP i)):=by
 intro b s m H D z h
 refine wpAny_Assign_Name (AV (j b s m H _ z h) λv u n=>?_) k
 obtain⟨y,o,p,q,r⟩:=n
 exact Ra p d f g q (λw t=>#[_,o,t,r]) l
end
structure It where
 go:Nat->Hp->Prop
 yld:Nat->Hp->V->Hp->Prop
 stop:Nat->Hp->Prop
def FD(X:Cx)(a:AS)(H:Hp)(b:Ac):Prop:=
 H b=J/\b≠X.env.locals/\b∉X.fs/\(b∈X.ex\/X.s₀.heap.objs.size<=b)/\(∀x c,X.env.cells.lookup x=Z c->c≠b)/\∀p∈X.pn++a,p.1≠b
theorem Inv.fpOk{a:AS}{s:Ab}{b:Ac}(h:Inv X a I H s)(d:s.heap.objs.size<=b)(f:H' b=J):FD X a H' b:=by
 refine#[f,Gi (BE h.lt d),h.nofs d,.inr (BJ h.sz d),λx c e z=>?_,λp g z=>?_]
 ·obtain⟨v,q⟩:=h.cell x c e
  exact absurd (BE q.lt (z ▸ d)) (Hw _)
 ·exact absurd (BE (Br (h.pin p g).1) (z ▸ d)) (Hw _)
structure GU(P:AI)(w:Ah)(K:Am)(tg:Expr)(a:It)(fp:List Ac)(it:Ac)(tn:Nat->Ak->Prop):Prop where
 mem:it∈fp
 obj:∀i h,tn i h->∀b∈fp,∃o,h.get? b=Z o/\∀v,o.data≠.cell v
 keep:∀i h h',tn i h->(∀b∈fp,∀o,h.get? b=Z o->h'.get? b=Z o)->tn i h'
 item:∀(X:Cx),X.prog=P->X.w=w->X.K=K->X.calm=J'->∀(i:Nat) (pins:AS) (s:Ab) (I:St) (H:Hp) (E:AJ),Inv X pins I H s->(∀b∈fp,FD X pins H b)->tn i s.heap->a.go i H ->
  wpAny (Af P w) X.A (pyNext (.ref it)) (λr s1=>∃u,r=Z u /\
   wpAny (Af P w) X.A (letOwnedTupleGo tg (.ref it) u) (λ_ s2=>∃x H',Inv X pins I H' s2/\RelV x u/\a.yld i H x H'/\tn (i+1) s2.heap/\∀b∈fp,H' b=J) E s1) E s
 done:∀(X:Cx),X.prog=P->X.w=w->X.K=K->X.calm=J'->∀(i:Nat) (pins:AS) (s:Ab) (I:St) (H:Hp) (E:AJ),Inv X pins I H s->(∀b∈fp,FD X pins H b)->tn i s.heap->a.stop i H ->
  wpAny (Af P w) X.A (pyNext (.ref it)) (λr s1=>r=J/\Inv X pins I H s1) E s
 self:∀(A:Ag) (i:Nat) (s:Ab) (Q:AJ) (E:AJ),tn i s.heap->Q (.ref it) s->wpAny (Af P w) A (pyIter (.ref it)) Q E s
abbrev TI:=St->Hp->(It->Hp->Prop)->Prop
variable{wi:TI}
def Wd(X:Cx)(a:AS)(I:St)(h:Expr)(R:It->Hp->Prop)(c:Aa)(e:Ab):Prop:=
 ∃(it:Ac) (f:U Ac) (g:Nat->Ak->Prop) (i:It) (d:Hp),c=.ref it/\Inv X a I d e/\GU X.prog X.w X.K h i f it g/\g 0 e.heap/\(∀b∈f,FD X a d b)/\R i d
def PI(X:Cx)(c iter:Expr)(wi:TI):Prop:=
 ∀(a:AS) (s:Ab) (b:St) (H:Hp) (R:It->Hp->Prop),Inv X a b H s->wi b H R ->
  wpAny (Af X.prog X.w) X.A (Ao iter X.env) (λv d=>wpAny (Af X.prog X.w) X.A (pyIter v) (Wd X a b c R) X.xe d) X.xe s
theorem kt{M:Model}{A:Ag}{s:Ab}{b:Expr}{it:Ac}{n:String}{vs:Array Aa}(c:s.heap.get? it=Z o)(d:o.cls=.type n)(hd:o.data=.fields vs)
  (e:["enumerate","zip","dict_itemiterator","dict_reverseitemiterator","odict_iterator","itertools.zip_longest","itertools.pairwise"].contains n=O') (a:Q () s):wpAny M A (letOwnedTupleGo b (.ref it) u) Q E s:=by
 cases b<;>first
  |exact AO a
  |(cases u<;>first
    |exact AO a
    |(refine Al (wpAny_load c ?_)
      rw[d,hd]
      show wpAny M A (if(["enumerate","zip","dict_itemiterator","dict_reverseitemiterator","odict_iterator","itertools.zip_longest","itertools.pairwise"].contains n&&vs[0]?==Z (AZ _))=J' then _ else _) Q E s
      rw[if_neg (by intro h;rw[e,Bool.false_and]at h;cases h)]
      exact AO a))
def We(K:Am)(a:Ac):It:=
 #[λi H=>∃b x,BF K H a b/\b[i]?=Z x,λi H x c=>c=H/\∀b,BF K H a b->b[i]?=Z x,λi H=>∃b,BF K H a b/\b.length<=i]
def Wf(K:Am)(a:Ac):It:=
 #[λi H=>∃b x,B1 K H a b/\b[i]?=Z x,λi H x c=>c=H/\∀b,B1 K H a b->b[i]?=Z x,λi H=>∃b,B1 K H a b/\b.length<=i]
def Ml(lo:Int)(n:Nat):It:=#[λi _=>i<n,λi H x a=>a=H/\x=.int (lo+i),λi _=>n<=i]
theorem Mm{P:AI}{w:Ah}{K:Am}{N:Expr}{F:It}{it:Ac}{f:Nat->Ak->Prop}{n:String}(R:["enumerate","zip","dict_itemiterator","dict_reverseitemiterator","odict_iterator","itertools.zip_longest","itertools.pairwise"].contains n=O')
  (ob:∀i h,f i h->∃o fs,h.get? it=Z o/\o.cls=.type n/\o.data=.fields fs) (kp:∀i h h',f i h->(∀o,h.get? it=Z o->h'.get? it=Z o)->f i h')
  (M:∀(X:Cx) (i:Nat) (a:AS) (s:Ab) (I:St) (H:Hp) (E:AJ) (Q:O Aa->Ab->Prop),X.K=K->X.A.handled=J->Inv X a I H s->f i s.heap ->
   (F.go i H->(∀u x h' g,f (i+1) h'->(∀b o,b≠it->s.heap.get? b=Z o->h'.get? b=Z o)->RelV x u->F.yld i H x H->Q (Z u) {s with heap:=h',toks:=g})->wpAny (Af P w) X.A (pyNext (.ref it)) Q E s) /\
   (F.stop i H->(∀h' g,(∀b o,b≠it->s.heap.get? b=Z o->h'.get? b=Z o)->Q J {s with heap:=h',toks:=g})->wpAny (Af P w) X.A (pyNext (.ref it)) Q E s))
  (T:∀(A:Ag) (i:Nat) (s:Ab) (Q:AJ) (E:AJ),f i s.heap->Q (.ref it) s->wpAny (Af P w) A (pyIter (.ref it)) Q E s):GU P w K N F [it] it f where
 mem:=by simp
 obj:=λi h st b m=>by
  obtain⟨o,fs,e,_,d⟩:=ob i h st
  rw[D9.mp m]
  exact#[o,e,λv z=>by rw[d]at z;cases z]
 keep:=λi h h' st k=>kp i h h' st (k it (by simp))
 item:=by
  intro X S Y p q i a s I H E W l st r
  obtain⟨t,B,f2,C,G,L⟩:=l it (by simp)
  refine(M X i a s I H E _ p (W.ok.hd q) W st).1 r λu x h' g j k ru y=>?_
  obtain⟨o,fs,e,c,d⟩:=ob _ _ j
  exact#[u,rfl,kt (s:={s with heap:=h',toks:=g}) e c d R #[x,H,W.turned k t B C G L,ru,y,j,λb m=>(l b m).1]]
 done:=by
  intro X S Y p q i a s I H E W l st r
  obtain⟨t,B,f2,C,G,L⟩:=l it (by simp)
  exact(M X i a s I H E _ p (W.ok.hd q) W st).2 r λh' g k=>#[rfl,W.turned k t B C G L]
 self:=T
theorem ku{P:AI}{w:Ah}{K:Am}{y:Expr}(a it:Ac):GU P w K y (We K a) [it] it (λi h=>h.IsListIter it a i):=by
 refine Mm (n:="list_iterator") (by ext) (λi h st=>?_) (λi h f st k=>st.at k) (λX i t s T H E Q z A W st=>?_) λ_ _ _ _ _ st h=>wpAny_pyIter_listiter st h
 ·obtain⟨o,e,c,d⟩:=st;exact#[o,_,e,c,d]
 ·subst z
  constructor<;>intro v q
  ·obtain⟨B,x,g,j⟩:=v
   obtain⟨l,m,p,C⟩:=W.list g
   obtain⟨u,G,F⟩:=m.get j
   exact wpAny_pyNext_list_item st p.isList (x:=u) (by simpa using G) λf r L=>q u x f s.toks r (λb o M e=>(L.2 b M).trans e) F #[rfl,λS N=>W.list_inj N g ▸ j]
  ·obtain⟨B,g,j⟩:=v
   obtain⟨l,m,p,C⟩:=W.list g
   have Y:=m.length
   exact wpAny_pyNext_list_end A st p.isList (by simp;lia) λf R=>q f s.toks R
theorem kw{P:AI}{w:Ah}{K:Am}{y:Expr}(a it:Ac):GU P w K y (Wf K a) [it] it (λi h=>h.IsTupleIter it a i):=by
 refine Mm (n:="tuple_iterator") (by ext) (λi h st=>?_) (λi h g st k=>st.at k) (λX i t s T H E Q z A W st=>?_) λ_ _ _ _ _ st h=>wpAny_pyIter_tupleiter st h
 ·obtain⟨o,e,c,d⟩:=st;exact#[o,_,e,c,d]
 ·subst z
  constructor<;>intro v q
  ·obtain⟨B,x,j,l⟩:=v
   obtain⟨f,m,p,C⟩:=W.tuple j
   obtain⟨u,G,F⟩:=m.get l
   exact wpAny_pyNext_tuple_item st (show s.heap.IsTuple a f.toArray from p) (x:=u) (by simpa using G) λg r L=>q u x g s.toks r (λb o M e=>(L.2 b M).trans e) F #[rfl,λS N=>W.tuple_inj N j ▸ l]
  ·obtain⟨B,j,l⟩:=v
   obtain⟨f,m,p,C⟩:=W.tuple j
   have Y:=m.length
   exact wpAny_pyNext_tuple_end A st (show s.heap.IsTuple a f.toArray from p) (by simp;lia) λg R=>q g s.toks R
theorem kx{P:AI}{w:Ah}{K:Am}{j:Expr}(it:Ac)(lo:Int)(n:Nat):GU P w K j (Ml lo n) [it] it (λi h=>IsRangeIter h it (lo+(i:Nat)*1) ((n:Int)-(i:Nat)) 1):=by
 refine Mm (n:="range_iterator") (by ext) (λi h st=>#[_,_,st,rfl,rfl]) (λi h a st k=>k _ st) (λX i d s x H E Q y f z st=>?_) λ_ _ _ _ _ st h=>wpAny_pyIter_rangeiter st h
 constructor<;>intro g q
 ·refine(Walks.range f it lo 1 n).item i s _ _ g st λv a l m c p=>?_
  obtain⟨t,rfl⟩:=m
  exact q _ (.int (lo+i)) a l c (λb o r e=>p b o (by simpa using r) e) #[t,by simp] #[rfl,rfl]
 ·exact wpAny_pyNext_range_end f st (by have:n<=i:=g;lia) λa u=>q a s.toks u
section
def ky(K:Am)(c:TE):TI:=λd H R=>c d H λx b=>∃a,x=.ref a/\(∃e,BF K b a e)/\R (We K a) b
def kz(K:Am)(c:TE):TI:=λd H R=>c d H λx b=>∃a,x=.ref a/\(∃e,B1 K b a e)/\R (Wf K a) b
theorem Wg{l:Expr}{g:TE}(i:PE X l g):PI X tg l (ky X.K g):=by
 intro c s j H R A h
 refine AV (i c s j H _ A h) λv d k=>?_
 obtain⟨x,m,f,n,a,e,⟨w,r⟩,q⟩:=k
 subst e
 cases n
 obtain⟨t,y,p,z⟩:=f.list r
 refine Oo p.isList ?_
 refine#[d.heap.objs.size,[d.heap.objs.size],_,_,m,rfl,f.kept (t':=d.toks) λb o e=>Bp _ e,ku a _,#[_,B4 _ rfl,rfl,rfl],λb u=>?_,q]
 have e:b=d.heap.objs.size:=by simpa using u
 subst e
 exact f.fpOk (A5 _) (f.hok.fresh (A5 _))
theorem kA{l:Expr}{i:TE}(j:PE X l i):PI X tg l (kz X.K i):=by
 intro c s k H R A h
 refine AV (j c s k H _ A h) λv d m=>?_
 obtain⟨x,n,f,r,a,e,⟨w,t⟩,q⟩:=m
 subst e
 cases r
 obtain⟨g,y,p,z⟩:=f.tuple t
 refine wpAny_pyIter_tuple (show d.heap.IsTuple a g.toArray from p) ?_
 refine#[d.heap.objs.size,[d.heap.objs.size],_,_,n,rfl,f.kept (t':=d.toks) λb o e=>Bp _ e,kw a _,#[_,B4 _ rfl,rfl,rfl],λb u=>?_,q]
 have e:b=d.heap.objs.size:=by simpa using u
 subst e
 exact f.fpOk (A5 _) (f.hok.fresh (A5 _))
theorem Wh{a:AS}{s:Ab}{R:It->Hp->Prop}{lo c:Int}{t u v:Tok}{d:Nat}(l:Inv X a I H s)(g : -(2^62)<=lo)(h:lo<2^62)(i : -(2^62)<=c)(j:c<2^62)
  (q:R (Ml lo (c-lo).toNat) H):wpAny (Af X.prog X.w) X.A (pyIter (.ref s.heap.objs.size)) (Wd X a I tg R) E {s with heap:=s.heap.push {cls:=.type "range",data:=.fields (T' [.int lo t,.int c u,.int 1 v])},toks:=d}:=by
 refine wpAny_pyIter_range (IsRange.new ..) (small_one g h i j) ?_
 have f:Inv X a I H {s with heap:=s.heap.push {cls:=.type "range",data:=.fields (T' [.int lo t,.int c u,.int 1 v])},toks:=d}:=l.kept λb o e=>Bp _ e
 refine#[(s.heap.push {cls:=.type "range",data:=.fields (T' [.int lo t,.int c u,.int 1 v])}).objs.size,[(s.heap.push {cls:=.type "range",data:=.fields (T' [.int lo t,.int c u,.int 1 v])}).objs.size],_,_,H,rfl,
  f.kept (t':=d) λb o e=>Bp _ e,kx _ lo (c-lo).toNat,?_,λb k=>?_,q]
 ·rw[show lo+((0:Nat):Int)*1=lo by simp,show(((c-lo).toNat:Nat):Int)-((0:Nat):Int)=Builtin.Range.rangeSize lo c 1 by rw[rangeSize_one];split<;>lia]
  exact B4 _ rfl
 ·have e:b=(s.heap.push {cls:=.type "range",data:=.fields (T' [.int lo t,.int c u,.int 1 v])}).objs.size:=by simpa using k
  subst e
  exact f.fpOk (A5 _) (f.hok.fresh (A5 _))
def kC(a:TA):TI:=λb H R=>a b H λc d=>∃j:Int,c=[.int j] /\ -(2^62)<=j/\j<2^62/\R (Ml 0 j.toNat) d
def kF(a:TA):TI:=λb H R=>a b H λc d=>∃i j:Int,c=[.int i,.int j]/\(-(2^62)<=i/\i<2^62 /\ -(2^62)<=j/\j<2^62)/\R (Ml i (j-i).toNat) d
theorem Wi{a:Expr}{d:TA}{p:Az}(e:Gl X "range")(f:X.mg "range"=J)(g:PA X [a] d)(i:AE [a] X.env=[(O',Ao a X.env)]:=by rfl):PI X tg (.Call (.Name "range" p) [a] [] pos) (kC d):=by
 intro b s k H R z h
 refine Call_ (GS z e f boot_range (Mn (AV (g pos b s k H _ z h) λv w l=>?_) i rfl))
 obtain⟨x,y,m,n,c⟩:=l
 obtain⟨j,rfl,c,o,q⟩:=c
 cases n with
 |cons r u=>
  cases u
  obtain⟨t,rfl⟩:=r
  exact call_range_1 (Wh m (Int.neg_ofNat_le_ofNat (2^62) 0) (W.kbt_pos 62) c o (by simpa using q))
theorem kG{a b:Expr}{g:TA}{p:Az}(k:Gl X "range")(l:X.mg "range"=J)(m:PA X [a,b] g)(n:AE [a,b] X.env=[(O',Ao a X.env),(O',Ao b X.env)]:=by rfl)(c:AE [b] X.env=[(O',Ao b X.env)]:=by rfl):
  PI X tg (.Call (.Name "range" p) [a,b] [] pos) (kF g):=by
 intro d s o H R F h
 refine Call_ (GS F k l boot_range (Mn (AV (m pos d s o H _ F h) λA B u=>?_) (by rw[n,c]) (by rw[c];rfl)))
 obtain⟨C,E,v,w,e⟩:=u
 obtain⟨i,j,rfl,⟨e,x,q3,y⟩,q⟩:=e
 cases w with
 |cons r f=>
  cases f with
  |cons z f=>
   cases f
   obtain⟨t,rfl⟩:=r
   obtain⟨G,rfl⟩:=z
   exact call_range_2 (Wh v e x q3 y q)
def Wj(wi:TI)(g:TG)(f:TS):TS:=λD a H=>wi a H λk h=>∃W:Nat->Nat->St->Hp->Prop,(∃m,W 0 m a h)/\∀i m a H,W i m a H ->
 (k.stop i H/\D.nx a H)\/(k.go i H/\∃N:St->Hp->Prop,(∀b c,N b c->∃e,e<m/\W (i+1) e b c)/\∀x c,k.yld i H x c->g x a c λd j=>f {D with nx:=N,ct:=N,bk:=D.nx} d j)
def JQ(a:U Ac)(h:Ak):AS:=a.filterMap λb=>(h.get? b).map λo=>(b,o)
theorem Op{a:U Ac}{h:Ak}{b:Ac}(c:b∈a)(e:h.get? b=Z o):(b,o)∈JQ a h:=List.mem_filterMap.mpr #[b,c,by rw[e];rfl]
theorem Wk{a:U Ac}{h:Ak}{p:Ac×Obj}(c:p∈JQ a h):p.1∈a/\h.get? p.1=Z p.2:=by
 obtain⟨b,d,e⟩:=List.mem_filterMap.mp c
 obtain⟨o,q,e⟩:=BG.mp e
 grind
theorem Inv.pinned{a:AS}{s:Ab}{c:U Ac}(l:Inv X a I H s)(d:∀b∈c,FD X a H b)(h:∀b∈c,∃o,s.heap.get? b=Z o/\∀v,o.data≠.cell v):Inv X (a++JQ c s.heap) I H s:=
 l.pins_of λp f=>(Dn.mp f).elim (λz=>l.pin p (CY _ z)) λz=>by
  obtain⟨g,e⟩:=Wk z
  obtain⟨i,j,k,_⟩:=d p.1 g
  grind
theorem Inv.unpinned{a pl:AS}{s:Ab}(c:Inv X (a++pl) I H s):Inv X a I H s:=c.pins_of λp b=>c.pin p (CY _ (Iw _ b))
theorem Wl{z:U Au}{g:TG}{tb:TS}(E:PassesOwn (Af X.prog X.w) X.A X.env X.xe)(hc:X.calm=J')(hi:PI X tg iter wi)(hg:PG X tg g)(j:Ez X z tb)
  (hs:∀x,EU iter X.env x=AC x:=by intro _;rfl):PS X (.For tg iter z [] pos) (Wj wi g tb):=by
 intro a s I H D R h
 refine wpAny_For (AV (hi a s I H _ R h) λv s1 h1=>AV h1 λitv s2 h2=>?_) hs
 obtain⟨it,G,tn,F,H2,e,I2,T,Q,f2,W,⟨m0,w0⟩,turn⟩:=h2
 subst e
 have k:∀{y:Hp},(∀b∈G,y b=J)->∀b∈G,FD X a y b:=λhn b j=>#[hn b j,(f2 b j).2]
 refine codeAny_forLoop_any (λn s'=>∃i l y,Inv X a l y s'/\tn i s'.heap/\(∀b∈G,y b=J)/\W i n l y) ?_ m0 #[0,I,H2,I2,Q,λb j=>(f2 b j).1,w0]
 rintro n s3 ⟨i,p,K,I3,L,M,w3⟩
 rcases turn i n p K w3 with⟨stop,qn⟩|⟨go,N,hN,step⟩
 ·refine Oq E (AV (T.done X rfl rfl rfl hc i a s3 p K X.xe I3 (k M) L stop) λr s4 ⟨P,I4⟩=>?_)
  subst P
  exact wpAny_execs_nil #[p,K,I4,qn]
 ·refine Oq E (AV (T.item X rfl rfl rfl hc i a s3 p K X.xe I3 (k M) L go) λr s4 ⟨u,P,h4⟩=>?_)
  subst P
  refine Oq E (AV h4 λ_ s5 Y=>?_)
  obtain⟨x,H5,I5,r5,y5,C,fr5⟩:=Y
  refine Oq E (AV (hg _ s5 p H5 x u _ (I5.pinned (k fr5) (T.obj _ _ C)) r5 (step x H5 y5)) λ_ s6 Y=>?_)
  obtain⟨σ6,H6,I6,q6⟩:=Y
  refine Oq E (AV (j _ s6 σ6 H6 _ I6 q6) λf s7 B=>?_)
  have again:∀{c:St} {q:Hp},Inv X (a++JQ G s5.heap) c q s7->N c q->∃m,m<n/\∃i l y,Inv X a l y s7/\tn i s7.heap/\(∀b∈G,y b=J)/\W i m l y:=λ{c q} t n7=>by
   obtain⟨m',hm,w7⟩:=hN c q n7
   refine#[m',hm,i+1,c,q,t.unpinned,T.keep _ _ _ C λb j o e=>(t.pin (b,o) (CY _ (CY _ (Op j e)))).1,λb j=>?_,w7]
   obtain⟨o,e,d⟩:=T.obj _ _ C b j
   exact(t.pin (b,o) (CY _ (CY _ (Op j e)))).2.1
  cases f with
  |next=>obtain⟨c,q,t,n7⟩:=B;exact again t n7
  |cont=>obtain⟨c,q,t,n7⟩:=B;exact again t n7
  |brk=>obtain⟨c,q,t,B⟩:=B;exact#[c,q,t.unpinned,B]
  |ret v=>obtain⟨x7,c,q,t,r7,B⟩:=B;exact#[x7,c,q,t.unpinned,r7,B]
end
abbrev R2:=V->V->Hp->VK->Prop
def B2(X:Cx)(f:Aa->Aa->Sem Aa)(r:R2):Prop:=
 ∀(a:AS) (s:Ab) (b:St) (H:Hp) (x y:V) (v u:Aa) (Q:VK),Inv X a b H s->RelV x v->RelV y u->r x y H Q ->
  wpAny (Af X.prog X.w) X.A (f v u) (EP X a b Q) X.xe s
def Rk(X:Cx)(f:Aa->Sem Aa)(r:V->Hp->VK->Prop):Prop:=
 ∀(a:AS) (s:Ab) (b:St) (H:Hp) (x:V) (v:Aa) (Q:VK),Inv X a b H s->RelV x v->r x H Q ->
  wpAny (Af X.prog X.w) X.A (f v) (EP X a b Q) X.xe s
def Ea(X:Cx)(f:Aa)(r:U V->Hp->VK->Prop):Prop:=
 ∀(a:AS) (s:Ab) (b:St) (H:Hp) (c:U V) (d:U Aa) (Q:VK),Inv X a b H s->An c d->r c H Q ->
  wpAny (Af X.prog X.w) X.A (call f d) (EP X a b Q) X.xe s
def kH(X:Cx)(r:V->Hp->(Bool->Hp->Prop)->Prop):Prop:=
 ∀(a:AS) (s:Ab) (b:St) (H:Hp) (x:V) (v:Aa) (Q:Bool->Hp->Prop),Inv X a b H s->RelV x v->r x H Q ->
  wpAny (Af X.prog X.w) X.A (truthy v) (TP X a b Q) X.xe s
def JR(r:R2)(b c:TE):TE:=λa H Q=>b a H λx d=>c a d λy e=>r x y e Q
def kI(r:V->Hp->VK->Prop)(a:TE):TE:=λb H Q=>a b H λx c=>r x c Q
def rI(C:Int->Int->Prop)(g:Int->Int->V):R2:=λx y H Q=>∃i j,x=.int i/\y=.int j/\C i j/\Q (g i j) H
def GV(g:Int->Int->V):R2:=λx y H Q=>∃i j,x=.int i/\y=.int j/\Q (g i j) H
def rU(g:Int->V):V->Hp->VK->Prop:=λx H Q=>∃i,x=.int i/\Q (g i) H
section
variable{a b c:Expr}
theorem Rl(l:PE X a ta)(m:PE X b tb){c:AS}{s:Ab}{R:V->V->Hp->Prop}(C:Inv X c I H s)
  (h:ta I H λx j=>tb I j λy d=>R x y d) {Q:AJ} {f:Aa->Aa->Sem Aa}
  (n:∀v u i x y d,Inv X c I d i->RelV x v->RelV y u->R x y d->wpAny (Af X.prog X.w) X.A (f v u) Q X.xe i):
  wpAny (Af X.prog X.w) X.A (Ao a X.env) (λv e=>wpAny (Af X.prog X.w) X.A (Ao b X.env) (λu g=>wpAny (Af X.prog X.w) X.A (f v u) Q X.xe g) X.xe e) X.xe s:=by
 refine AV (l c s I H _ C h) λv o k=>?_
 obtain⟨x,j,p,q,r⟩:=k
 refine AV (m c o I j _ p r) λu i k=>?_
 obtain⟨y,d,t,z,B⟩:=k
 exact n v u i x y d t q z B
theorem kJ{op:Operator}{r:R2}(d:B2 X (Gj op) r)(e:PE X a ta)(f:PE X b tb):PE X (.BinOp a op b pos) (JR r ta tb):=by
 intro c s g H Q n h
 exact wpAny_BinOp (Rl e f n h λv u i x y j k l m q=>d c i g j x y v u Q k l m q)
theorem kK{op:UnaryOp}{r:V->Hp->VK->Prop}(d:Rk X (unaryOp op) r)(e:PE X a ta):PE X (.UnaryOp op a pos) (kI r ta):=by
 intro b s c H Q l h
 exact UnaryOp_ (AV (e b s c H _ l h) λv f ⟨x,g,i,j,k⟩=>d b f c g x v Q i j k)
theorem Ot{f:Aa->Aa->Sem Aa}{C:Int->Int->Prop}{g:Int->Int->Int}
  (rule:∀(i j:Int) (t u:Tok) (s:Ab) (Q:AJ) (E:AJ),C i j->Q (.int (g i j) s.toks) {s with toks:=s.toks+1}->wpAny (Af X.prog X.w) X.A (f (.int i t) (.int j u)) Q E s):
  B2 X f (rI C λi j=>.int (g i j)):=by
 rintro a s h H x y v u Q k b c ⟨i,j,rfl,rfl,d,q⟩
 obtain⟨t,rfl⟩:=b
 obtain⟨e,rfl⟩:=c
 exact rule i j t e s _ _ d #[.int (g i j),H,k.tok _,#[_,rfl],q]
theorem Wm{f:Aa->Aa->Sem Aa}{g:Int->Int->Int}
  (rule:∀(i j:Int) (t u:Tok) (s:Ab) (Q:AJ) (E:AJ),Q (.int (g i j) s.toks) {s with toks:=s.toks+1}->wpAny (Af X.prog X.w) X.A (f (.int i t) (.int j u)) Q E s):
  B2 X f (GV λi j=>.int (g i j)):=by
 rintro a s e H x y v u Q h b c ⟨i,j,rfl,rfl,q⟩
 obtain⟨t,rfl⟩:=b
 obtain⟨d,rfl⟩:=c
 exact rule i j t d s _ _ #[.int (g i j),H,h.tok _,#[_,rfl],q]
theorem Rm{f:Aa->Aa->Sem Aa}{g:Int->Int->Bool}
  (rule:∀(i j:Int) (t u:Tok) (s:Ab) (Q:AJ) (E:AJ),Q (.bool (g i j)) s->wpAny (Af X.prog X.w) X.A (f (.int i t) (.int j u)) Q E s):
  B2 X f (GV λi j=>.bl (g i j)):=by
 rintro a s e H x y v u Q h b c ⟨i,j,rfl,rfl,q⟩
 obtain⟨t,rfl⟩:=b
 obtain⟨d,rfl⟩:=c
 exact rule i j t d s _ _ #[.bl (g i j),H,h,rfl,q]
def Mo(i j:Int):Prop:=0<j/\j<1073741824
def K4(i j:Int):Prop:=0<=j/\j<=1000000/\i.natAbs<2^64
def DF(i j:Int):Prop:=(-(2^64)<i/\i<2^64)\/(-(2^64)<j/\j<2^64)
theorem DF.ok{i j:Int}(h:DF i j):IntMulOk i j:=by
 rcases h with⟨a,b⟩|⟨a,b⟩
 ·exact .of_left (intBits_le_64 a b)
 ·exact .of_right (intBits_le_64 a b)
theorem JU:B2 X (Gj .Add) (GV λi j=>.int (i+j)):=Wm λ_ _ _ _ _ _ _ q=>add_int q
theorem kL:B2 X (Gj .Sub) (GV λi j=>.int (i-j)):=Wm λ_ _ _ _ _ _ _ q=>sub_int q
theorem kM:B2 X (Gj .Mult) (rI DF λi j=>.int (i*j)):=Ot λ_ _ _ _ _ _ _ a q=>mul_int q a.ok
theorem kN:B2 X (Gj .FloorDiv) (rI Mo λi j=>.int (i/j)):=Ot λi j _ _ _ _ _ a q=>by
 have b:(0:Int)<j:=a.1
 have c:j<1073741824:=a.2
 exact floordiv_int (B0 (Int.ne_of_lt b)) (Int.fdiv_eq_ediv_of_nonneg i (Int.le_of_lt b) ▸ q) (.inl (PyProof.noPylong_small (by lia)))
theorem kO:B2 X (Gj .Mod) (rI (λ_ j=>0<j) λi j=>.int (i%j)):=Ot λi j _ _ _ _ _ a q=>by
 exact mod_int' (by lia) (by rw[Int.fmod_eq_emod_of_nonneg i (by lia)];exact q)
theorem kP:B2 X (Gj .Pow) (rI K4 λi j=>.int (i^j.toNat)):=Ot λ_ _ _ _ _ _ _ a q=>pow_int_small a.1 a.2.1 a.2.2 q
theorem kQ{f:Aa->Sem Aa}{g:Int->Int}
  (rule:∀(i:Int) (t:Tok) (s:Ab) (Q:AJ) (E:AJ),Q (.int (g i) s.toks) {s with toks:=s.toks+1}->wpAny (Af X.prog X.w) X.A (f (.int i t)) Q E s):
  Rk X f (rU λi=>.int (g i)):=by
 rintro a s c H x v Q d b ⟨i,rfl,q⟩
 obtain⟨t,rfl⟩:=b
 exact rule i t s _ _ #[.int (g i),H,d.tok _,#[_,rfl],q]
theorem kR:Rk X (unaryOp .USub) (rU λi=>.int (-i)):=kQ λ_ _ _ _ _ q=>neg_int q
end
section
variable{a b c:Expr}{tc:TE}
theorem Wn{a:AS}{s:Ab}{Q:VK}{k k':Bool}(b:Inv X a I H s)(q:Q (.bl k) H)(e:k=k'):EP X a I Q (.bool k') s:=by
 subst e
 exact#[.bl k,H,b,rfl,q]
theorem Ro:B2 X (C8 .LtE) (GV λi j=>.bl (decide (i<=j))):=Rm λ_ _ _ _ _ _ _ q=>le_int q
theorem Wo:B2 X (C8 .Gt) (GV λi j=>.bl (decide (j<i))):=Rm λ_ _ _ _ _ _ _ q=>gt_int q
theorem kS:B2 X (C8 .GtE) (GV λi j=>.bl (decide (j<=i))):=Rm λ_ _ _ _ _ _ _ q=>ge_int q
theorem Wp:B2 X (C8 .In) (λx y H Q=>∃i j,x=.str i/\y=.str j/\Q (.bl (!(Mp j i 0 j.length 1).isEmpty)) H):=by
 rintro a s d H x y v u Q f b c ⟨i,j,rfl,rfl,q⟩
 obtain⟨t,rfl⟩:=b
 obtain⟨e,rfl⟩:=c
 exact in_str (Wn f q rfl)
theorem kT:B2 X (C8 .NotIn) (λx y H Q=>∃i j,x=.str i/\y=.str j/\Q (.bl (!(!(Mp j i 0 j.length 1).isEmpty))) H):=by
 rintro a s d H x y v u Q f b c ⟨i,j,rfl,rfl,q⟩
 obtain⟨t,rfl⟩:=b
 obtain⟨e,rfl⟩:=c
 exact notIn_str (Wn f q rfl)
theorem B2.or{f:Aa->Aa->Sem Aa}{r b:R2}(h:B2 X f r)(h':B2 X f b):B2 X f (λx y H Q=>r x y H Q\/b x y H Q):=by
 intro a s c H x y v u Q g d e q
 rcases q with q|q
 ·exact h a s c H x y v u Q g d e q
 ·exact h' a s c H x y v u Q g d e q
theorem kU{op:CmpOp}{r:R2}(d:B2 X (C8 op) r)(e:PE X a ta)(f:PE X b tb)(g:FA op b=O'):PE X (.Compare a [op] [b] pos) (JR r ta tb):=by
 intro c s i H Q o h
 exact wpAny_Compare1 (Rl e f o h λv u j x y k l m n q=>d c j i k x y v u Q l m n q) g
def kW(t:TE):TT:=λa H Q=>t a H λx b=>∃k,x=.bl k/\Q k b
theorem Rp{op:CmpOp}{r:R2}(g:B2 X (C8 op) r)(i:PE X a ta)(j:PE X b tb)(l:FA op b=O'):PT X (.Compare a [op] [b] pos) (kW (JR r ta tb)):=by
 intro d s f H Q K h
 refine wpAny_isTrue_Compare1 (AV (i d s f H _ K h) λv m ⟨x,n,o,p,q⟩=>AV (j d m f n _ o q) λu t ⟨y,w,A,B,C⟩=>
  AV (g d t f w x y v u _ A p B C) λc L ⟨z,E,G,F,k,e,q3⟩=>?_) l
 subst e
 cases F
 exact Ix #[E,G,q3]
def Wq(r c:R2)(ta tb tc:TE):TE:=λa H Q=>ta a H λx d=>tb a d λy e=>r x y e λz b=>∃k,z=.bl k /\
 (if k=J' then tc a b λf g=>c y f g Q else Q (.bl O') b)
theorem kX{op g:CmpOp}{r l:R2}(p:B2 X (C8 op) r)(j:B2 X (C8 g) l)(q:PE X a ta)(t:PE X b tb)(w:PE X c tc)
  (A:lastMarks [op,g] [b,c]=O':=by with_unfolding_all rfl):PE X (.Compare a [op,g] [b,c] pos) (Wq r l ta tb tc):=by
 intro f s i H Q R h
 refine Compare_chain (AV (q f s i H _ R h) λv B ⟨x,C,E,G,F⟩=>chain_link (AV (t f B i C _ E F) λu L ⟨y,M,N,m,K⟩=>
  AV (p f L i M x y v u _ N G m K) λd T ⟨z,n,o,P,k,e,q3⟩=>?_)) A
 subst e
 cases P
 refine Ix ?_
 cases k with
 |false=>exact ite_ff #[.bl O',n,o,rfl,q3]
 |true=>exact ite_tt (chain_last (AV (w f T i n _ o q3) λY s4 ⟨z',H4,I4,r4,q4⟩=>j f s4 i H4 y z' u Y Q I4 m r4 q4))
def Wr(K:Am)(x:V)(H:Hp)(k:Bool):Prop:=
 match x with
 |.non=>k=O'
 |.bl b=>k=b
 |.int i=>k=(i != 0)
 |.str y=>y.length<=AA/\k=((y.length:Int) != 0)
 |.ref p=>(∃a,BF K H p a/\k=!a.isEmpty)\/(∃a,B1 K H p a/\k=!a.isEmpty)
 |_=>False
theorem Ws{xs:U V}{a:U Aa}(r:An xs a):(!a.toArray.isEmpty)=!xs.isEmpty:=by
 cases r<;>simp
theorem Mq:(AA:Nat)<2^63:=by rw[Iy];decide
theorem kY:kH X (λx H Q=>∃k,Wr X.K x H k/\Q k H):=by
 rintro h s m H x v Q u a ⟨k,e,q⟩
 have n:=Mq
 cases x with
 |non=>
  cases a
  subst e
  exact truthy_none #[H,u,q]
 |bl b=>
  cases a
  have e:k=b:=e
  subst e
  exact Ix #[H,u,q]
 |int i=>
  obtain⟨t,rfl⟩:=a
  subst e
  exact PySem.P.truthy_int #[H,u,q]
 |str y=>
  obtain⟨t,rfl⟩:=a
  obtain⟨o,e⟩:y.length<=AA/\k=((y.length:Int) != 0):=e
  subst e
  exact PySem.P.truthy_str (by lia) #[H,u.tok _,q]
 |ref p=>
  cases a
  rcases e with⟨j,d,e⟩|⟨j,d,e⟩
  ·subst e
   obtain⟨f,r,g,l⟩:=u.list d
   have c:=r.length
   exact wpAny_truthy_list g.isList (by erw[BR];lia) #[H,u.tok _,Ws r ▸ q]
  ·subst e
   obtain⟨f,r,g,l⟩:=u.tuple d
   have c:=r.length
   exact truthy_tuple g (by erw[BR];lia) #[H,u.tok _,Ws r ▸ q]
 |_=>exact(show False from e).elim
theorem kZ(d:PE X a ta)(e:∀b,isTrue a X.env b=(do let v <- b;standAt a.pos;D8 [v] (truthy v))):
  PT X a (λI H Q=>ta I H λx H'=>∃k,Wr X.K x H' k/\Q k H'):=by
 intro c s I H Q m h
 exact isTrue_plain (AV (d c s I H _ m h) λv f ⟨x,g,i,j,l⟩=>kY c f I g x v Q i j l) (e _)
theorem EV:B2 X (Gj .Add) (λx y H Q=>∃i j,x=.str i/\y=.str j/\i.length+j.length<=AA/\Q (.str (i++j)) H):=by
 rintro a s f H x y v u Q h b c ⟨i,j,rfl,rfl,d,q⟩
 obtain⟨t,rfl⟩:=b
 obtain⟨e,rfl⟩:=c
 exact add_str (λe g=>#[.str (i++j),H,h.tok _,#[_,rfl],q]) d
theorem EW{x:V}{us:U Aa}(r:An [x] us):∃u,us=[u]/\RelV x u:=by
 cases r with
 |cons a b=>cases b;exact#[_,rfl,a]
theorem Mr{x y:V}{us:U Aa}(r:An [x,y] us):∃u a,us=[u,a]/\RelV x u/\RelV y a:=by
 cases r with
 |cons b c=>
  cases c with
  |cons d e=>cases e;exact#[_,_,rfl,b,d]
theorem k6(c:X.calm=J'):Ea X (.builtin "max") (λxs H Q=>∃i j,xs=[.int i,.int j]/\Q (.int (if j>i then j else i)) H):=by
 rintro b s d H xs e Q m r ⟨i,j,rfl,q⟩
 obtain⟨u,f,rfl,⟨t,rfl⟩,⟨g,rfl⟩⟩:=Mr r
 refine max_two_ints (m.ok.hd c) λh l k=>#[_,H,m.kept k,?_,q]
 by_cases a:j>i
 ·rw[if_pos a,if_pos a];exact#[_,rfl]
 ·rw[if_neg a,if_neg a];exact#[_,rfl]
theorem k7(c:X.calm=J'):Ea X (.builtin "min") (λxs H Q=>∃i j,xs=[.int i,.int j]/\Q (.int (if j<i then j else i)) H):=by
 rintro b s d H xs e Q m r ⟨i,j,rfl,q⟩
 obtain⟨u,f,rfl,⟨t,rfl⟩,⟨g,rfl⟩⟩:=Mr r
 refine min_two_ints (m.ok.hd c) λh l k=>#[_,H,m.kept k,?_,q]
 by_cases a:j<i
 ·rw[if_pos a,if_pos a];exact#[_,rfl]
 ·rw[if_neg a,if_neg a];exact#[_,rfl]
theorem k8:Ea X (.type "int") (λxs H Q=>(∃i,xs=[.int i]/\Q (.int i) H)\/∃k,xs=[.bl k]/\Q (.int (if k then 1 else 0)) H):=by
 intro a s c H xs d Q e r h
 rcases h with⟨i,rfl,q⟩|⟨k,rfl,q⟩
 ·obtain⟨u,rfl,t,rfl⟩:=EW r
  exact call_int_int #[.int i,H,e,#[_,rfl],q]
 ·obtain⟨u,rfl,b⟩:=EW r
  cases b
  exact call_int_bool #[.int (if k then 1 else 0),H,e.tok _,#[_,rfl],q]
def Wt(K:Am)(x:V)(H:Hp)(n:Nat):Prop:=
 match x with
 |.str y=>y.length<=AA/\n=y.length
 |.ref p=>(∃a,BF K H p a/\n=a.length)\/∃a,B1 K H p a/\n=a.length
 |_=>False
theorem Wu:Ea X (.builtin "len") (λxs H Q=>∃x n,xs=[x]/\Wt X.K x H n/\Q (.int n) H):=by
 rintro g s j H xs k Q o r ⟨x,n,rfl,e,q⟩
 obtain⟨u,rfl,h⟩:=EW r
 have l:AA=16777216:=Iy
 cases x with
 |str y=>
  obtain⟨t,rfl⟩:=h
  obtain⟨m,rfl⟩:y.length<=AA/\n=y.length:=e
  exact len_str (by lia) #[.int _,H,o.tok _,#[_,rfl],q]
 |ref p=>
  cases h
  rcases e with⟨xs,b,e⟩|⟨xs,b,e⟩
  ·subst e
   obtain⟨c,d,f,i⟩:=o.list b
   have a:=d.length
   exact Calls.call_len_list f.isList (by erw[BR];lia) #[.int xs.length,H,o.tok _,#[_,by erw[BR];rw[a]],q]
  ·subst e
   obtain⟨c,d,f,i⟩:=o.tuple b
   have a:=d.length
   exact len_tuple f (by erw[BR];lia) #[.int xs.length,H,o.tok _,#[_,by erw[BR];rw[a]],q]
 |_=>exact(show False from e).elim
end
structure EX(h:Ak)(x dx C:Ac)(mA:Bl):Prop where
 obj:h.get? x=Z (JM C dx)
 ns:h.Ns1 dx mA
 ne:dx≠x
set_option tactic.hygienic true in
theorem k9{h:Ak}{c:Ac}{d:Bl}(n:h.Ns1 c d):∃f,h.get? c=Z f/\∀name,PySem.W.lookIn name f=Z (d name):=by
 obtain⟨o,g,m,i,hd,j,_,k⟩:=n
 refine#[o,i,λname=>?_]
 have e:=k name
 unfold nsFind findBy at e
 rw[<- Array.find?_toList]at e
 unfold PySem.W.lookIn
 rw[hd]
 dsimp only
 split
 ·rename_i y q
  rw[q]at e
  exact congrArg Z e
 ·rename_i q
  rw[q]at e
  have a:g.toList.any (·.refKey)=O':=by
   rw[List.any_eq_false]
   intro y l
   obtain⟨z,t,b⟩:=j y (Array.mem_toList_iff.mp l)
   simp[DictEntry.refKey,b]
  rw[if_neg (show ¬ g.toList.any (·.refKey)=J' by rw[a];exact Me)]
  exact congrArg Z e
theorem EX.look{h:Ak}{x b:Ac}{c:Bl}(f:EX h x b C c):∃a,PySem.W.InstAt h x (JM C b) C (Z a)/\∀name,PySem.W.lookIn name a=Z (c name):=
 let⟨a,d,e⟩:=k9 f.ns
 #[a,#[f.obj,rfl,rfl,d],e]
section
variable{prog:AI}{w:Ah}{A:Ag}{s:Ab}{K:Am}{x dx f:Ac}{mA:Bl}{name:Ae}{v:Aa}
theorem la{a:Bool}{Q:AJ}(X:K.In s.heap)(k:EX s.heap x dx C mA)(c:PySem.W.plainGet K C name=J')(d:PySem.W.hasDictIn K C=J')
  (e:Iz K (.ref C) name=Z J) (f:mA name=Z v) (b:PySem.W.handedIn v=J') (h:Q v {s with toks:=s.toks+1}):
  wpAny (Af prog w) A (getAttr (.ref x) name a) Q E s:=by
 obtain⟨i,j,g⟩:=k.look
 exact PySem.W.get_value X j (PySem.W.plainGet_of c).1 (PySem.W.findObj_own d e rfl (by rw[g,f])) b h
theorem lb{Q:Aa×U Aa->Ab->Prop}(X:K.In s.heap)(j:EX s.heap x dx C mA)(a:PySem.W.plainGet K C name=J')
  (b:Iz K (.ref C) name=Z (Z (.ref f))) (c:PySem.W.isFn K (.ref f)=J') (d:mA name=J) (h:Q (.ref f,[.ref x]) s):
  wpAny (Af prog w) A (getMethod (.ref x) name pl) Q E s:=by
 obtain⟨e,i,g⟩:=j.look
 exact PySem.W.method_fn X i (PySem.W.plainGet_of a).1 (PySem.W.plainGet_of a).2 b (beq_iff_eq.mp c) (by show(PySem.W.lookIn name e).map (·.isSome)=Z O';rw[g,d];rfl) h
theorem lc{ns:U Ae}(X:K.In s.heap)(G:EX s.heap x dx C mA)
  (j:Iz K (.ref C) "__setattr__"=Z (Z (.builtin "object.__setattr__"))) (k:PySem.W.plainOver K C=J') (l:PySem.W.takerIn K C name=Z J) (m:PySem.W.hasDictIn K C=J')
  (n:PySem.Within mA ns) (hsz:ns.length<=AA)
  (h:∀h',EX h' x dx C (λy=>if y=name then Z v else mA y)->DP dx s.heap h'->Q () {s with heap:=h',toks:=s.toks+2}):
  wpAny (Af prog w) A (setAttr (.ref x) name v) Q E s:=by
 obtain⟨t,F,u⟩:=G.look
 refine PySem.W.set_plain X F j (PySem.W.osa_open (s:={s with toks:=s.toks+1}) (r:=J) X F k l λb=>?_)
 obtain⟨z,o,e⟩:=PySem.W.any_some m
 refine Al (AO (Al (Al (wpAny_loadPart G.obj (Al (PySem.W.Looks.here (s:={s with toks:=s.toks+1}) (PySem.W.looks_clsIn X o) ?_))))))
 rw[e]
 refine AO (a:=Z dx) (Al (AO (Al ?_)))
 refine wpAny_nsSet1 (s:={s with toks:=s.toks+1}) G.ns λh' c d=>?_
 obtain⟨B,p,q,f,g,i⟩:=c.count (PySem.Within.cons name v n)
 exact Al (wpAny_lookBehind f (g ▸ pastItsLine_dict (BJ i (Ce ▸ Nat.add_le_add_right hsz 1))) (AO (h _ #[(d.2 _ (B0 G.ne)).trans G.obj,c,G.ne] d)))
theorem lf{vs:U Aa}{a:U (Ae×Aa)}(X:K.In s.heap)(b:PySem.W.makesIn K C=J')
  (c:Iz K (.ref C) "__init__"=Z (Z (.ref f))) (e:PySem.W.typeIn K (.ref f)=Z (.type "function"))
  (h:codeAny (Af prog w) (A.under (.builtin "type.__call__" #[.ref C::vs,a])) (.call (.ref f) #[.ref (s.heap.objs.size+1)::vs,a]) (PySem.W.InitBack (s.heap.objs.size+1) R)
   {s with heap:=(s.heap.push Ms).push (JM C s.heap.objs.size)}):
  codeAny (Af prog w) A (.call (.ref C) #[vs,a]) R s:=by
 obtain⟨i,g,d,t,os⟩:=s
 exact PySem.W.make_core (PySem.W.makes_of X b) (PySem.W.looks_findIn X c) (λself=>PySem.W.bind_fn X self e) (.inl rfl) h
end
noncomputable def EA(f:Ae)(v:V):U (Ae×V)->U (Ae×V)
 |[]=>[(f,v)]
 |(g,x)::r=>if g=f then(g,v)::r else(g,x)::EA f v r
theorem Wv(f g:Ae)(v:V):∀fs:U (Ae×V),(EA f v fs).lookup g=if g=f then Z v else fs.lookup g
 |[]=>by
  show List.lookup g [(f,v)]=_
  grind
 |(k,x)::r=>by
  have a:=Wv f g v r
  grind [EA]
theorem Rq(f:Ae)(v:V):∀fs:U (Ae×V),f∈(EA f v fs).map (·.1)/\∀g,g∈fs.map (·.1)->g∈(EA f v fs).map (·.1)
 |[]=>#[by simp[EA],λg h=>by simp at h]
 |(k,x)::r=>by
  obtain⟨a,i2⟩:=Rq f v r
  grind [EA]
theorem Ww(f:Ae)(v:V):∀fs:U (Ae×V),(EA f v fs).length<=fs.length+1
 |[]=>by simp[EA]
 |(k,x)::r=>by
  have a:=Ww f v r
  grind [EA]
theorem Cj.some_of{v:V}{o:O Aa}(r:Cj (Z v) o):∃u,o=Z u/\RelV v u:=by
 cases o with
 |none=>exact(show False from r).elim
 |some u=>exact#[u,rfl,r]
theorem Cj.none_of{o:O Aa}(r:Cj J o):o=J:=by
 cases o with
 |none=>rfl
 |some u=>exact(show False from r).elim
theorem lg{v:V}(r:RelV v u):PySem.W.handedIn u=J':=by
 cases v with
 |non=>cases(show u=Gb from r);rfl
 |bl b=>cases(show u=Value.bool b from r);rfl
 |int i=>obtain⟨t,e⟩:=(show ∃t,u=Value.int i t from r);cases e;rfl
 |str x=>obtain⟨t,e⟩:=(show ∃t,u=Value.str x t from r);cases e;rfl
 |ref a=>cases(show u=Ci a from r);rfl
 |ty n=>cases(show u=Value.type n from r);rfl
section
variable{P:AI}{w:Ah}{h:Ak}{dx:Ac}{fs:U (Ae×V)}
theorem Rr(hok:B7 P w H h)(e:Rd H a (.ins C dx fs)):∃b,EX h a dx C b/\(∀f,Cj (fs.lookup f) (b f))/\PySem.Within b (fs.map (·.1))/\fs.length<=1000/\H dx=Z (.own a):=by
 obtain⟨d,z,ne,ob,b,n,r,q⟩:=(show AY P w H h a (.ins C dx fs)from e.ok hok)
 exact#[b,#[ob,n,ne],r,q,z,d]
end
structure Er(K:Am)(C:Ac):Prop where
 pg:PySem.W.plainGet K C Str.empty=J'
 hd:PySem.W.hasDictIn K C=J'
 po:PySem.W.plainOver K C=J'
 sa:Iz K (.ref C) "__setattr__"=Z (Z (.builtin "object.__setattr__"))
theorem Er.get{K:Am}(c:Er K C)(f:Ae):PySem.W.plainGet K C f=J':=c.pg
def Bx(K:Am)(C:Ac)(f:Ae):Prop:=Iz K (.ref C) f=Z J
theorem Bx.taker{K:Am}{f:Ae}(n:Bx K C f):PySem.W.takerIn K C f=Z J:=by
 unfold PySem.W.takerIn
 rw[show Iz K (.ref C) f=Z J from n]
 rfl
structure IA(K:Am)(C:Ac)(m:Ae)(f:Ac):Prop where
 at_:Iz K (.ref C) m=Z (Z (.ref f))
 fn:PySem.W.isFn K (.ref f)=J'
 kp:Hz K (.ref f)=J'
section
variable{s:Ab}{dx:Ac}{fs:U (Ae×V)}{f:Ae}{v:V}{A:Ag}
theorem lh{b:Bool}{Q:AJ}(k:Inv X pins I H s)(e:Rd H a (.ins C dx fs))(c:Er X.K C)(n:Bx X.K C f)(l:fs.lookup f=Z v)
  (h:∀u s',Inv X pins I H s'->RelV v u->Q u s'):wpAny (Af X.prog X.w) A (getAttr (.ref a) f b) Q E s:=by
 obtain⟨g,j,r,_,_,_⟩:=Rr k.hok e
 obtain⟨u,i,d⟩:=Cj.some_of (v:=v) (o:=g f) (l ▸ r f)
 exact la k.kIn j (c.get f) c.hd n i (lg d) (h u _ (k.tok _) d)
theorem Rs{m:Ae}{g:Ac}{Q:Aa×U Aa->Ab->Prop}(f:Inv X pins I H s)(e:Rd H a (.ins C dx fs))(c:Er X.K C)(k:IA X.K C m g)(l:fs.lookup m=J)
  (h:Q (.ref g,[.ref a]) s):wpAny (Af X.prog X.w) A (getMethod (.ref a) m pl) Q E s:=by
 obtain⟨b,d,r,_,_,_⟩:=Rr f.hok e
 exact lb f.kIn d (c.get m) k.at_ k.fn (show b m=J by grind [Cj.none_of]) h
theorem li{y:V}(L:Inv X pins I H s)(e:H a=Z (.ins C dx fs))(c:Er X.K C)(n:Bx X.K C f)(G:fs.length<1000)(l:RelV y u)
  (h:∀s',Inv X pins I (AN H a (.ins C dx (EA f y fs))) s'->Q () s'):wpAny (Af X.prog X.w) A (setAttr (.ref a) f u) Q E s:=by
 obtain⟨i,F,r,j,_,k⟩:=Rr L.hok (.inl e)
 refine lc L.kIn F c.sa c.po n.taker c.hd j (show(fs.map (·.1)).length<=AA by rw[Bh,Iy];lia) λm d p=>h _ ?_
 have hd:∃o,m.get? dx=Z o:=let⟨o,_,_,t,_⟩:=d.ns;#[o,t]
 refine L.write (x:=a) (e:=dx) (e ▸ GX) (.inr k) (λb q v z=>(p.2 b v).trans z) hd ?_
 refine#[Zq F.ne ▸ k,?_,F.ne,d.obj,_,d.ns,λg=>?_,λg B=>?_]
 ·have:=Ww f y fs;lia
 ·show Cj ((EA f y fs).lookup g) (if g=f then Z u else i g)
  rw[Wv]
  by_cases q:g=f
  ·rw[if_pos q,if_pos q];exact l
  ·rw[if_neg q,if_neg q];exact r g
 ·by_cases q:g=f
  ·rw[q];exact(Rq f y fs).1
  ·refine(Rq f y fs).2 g (j g λz=>B ?_)
   show(if g=f then Z u else i g)=J
   rw[if_neg q];exact z
theorem Inv.made(d:Inv X pins I H s):Inv X pins I (AN (AN H s.heap.objs.size (.own (s.heap.objs.size+1))) (s.heap.objs.size+1) (.ins C s.heap.objs.size []))
  {s with heap:=(s.heap.push Ms).push (JM C s.heap.objs.size)}:=by
 have c:((s.heap.push Ms).push (JM C s.heap.objs.size)).get? (s.heap.objs.size+1)=Z (JM C s.heap.objs.size):=by
  have:=B4 (s.heap.push Ms) (o:=JM C s.heap.objs.size) rfl
  simp_all
 refine(d.laid (a:=s.heap.objs.size) (o:=.own (s.heap.objs.size+1)) (h':=s.heap.push Ms) (t':=s.toks) (λb u q=>Bp _ q) (A5 _) #[_,(B4 s.heap rfl)]).laid (a:=s.heap.objs.size+1) (o:=.ins C s.heap.objs.size []) (t':=s.toks) (λb u q=>Bp _ q) (Nat.le_of_eq (K5 _ _)) ?_
 refine#[by rw[Zq (Nat.ne_add_one s.heap.objs.size),ZZ],F2 _,(Nat.ne_add_one s.heap.objs.size),c,λ_=>J,(Heap.Ns1.of_empty #[Ms,(T' []),_,(B4 s.heap rfl),rfl,(λe f=>absurd f (by simp)),λ_=>rfl]).at λo q=>Bp _ q,λ_=>GX,λy g=>absurd rfl g]
theorem lj{prog:AI}{w:Ah}{env:Env}{e:Expr}{f:Ae}{s:Ab}{Q:AJ}(b:Gk e f env (Ao e env)=Ao e env)
  (h:wpAny (Af prog w) A (Ao e env) (λo a=>wpAny (Af prog w) A (getAttr o f J') Q E a) E s):wpAny (Af prog w) A (Ao (.Attribute e f pos) env) Q E s:=
 Attribute_any_ h (by rw[arm_eval_Attribute,b])
end
def ll(K:Am)(d:TE)(f:Ae):TE:=λe H Q=>d e H λx b=>∃a C g c v,x=.ref a/\Rd b a (.ins C g c)/\Er K C/\Bx K C f/\c.lookup f=Z v/\Q v b
def lm(K:Am)(g h:TE)(f:Ae):TS:=λD b H=>h b H λy i=>g b i λx d=>∃a C e c,x=.ref a/\d a=Z (.ins C e c)/\Er K C/\Bx K C f/\c.length<1000 /\
 D.nx b (AN d a (.ins C e (EA f y c)))
section
variable{o e value:Expr}{f:Ae}{tv:TE}
theorem Wx(d:PE X e ta)(g:Gk e f X.env (Ao e X.env)=Ao e X.env):PE X (.Attribute e f pos) (ll X.K ta f):=by
 intro b s i H Q E h
 refine lj g (AV (d b s i H _ E h) λu w j=>?_)
 obtain⟨x,k,m,o,a,C,y,z,v,rfl,p,c,n,l,q⟩:=j
 obtain rfl:u=Ci a:=o
 exact lh m p c n l λA B r t=>#[v,k,r,t,q]
theorem lq(e:PE X o ta)(g:PE X value tv)(i:Dv value (Z (.Attribute o f pos')) pos.line X.env=AC O'):PS X (.Assign [.Attribute o f pos'] value pos) (lm X.K ta tv f):=by
 intro b s d H D N h
 refine plainObj_wpAny_Assign_Attribute (AV (g b s d H _ N h) λu j ⟨y,k,m,p,q⟩=>AV (e b j d k _ m q) λr E t=>?_) i
 obtain⟨x,G,v,w,a,C,F,L,rfl,z,c,n,l,A⟩:=t
 obtain rfl:r=Ci a:=w
 exact li v z c n l p λM B=>#[d,_,B,A]
end
structure AF(k:Nat)(A:Ag):Prop where
 hd:A.handled=J
 dp:A.depth+3*k+5<recursionLimit
 un:A.units+16*k+200<Aq
theorem AF.mono{k:Nat}{A:Ag}(r:AF k A)(h:j<=k):AF j A:=#[r.hd,by have:=r.dp;lia,by have:=r.un;lia]
theorem AF.deeper{k:Nat}{A:Ag}(r:AF (k+1) A)(env:Env):AF k (A.deeper env):=
 #[r.hd,by have:=r.dp;show A.depth+1+3*k+5<_;lia,by have:=r.un;show A.units+3+16*k+200<_;lia]
theorem AF.in1{k:Nat}{A:Ag}(r:AF (k+1) A):AF k A.in1:=
 #[r.hd,by have:=r.dp;show A.depth+3*k+5<_;lia,by have:=r.un;show A.units+1+16*k+200<_;lia]
theorem lu{A:Ag}{us:U Aa}{a:U (Ae×Aa)}:(A.under (.builtin "type.__call__" #[.ref C::us,a])).depth=A.depth+1:=by
 rfl
theorem lw{A:Ag}{us:U Aa}{a:U (Ae×Aa)}:(A.under (.builtin "type.__call__" #[.ref C::us,a])).units=A.units+1:=by
 rfl
theorem AF.make{k:Nat}{A:Ag}(r:AF (k+1) A)(C:Ac)(us:U Aa)(a:U (Ae×Aa)):AF k (A.under (.builtin "type.__call__" #[.ref C::us,a])):=
 #[r.hd,by have:=r.dp;rw[lu];lia,by have:=r.un;rw[lw];lia]
theorem AF.depth{k:Nat}{A:Ag}(r:AF k A):A.depth<recursionLimit:=by have:=r.dp;lia
theorem AF.units{k:Nat}{A:Ag}(r:AF k A):A.units+64<Aq:=by have:=r.un;lia
def Mt:TA:=λ_ H Q=>Q [] H
def Wz(b:TE)(tr:TA):TA:=λa H Q=>b a H λx c=>tr a c λd e=>Q (x::d) e
section
variable{e:Expr}{t:TA}
theorem Bm:PA X [] Mt:=λ_ _ _ _ H Q a h=>Calls.spliced_nil #[[],H,a,.nil,h]
theorem Es(c:PE X e te)(d:PA X es t)(f:AE (e::es) X.env=(O',Ao e X.env)::AE es X.env:=by rfl):PA X (e::es) (Wz te t):=by
 intro pos a s b H Q w h
 rw[f]
 show wpAny _ _ (spliced ((O',Ao e X.env)::Ay pos (AE es X.env))) _ _ s
 exact Calls.spliced_cons (AV (c a s b H _ w h) λu g ⟨x,i,j,k,l⟩=>AV (d pos a g b i _ j l) λr v ⟨m,n,o,p,q⟩=>#[x::m,n,o,.cons k p,q])
def lx(t:TA):TE:=λc H Q=>t c H λa b=>a.length<=AA/\∀p,b p=J->Q (.ref p) (AN b p (.tup a))
def ly(t:TA):TE:=λc H Q=>t c H λa b=>a.length<=AA/\∀p,b p=J->Q (.ref p) (AN b p (.lst a))
theorem lz {f} (h:PA X es t):PE X (.Tuple es f pos) (lx t):=by
 intro a s g H Q m i
 refine wpAny_Tuple_spliced (AV (h pos a s g H _ m i) λj c ⟨k,l,d,r,z,q⟩=>#[r.length ▸ z,?_])
 refine#[.ref c.heap.objs.size,AN l c.heap.objs.size (.tup k),d.laid (t':=c.toks) (λb u e=>Bp _ e) (A5 _) ?_,rfl,q _ (d.hok.fresh (A5 _))]
 exact#[z,j,r,#[_,B4 _ rfl,rfl,_,rfl]]
theorem lA(h:PA X es t):PE X (.List es pos) (ly t):=by
 intro a s f H Q l g
 refine wpAny_List_spliced (AV (h pos a s f H _ l g) λi c ⟨j,k,d,r,z,q⟩=>#[r.length ▸ z,?_])
 refine#[.ref c.heap.objs.size,AN k c.heap.objs.size (.lst j),d.laid (t':=c.toks) (λb u e=>Bp _ e) (A5 _) ?_,rfl,q _ (d.hok.fresh (A5 _))]
 exact#[z,i,0,r,B4 _ rfl]
end
abbrev Sp:=U V->Hp->VK->XK->Prop
variable{sp:Sp}
abbrev Dw:=U Env->Hp->Ab->XK->AJ
variable{CX:Dw}
structure CF(P:AI)(w:Ah)(K:Am)(mg:Bl)(base:Ak)(A:Ag)(outer:List Env)(s:Ab)(H:Hp):Prop where
 frames:A.frames=Z outer
 mod:Mod K mg base
 bs:∀b o,base.get? b=Z o->s.heap.get? b=Z o/\H b=J
 bsz:base.objs.size<=s.heap.objs.size
 funs:s.heap.FunFrames base outer
 frf:∀b∈Cd outer,H b=J
 hok:B7 P w H s.heap
 bare:AllBare s.gens
def CE(outer:U Env)(P:AI)(w:Ah)(H:Hp)(s:Ab)(Q:VK)(u:Aa)(s':Ab):Prop:=
 ∃v a,s'.os=s.os/\AllBare s'.gens/\Un (Cd outer) [] H a s.heap s'.heap/\B7 P w a s'.heap/\RelV v u/\Q v a
def CR(CX:Dw)(outer:U Env)(P:AI)(w:Ah)(H:Hp)(s:Ab)(Q:VK)(E:XK)(r:Result)(s':Ab):Prop:=
 match r with
 |.ok (.ret u)=>CE outer P w H s Q u s'
 |.ok _=>False
 |.error e=>CX outer H s E e s'
structure AQ(P:AI)(w:Ah)(K:Am)(mg:Bl)(base:Ak)(CX:Dw)(k:Nat)(f:Ac)(fd:B6)(ps:List Ae)(sp:Sp):Prop where
 len:∀vs H Q E,sp vs H Q E->vs.length=ps.length
 run:∀(A:Ag) (outer:List Env) (s:Ab) (H:Hp) (args:Args) (us:List Aa) (vs:List V) (Q:VK) (E:XK),AF k A->CF P w K mg base A outer s H->BindsTo s fd args (ps.zip us)->An vs us->sp vs H Q E ->
  codeAny (Af P w) A (.call (.ref f) args) (CR CX outer P w H s Q E) s
theorem AQ.imp{P:AI}{w:Ah}{K:Am}{mg:Bl}{base:Ak}{k:Nat}{f:Ac}{fd:B6}{b:U Ae}{a:Sp}(F:AQ P w K mg base CX k f fd b sp)
  (h:∀vs H Q E,a vs H Q E->sp vs H Q E):AQ P w K mg base CX k f fd b a:=
 #[λvs H Q E q=>F.len vs H Q E (h _ _ _ _ q),λA outer s H args c vs Q E d e g i j=>F.run A outer s H args c vs Q E d e g i (h _ _ _ _ j)]
theorem CF.make{P:AI}{w:Ah}{K:Am}{mg:Bl}{base:Ak}{A:Ag}{outer:U Env}{s:Ab}(e:CF P w K mg base A outer s H)(C:Ac)(us:U Aa)(a:U (Ae×Aa)):
  CF P w K mg base (A.under (.builtin "type.__call__" #[.ref C::us,a])) outer s H:=#[by(simpa[Around.under,Code.envs,Code.isFrame,pushEnvs]using e.frames),e.mod,e.bs,e.bsz,e.funs,e.frf,e.hok,e.bare]
theorem CF.in1{P:AI}{w:Ah}{K:Am}{mg:Bl}{base:Ak}{A:Ag}{outer:U Env}{s:Ab}(e:CF P w K mg base A outer s H):
  CF P w K mg base A.in1 outer s H:=#[e.frames,e.mod,e.bs,e.bsz,e.funs,e.frf,e.hok,e.bare]
section
variable{s:Ab}
theorem Inv.env0(a:Inv X pins I H s):CF X.prog X.w X.K X.mg X.base X.A X.stack s H:=
 #[a.ok.frames,a.ok.mod,a.bs,BJ a.ok.bsz a.sz,a.stack,a.stkFree,a.hok,a.bare]
theorem Inv.after{Q:VK}(f:Inv X pins I H s)(h:CE X.stack X.prog X.w H s Q u s'):EP X pins I Q u s':=by
 obtain⟨v,c,os,bare,un,hok,r,q⟩:=h
 obtain⟨e,g,d,t,a⟩:=s'
 obtain rfl:a=s.os:=os
 exact#[v,c,f.call (h':=e) (g':=g) (d':=d) (t':=t) (ch:=[]) un hok bare (λb z=>absurd z (by simp)),r,q]
end
def Ou(sp:Sp)(a:U V)(E:XK)(t:TA):TE:=λb H Q=>t b H λc d=>sp (c++a) d Q E
def JV(C:Ac)(m:Ae)(sp:Sp)(b:U V)(E:XK)(f:TE)(t:TA):TE:=λc H Q=>f c H λx d=>∃a g e,x=.ref a/\Rd d a (.ins C g e)/\e.lookup m=J /\
 t c d λh i=>sp (x::(h++b)) i Q E
def lB(C:Ac)(sp:Sp)(b:U V)(E:XK)(t:TA):TE:=λd H Q=>t d H λe c=>∀x a,c x=J->c a=J->x=a+1 ->
 sp (.ref x::(e++b)) (AN (AN c a (.own x)) x (.ins C a [])) (λv f=>v=.non/\Q (.ref x) f) E
def Binds(K:Am)(fd:B6)(b:U Ae)(c:U Aa):Prop:=
 ∀(s:Ab) (a:U Aa),K.In s.heap->(a++c).length=b.length->BindsTo s fd #[a,[]] (b.zip (a++c))
theorem Binds.all{K:Am}{fd:B6}{a:U Ae}(h:∀us:U Aa,us.length=a.length->bindArgs fd #[us,[]]=AC (a.zip us)):Binds K fd a []:=λs us _ b=>by
 rw[Eb]at b ⊢
 exact .of_eq (h us b)
def EY(CX:Dw)(X:Cx)(E:XK):Prop:=∀(a:AS)(c:St)(H:Hp)(s:Ab)(e:Aa)(b:Ab),Inv X a c H s->CX X.stack H s E e b->X.xe e b
section
variable{k:Nat}{f:Ac}{fd:B6}{dvs:U V}{ds:U Aa}{E:XK}{x m:Ae}{p:Az}{e o:Expr}{t:TA}
theorem Rt{a:AS}{s:Ab}{Q:VK}{us:U Aa}(F:AQ X.prog X.w X.K X.mg X.base CX k f fd ps sp)(c:AF k X.A)(d:Binds X.K fd ps ds)(hd:An dvs ds)(g:EY CX X E)
  (l:Inv X a I H s) (r:An vs us) (h:sp (vs++dvs) H Q E):wpAny (Af X.prog X.w) X.A (call (.ref f) us) (EP X a I Q) X.xe s:=by
 refine wpAny_call (K6 (F.run X.A X.stack s H #[us,[]] (us++ds) (vs++dvs) Q E c l.env0 (d s us l.kIn (show(us++ds).length=ps.length by rw[<- (r.append hd).length];exact F.len _ _ _ _ h)) (r.append hd) h) λr i b=>?_)
 cases r with
 |error e=>exact g a I H s e i l b
 |ok j=>
  cases j with
  |ret u=>exact l.after b
  |next=>exact BP b
  |brk=>exact BP b
  |cont=>exact BP b
theorem Ov(F:AQ X.prog X.w X.K X.mg X.base CX k f fd ps sp)(i:AF k X.A)(j:Gl X x)(l:X.mg x=Z (.ref f))(m:Hz X.K (.ref f)=J')(n:Binds X.K fd ps ds)(hd:An dvs ds)(o:EY CX X E)
  (u:PA X (e::es) t) (b:Cg x:=by ext) (v:AE (e::es) X.env=(O',Ao e X.env)::AE es X.env:=by rfl) (c:(Ay pos (AE es X.env)).any (·.1)=O':=by rfl):
  PE X (.Call (.Name x p) (e::es) [] pos) (Ou sp dvs E t):=by
 intro a s y H Q d h
 exact Mu (Mi d j l (Ru (h₀:=X.base) d.ok.mod.kin m (AV (u pos a s y H _ d h) λz B ⟨C,G,g,r,q⟩=>#[g.kIn,Rt F i n hd o g r q]) v c) b)
theorem lC(y:PE X o ta)(c:Er X.K C)(j:IA X.K C m f)(F:AQ X.prog X.w X.K X.mg X.base CX k f fd ps sp)(L:AF k X.A)(M:Binds X.K fd ps ds)(hd:An dvs ds)(N:EY CX X E)(P:PA X (e::es) t)
  (d:AE (e::es) X.env=(O',Ao e X.env)::AE es X.env:=by rfl) (g:(Ay pos (AE es X.env)).any (·.1)=O':=by rfl)
  (T:Ao (.Call (.Attribute o m apos) (e::es) [] pos) X.env=(do
   let n <- Ao o X.env
   standAt apos.atName
   let(f,i) <- D8 [n] (getMethod n m pl)
   callWith pos f i (Ay pos (AE (e::es) X.env)) (Gm pos (Gn [] X.env))):=by rfl):
  PE X (.Call (.Attribute o m apos) (e::es) [] pos) (JV C m sp dvs E ta t):=by
 intro b s p H Q S h
 refine PySem.W.methodCall_KW (pl:=pl) (AV (y b s p H _ S h) λu R Y=>?_) T
 obtain⟨x,H1,v,rx,a,dx,fs,rfl,ea,l,q⟩:=Y
 obtain rfl:u=Ci a:=rx
 exact Rs v ea c j l (Ru (first:=[.ref a]) (h₀:=X.base) S.ok.mod.kin j.kp (AV (P pos b R p H1 _ v q) λz s2 ⟨B,H2,G,r,q2⟩=>#[G.kIn,Rt (us:=.ref a::z) (vs:=.ref a::B) F L M hd N G (.cons rfl r) q2]) d g)
theorem WA(j:PE X o ta)(c:Er X.K C)(g:IA X.K C m f)(F:AQ X.prog X.w X.K X.mg X.base CX k f fd ps sp)(n:AF k X.A)(p:Binds X.K fd ps ds)(hd:An dvs ds)(r:EY CX X E)
  (t:Ao (.Call (.Attribute o m apos) [] [] pos) X.env=(do
   let i <- Ao o X.env
   standAt apos.atName
   let(f,d) <- D8 [i] (getMethod i m pl)
   callWith pos f d (Ay pos (AE [] X.env)) (Gm pos (Gn [] X.env))):=by rfl):
  PE X (.Call (.Attribute o m apos) [] [] pos) (JV C m sp dvs E ta Mt):=by
 intro b s v H Q P h
 refine PySem.W.methodCall_KW (pl:=pl) (AV (j b s v H _ P h) λu G y=>?_) t
 obtain⟨x,N,e,z,a,L,M,rfl,B,l,q⟩:=y
 obtain rfl:u=Ci a:=z
 exact Rs e B c g l (PySem.W.callWith_K0 (first:=[.ref a]) e.kIn g.kp (Rt (us:=[.ref a]) (vs:=[.ref a]) F n p hd r e (.cons rfl .nil) q))
structure Mk(K:Am)(C f:Ac):Prop where
 makes:PySem.W.makesIn K C=J'
 init:Iz K (.ref C) "__init__"=Z (Z (.ref f))
 fn:PySem.W.isFn K (.ref f)=J'
 kp:Hz K (.ref C)=J'
theorem lD{a:AS}{s:Ab}{Q:VK}{us:U Aa}(M:Mk X.K C f)(F:AQ X.prog X.w X.K X.mg X.base CX k f fd ps sp)(j:AF (k+1) X.A)(l:Binds X.K fd ps ds)(hd:An dvs ds)
  (m:EY CX X E) (B:Inv X a I H s) (r:An vs us)
  (h:∀x c,H x=J->H c=J->x=c+1->sp (.ref x::(vs++dvs)) (AN (AN H c (.own x)) x (.ins C c [])) (λv n=>v=.non/\Q (.ref x) n) E):
  wpAny (Af X.prog X.w) X.A (call (.ref C) us) (EP X a I Q) X.xe s:=by
 have g:=h (s.heap.objs.size+1) s.heap.objs.size (B.hok.fresh (Nat.le_succ _)) (B.hok.fresh (A5 _)) rfl
 have d:=Inv.made (C:=C) B
 have i:An (V.ref (s.heap.objs.size+1)::(vs++dvs)) (Ci (s.heap.objs.size+1)::(us++ds)):=.cons rfl (r.append hd)
 have o:(Ci (s.heap.objs.size+1)::us++ds).length=ps.length:=by
  have e:=i.length
  rw[F.len _ _ _ _ g]at e
  exact e.symm
 refine wpAny_call (lf (f:=f) B.kIn M.makes M.init (beq_iff_eq.mp M.fn) (K6 (F.run _ X.stack _ _ #[Ci (s.heap.objs.size+1)::us,[]] (Ci (s.heap.objs.size+1)::(us++ds)) _ _ E (j.make C us [])
  (d.env0.make C us []) (l _ (Ci (s.heap.objs.size+1)::us) d.kIn o) i g) λr p b=>?_))
 cases r with
 |error e=>exact m a I _ _ e p d b
 |ok q=>
  cases q with
  |ret u=>
   obtain⟨v,t,y,z,rfl,q3⟩:=d.after b
   exact#[z,#[V.ref (s.heap.objs.size+1),t,y,rfl,q3]]
  |next=>exact BP b
  |brk=>exact BP b
  |cont=>exact BP b
theorem lE(M:Mk X.K C f)(F:AQ X.prog X.w X.K X.mg X.base CX k f fd ps sp)(i:AF (k+1) X.A)(j:Gl X x)(l:X.mg x=Z (.ref C))(m:Binds X.K fd ps ds)(hd:An dvs ds)(n:EY CX X E)
  (o:PA X (e::es) t) (b:Cg x:=by ext) (u:AE (e::es) X.env=(O',Ao e X.env)::AE es X.env:=by rfl) (c:(Ay pos (AE es X.env)).any (·.1)=O':=by rfl):
  PE X (.Call (.Name x p) (e::es) [] pos) (lB C sp dvs E t):=by
 intro a s v H Q d h
 exact Mu (Mi d j l (Ru (h₀:=X.base) d.ok.mod.kin M.kp (AV (o pos a s v H _ d h) λy z ⟨B,G,g,r,q⟩=>#[g.kIn,lD M F i m hd n g r q]) u c) b)
end
def PK(X:Cx)(b:U Et)(t:TA):Prop:=
 ∀(c:Az) (a:AS) (s:Ab) (d:St) (H:Hp) (Q:U V->Hp->Prop),Inv X a d H s->t d H Q->wpAny (Af X.prog X.w) X.A (evalAll ((Gm c (Gn b X.env)).map (·.2))) (AP X a d Q) X.xe s
section
variable{k:Nat}{f:Ac}{x m:Ae}{p kpos:Az}{e o:Expr}{kws:U Et}{t:TA}{nm:O Ae}
theorem lF:PK X [] Mt:=λ_ _ _ _ H Q a h=>wpAny_evalAll_nil #[[],H,a,.nil,h]
theorem lG(c:PE X e te)(d:PK X kws t):PK X (#[nm,e,kpos]::kws) (Wz te t):=by
 intro pos a s b H Q v h
 exact wpAny_evalAll_cons (Al (AV (c a s b H _ v h) λu f ⟨x,g,i,j,k⟩=>Al (wpAny_standAt (AO (AV (d pos a f b g _ i k) λq r ⟨l,m,n,o,p⟩=>#[x::l,m,n,.cons j o,p])))))
end
structure Z8(N P:List Ae)(sc:Scope):Prop where
 kind:sc.kind=.function
 co:sc.isCoroutine=O'
 gen:sc.isGenerator=O'
 nd:N.Nodup
 pre:N.take P.length=P
 par:∀x∈P,sc.names.lookup x=Z .local\/sc.names.lookup x=Z .cell
 nofree:∀y∈sc.names,y.2≠.free
theorem WB{kindOf:Ae->O Gp}{x:Ae}:∀{a:U (Ae×Aa)}{m:Bl},(∀v,(x,v)∉a)->bindL kindOf a m x=m x
 |[],_,_=>rfl
 |(n,v)::r,m,h=>by
  unfold bindL
  rw[WB λw b=>h w (Bu _ b)]
  split
  ·grind [Bk]
  ·rfl
theorem WC{kindOf:Ae->O Gp}{x:Ae}:∀{a:U (Ae×Aa)}{m:Bl},(∀v,(x,v)∉a)->bindC kindOf a m x=m x
 |[],_,_=>rfl
 |(n,v)::r,m,h=>by
  unfold bindC
  rw[WC λw b=>h w (Bu _ b)]
  split
  ·rfl
  ·grind [Bk]
theorem WD{kindOf:Ae->O Gp}{x:Ae}{v:Aa}:∀{P:U Ae}{vs:U Aa}{i:Nat}{m:Bl},P.Nodup->P[i]?=Z x->vs[i]?=Z v->kindOf x=Z .local ->
  bindL kindOf (P.zip vs) m x=Z v
 |[],_,_,_,_,h,_,_=>by simp at h
 |_::_,[],_,_,_,_,h,_=>by simp at h
 |p::P,w::vs,0,m,nd,a,b,c=>by
  simp at a b;subst a;subst b
  show bindL kindOf ((p,w)::P.zip vs) m p=_
  unfold bindL
  rw[WB λv d=>(IB.mp nd).1 (Mv d).1,if_pos c]
  simp
 |p::P,w::vs,i+1,m,nd,a,b,c=>by
  unfold bindL
  exact WD (i:=i) (IB.mp nd).2 (by simpa using a) (by simpa using b) c
theorem WE{kindOf:Ae->O Gp}{x:Ae}{v:Aa}:∀{P:U Ae}{vs:U Aa}{i:Nat}{m:Bl},P.Nodup->P[i]?=Z x->vs[i]?=Z v->kindOf x≠Z .local ->
  bindC kindOf (P.zip vs) m x=Z v
 |[],_,_,_,_,h,_,_=>by simp at h
 |_::_,[],_,_,_,_,h,_=>by simp at h
 |p::P,w::vs,0,m,nd,a,b,c=>by
  simp at a b;subst a;subst b
  show bindC kindOf ((p,w)::P.zip vs) m p=_
  unfold bindC
  rw[WC λv d=>(IB.mp nd).1 (Mv d).1,if_neg c]
  simp
 |p::P,w::vs,i+1,m,nd,a,b,c=>by
  unfold bindC
  exact WE (i:=i) (IB.mp nd).2 (by simpa using a) (by simpa using b) c
def FE(N:U Ae)(vs:U V):St:=vs.map Z++C9 (N.length-vs.length) J
noncomputable def CK(CX:Dw)(P:AI)(w:Ah)(K:Am)(mg:Bl)(base:Ak)(N:U Ae)(a:Ae)(scope:Scope)(f:Ac)(c:Aa)(A:Ag)(outer:U Env)(s:Ab)(H:Hp)(E:XK):Cx where
 prog:=P
 w:=w
 K:=K
 mg:=mg
 base:=base
 A:=A.deeper (A0 a scope s.heap.objs.size f c)
 N:=N
 s₀:=s
 H₀:=H
 env:=A0 a scope s.heap.objs.size f c
 outer:=outer
 stack:=A0 a scope s.heap.objs.size f c::outer
 ex:=[]
 calm:=J'
 fn:=λ_=>J'
 pn:=[]
 xe:=λe d=>wpAny (Af P w) (A.deeper (A0 a scope s.heap.objs.size f c)) (leaving (A0 a scope s.heap.objs.size f c) e) (λ_ b=>CX outer H s E e b) (λg b=>CX outer H s E g b) d
theorem WF{a:Scope}{n:Nat}{x:Ae}(h:a.names.lookup x=Z .cell):∃c,(cellsFrom n a.names []).lookup x=Z c:=by
 have q:=PySem.W.cellsFrom_some a.names n [] (.inl h)
 grind [WG]
theorem lH{P:AI}{w:Ah}{K:Am}{mg:Bl}{base:Ak}{N l:U Ae}{d:Ae}{f:Ac}{G:Aa}{A:Ag}{outer:U Env}{s F:Ab}{E:XK}{us:U Aa}
  (S:Z8 N l scope) (hd:A.handled=J) (j:CF P w K mg base A outer s H) (R:vs.length=l.length) (r:An vs us)
  (x:InCallC s s.heap.objs.size (bindL (A0 d scope s.heap.objs.size f G).kindOf (l.zip us) λ_=>J) (cellsFrom (s.heap.objs.size+1) scope.names []) (bindC (A0 d scope s.heap.objs.size f G).kindOf (l.zip us) λ_=>J) F):
  Inv (CK CX P w K mg base N d scope f G A outer s H E) [] (FE N vs) H F:=by
 have Q:l.length<=N.length:=by have:=congrArg IC S.pre;rw[List.length_take]at this;lia
 obtain⟨X,Y,rfl,L⟩:=x.done
 have m:∀b:Ac,b∉(CK CX P w K mg base N d scope f G A outer s H E).ex:=λb z=>absurd (show b∈([]:U Ac)from z) (by simp)
 refine#[#[j.mod,S.kind,rfl,rfl,A5 _,λy z c X g=>?_,λy o=>?_,λy c _ h=>?_,λ_=>hd,Around.frames_deeper j.frames,.inr #[rfl,rfl],λb z=>absurd z (m b),j.bs,j.bsz,λb _ _=>m b,λb z=>absurd z (m b),j.funs,j.frf],
  rfl,j.bare,Un.kept L,#[_,x.toInCall.ns,λi y v X g h3=>?_],λy c h=>#[_,x.cell y c h],j.hok.fresh (A5 _),λy c h=>?_,λp t=>absurd (show p∈([]:AS)from t) (by simp),j.hok.kept L,?_]
 ·exact name_of_addr x.apart (JX X) (JX g)
 ·rcases o with o|o
  ·exact WF o
  ·exact absurd rfl (S.nofree _ (JX o))
 ·exact K1 (x.above y c (JX h))
 ·have B:i<vs.length:=by
   unfold FE at g
   by_cases B:i<vs.length
   ·exact B
   ·rw[Mw (by simpa using B),ID]at g
    split at g<;>cases g
  have T:vs[i]?=Z v:=by
   unfold FE at g
   rw[HA (by simpa using B),DQ]at g
   cases e:vs[i]? with
   |none=>rw[e]at g;cases g
   |some a=>rw[e]at g;cases g;rfl
  obtain⟨u,M,W⟩:=r.get T
  have t:l[i]?=Z y:=by
   rw[<- S.pre,List.getElem?_take_of_lt (K7 B R)];exact X
  have C:l.Nodup:=S.pre ▸ S.nd.sublist (List.take_sublist _ _)
  refine#[u,W,?_]
  rcases S.par y (GY t)with k|k
  ·exact .inl #[k,WD C t M k]
  ·obtain⟨c,e⟩:=WF (n:=s.heap.objs.size+1) k
   refine .inr #[.inl k,c,e,?_]
   have q:=x.cell y c e
   rw[WE C t M (by show scope.names.lookup y≠_;rw[k];decide)]at q
   exact q
 ·exact j.hok.fresh (K1 (x.above y c (JX h)))
 ·unfold FE
  show _=N.length
  rw[FG,Bh,K8]
  lia
theorem WH{P:AI}{w:Ah}{K:Am}{mg:Bl}{base:Ak}{k:Nat}{f:Ac}{name a:Ae}{c:Arguments}{g:U Au}{R T m X d ct oc:Aa}{Y od:O Ac}
  {C:Array (O Aa)} {N B:U Ae} (lk:K.lookup f=Z #[oc,od,.func (IE name a c g scope R T m X Y d ct),C]) (G:PySem.W.codeIn K d a=J') (S:Z8 N B scope)
  (len:∀vs H Q E,sp vs H Q E->vs.length=B.length)
  (i:∀(A:Ag) (outer:U Env) (s:Ab) (H:Hp) (vs:U V) (Q:VK) (E:XK),AF k (A.deeper (A0 a scope s.heap.objs.size f d))->sp vs H Q E ->
   ∃t,Ez (CK CX P w K mg base N a scope f d A outer s H E) g t/\t {nx:=λ_ H'=>Q .non H',rt:=Q} (FE N vs) H):
  AQ P w K mg base CX (k+1) f (IE name a c g scope R T m X Y d ct) B sp:=by
 refine#[len,λA outer s H args us vs Q E zA p hb r z=>?_]
 have KX:K.In s.heap:=p.mod.kin.keeps λb o e=>(p.bs b o e).1
 have j:∀y∈B.zip us,scope.names.lookup y.1=Z .local\/(scope.names.lookup y.1=Z .cell/\((cellsFrom (s.heap.objs.size+1) scope.names []).lookup y.1).isSome=J'):=λ⟨n,v⟩ hy=>by
  rcases S.par n (Mv hy).1 with q|q
  ·exact .inl q
  ·exact .inr #[q,PySem.W.cellsFrom_some _ _ _ (.inl q)]
 refine codeAny_call_function zA.depth (KX _ _ lk) rfl S.co S.gen rfl (PySem.W.codeRec_of KX G) (hb _ _ _ _ ?_)
 refine wpAny_newFunctionEnv_cells S.kind j λenv he s1 x=>?_
 subst he
 refine#[(p.mod.nolimit.keeps λb o e=>(p.bs b o e).1).keeps x.toInCall.keep,codeAny_func ?_]
 obtain⟨t,ht,hq⟩:=i A outer s H vs Q E (zA.deeper _) z
 refine CU (ht [] s1 (FE N vs) H _ (lH S zA.hd p (len _ _ _ _ z) r x) hq) (λfl L l=>?_) λe L l=>l
 have fin:∀{h:St} {H':Hp} {v:V} {u:Aa},Inv (CK CX P w K mg base N a scope f d A outer s H E) [] h H' L->RelV v u->Q v H'->CE outer P w H s Q u L:=
  λ{h H' v u} F M q=>#[v,H',F.os,F.bare,F.base,F.hok,M,q]
 cases fl with
 |ret u=>
  obtain⟨v,h,H',F,M,q⟩:=l
  exact fin F M q
 |next=>
  obtain⟨h,H',F,q⟩:=l
  exact fin (v:=V.non) (u:=Gb) F rfl q
 |brk=>
  obtain⟨_,_,_,q⟩:=l
  exact BP q
 |cont=>
  obtain⟨_,_,_,q⟩:=l
  exact BP q
section
variable{x:Ae}{p:Az}{e:Expr}{t:TA}{id T:String}{r:U V->Hp->VK->Prop}
def Ow(r:U V->Hp->VK->Prop)(t:TA):TE:=λa H Q=>t a H λb c=>r b c Q
theorem WI(f:Ea X (.builtin id) r)(g:Gl X x)(i:X.mg x=J)(j:DO x=Z (.builtin id))(k:PA X (e::es) t)(l:x≠"__name__":=by ext)(b:Cg x:=by ext)
  (m:AE (e::es) X.env=(O',Ao e X.env)::AE es X.env:=by rfl) (c:(Ay pos (AE es X.env)).any (·.1)=O':=by rfl):PE X (.Call (.Name x p) (e::es) [] pos) (Ow r t):=by
 intro a s d H Q z h
 exact Mu (GS z g i j (PyProof.Rows.callWith_builtin1 (AV (k pos a s d H _ z h) λn o ⟨q,u,v,w,y⟩=>f a o d u q n Q v w y) m c) l b)
theorem WJ(f:Ea X (.type T) r)(g:Gl X x)(i:X.mg x=J)(j:DO x=Z (.type T))(k:PA X (e::es) t)(l:x≠"__name__":=by ext)(b:Cg x:=by ext)
  (m:AE (e::es) X.env=(O',Ao e X.env)::AE es X.env:=by rfl) (c:(Ay pos (AE es X.env)).any (·.1)=O':=by rfl):PE X (.Call (.Name x p) (e::es) [] pos) (Ow r t):=by
 intro a s d H Q z h
 exact Mu (GS z g i j (Mn (AV (k pos a s d H _ z h) λn o ⟨q,u,v,w,y⟩=>f a o d u q n Q v w y) m c) l b)
end
end L2
variable{H H' H0:L2.Hp}{X Y:L2.Cx}{I:L2.St}{vs ys:U L2.V}{us:U (U L2.At×Ac×Aa)}{CX:L2.Dw}{ta tb te:L2.TE}{sp:L2.Sp}{wi:L2.TI}
namespace HT
open PySem PyProof.Rows
theorem rcLt_int(A:Ag)(s:Ab)(a:Int)(t:Tok)(c:Int)(u:Tok)(prog:AI)(w:Ah)(E:AJ)(Q:AJ)(h:Q (.bool (decide (a<c))) s):
  wpAny (Af prog w) A (richCompare .Lt (.int a t) (.int c u)) Q E s:=
 (PyProof.Rows.lt_int h:wpAny (Af prog w) A (C8 .Lt (.int a t) (.int c u)) Q E s)
section
variable{prog:AI}{w:Ah}{A:Ag}{s:Ab}
noncomputable def sIx(n d:Nat):O Int->Nat
 |none=>d
 |some v=>if v<0 then(v+(n:Int)).toNat else min v.toNat n
theorem WK(v:Int)(n d:Nat):(if v<0 then max (v+(n:Int)) 0 else min v (n:Int))=((sIx n d (Z v):Nat):Int):=by
 show(if v<0 then max (v+(n:Int)) 0 else min v (n:Int))=(((if v<0 then(v+(n:Int)).toNat else min v.toNat n):Nat):Int)
 grind
theorem lI(lo a:O Int)(n:Nat):WL lo a 1 (n:Int)=(((sIx n 0 lo:Nat):Int),((sIx n n a:Nat):Int)):=by
 unfold WL
 refine Prod.ext ?_ ?_
 ·cases lo with
  |none=>rfl
  |some v=>exact WK v n 0
 ·cases a with
  |none=>rfl
  |some v=>exact WK v n n
theorem lJ(i j:Nat):Rw (i:Int) (j:Int) 1=j-i:=by
 unfold Rw
 grind
theorem WM{v:Aa}{o:O Int}{Q:O Int->Ab->Prop}(p:IsPart v o)(h:Q o s):wpAny (Af prog w) A (Builtin.Slice.slicePartIndex v) Q E s:=by
 cases p with
 |none=>exact slicePart_none h
 |int i t=>exact slicePart_int h
theorem lK{f:Ac}{d e:Aa}{lo a:O Int}{n:Nat}{Q:Int×Int×Nat->Ab->Prop}(g:s.heap.IsSliceOf f d e .none)(pl:IsPart d lo)(i:IsPart e a)
  (h:Q (((sIx n 0 lo:Nat):Int),1,sIx n n a-sIx n 0 lo) s):wpAny (Af prog w) A (Builtin.Slice.sliceApplied (.ref f) (AC (n:Int))) Q E s:=by
 obtain⟨os,b,j,c⟩:=id g
 refine Al (Al (D2 b c (x:=d) rfl (Al (D2 b c (x:=e) rfl (Al (D2 b c (x:=.none) rfl (AO ?_)))))))
 refine Al (slicePart_none ?_)
 refine Al (WM pl (Al (WM i (Al (AO ?_)))))
 show wpAny _ _ (match WL lo a 1 (n:Int)with|(lo,a)=>AC (lo,(1:Int),Rw lo a 1)) _ _ s
 rw[lI lo a n]
 show wpAny _ _ (AC (((sIx n 0 lo:Nat):Int),(1:Int),Rw ((sIx n 0 lo:Nat):Int) ((sIx n n a:Nat):Int) 1)) _ _ s
 rw[lJ]
 exact AO h
theorem lL(xs:Array Aa)(i k:Nat):((Bf k).filterMap λ(m:Nat)=>xs[((i:Int)+(m:Int)*1).toNat]?).toArray=((xs.toList.drop i).take k).toArray:=by
 have e:(λ(m:Nat)=>xs[((i:Int)+(m:Int)*1).toNat]?)=λm=>xs[i+m]?:=by
  grind
 have:=pick_run xs i k
 have a:((λx=>xs[x]?)∘λx=>i+x)=λm=>xs[i+m]?:=rfl
 simp_all
theorem getItem_tuple_cut{t g:Ac}{i j:Aa}{lo a:O Int}{Q:AJ}(b:IsTup s.heap t items)(k:s.heap.IsSliceOf g i j .none)(pl:IsPart i lo)(o:IsPart j a)
  (p:sIx items.size 0 lo=0/\sIx items.size items.size a=items.size->Q (.ref t) s)
  (h:¬ (sIx items.size 0 lo=0/\sIx items.size items.size a=items.size)->Q (.ref s.heap.objs.size) {s with heap:=s.heap.push {cls:=.type "tuple",data:=.seq ((items.toList.drop (sIx items.size 0 lo)).take (sIx items.size items.size a-sIx items.size 0 lo)).toArray} })
  (hsz:items.size<=AA):wpAny (Af prog w) A (getItem (.ref t) (.ref g)) Q E s:=by
 obtain⟨os,d,e,q⟩:=id k
 unfold getItem
 try with_reducible refine FC ?_
 refine Al (wpAny_sequenceKey b.typeIs (by ext) ?_)
 refine Al (K9 (name:=IF "__getitem__") b.typeIs PyProof.Rows.slot_tuple_getitem
  (JY PyProof.Rows.slot_tuple_getitem b.typeIs entry_tuple_getitem ?_ (args_tuple_getitem _ _)))
 show wpAny _ _ (Builtin.Tuple.tupleItemsOf (.ref t) >>= _) _ _ s
 refine Al (tupleItemsOf_ b ?_)
 refine Al (La #[os,d,e] ?_)
 refine Al (lK k pl o ?_)
 show wpAny _ _ (if(((sIx items.size 0 lo:Nat):Int)==0&&(1:Int)==1&&(sIx items.size items.size a-sIx items.size 0 lo)==items.size)=J' then _ else _) _ _ s
 by_cases n:sIx items.size 0 lo=0/\sIx items.size items.size a=items.size
 ·have c:((((sIx items.size 0 lo:Nat):Int)==0&&(1:Int)==1&&(sIx items.size items.size a-sIx items.size 0 lo)==items.size)=J'):=by
   simp_all
  rw[if_pos c]
  exact Al (Al (La b.typeIs (AO (Al (IG (AO #[_,rfl,AO (p n)]))))))
 ·have f:¬ ((((sIx items.size 0 lo:Nat):Int)==0&&(1:Int)==1&&(sIx items.size items.size a-sIx items.size 0 lo)==items.size)=J'):=by
   simp_all
  rw[if_neg f,lL]
  exact Al (m:=Builtin.Tuple.tupleExact _) (IH (AO #[_,rfl,AO (h n)]) (BJ ((List.take_sublist _ _).trans (List.drop_sublist _ _)).length_le hsz))
end
end HT
namespace L2
open PySem PySem.Spec PyProof.Rows
abbrev TO:=St->Hp->(O Int->Hp->Prop)->Prop
def PO(X:Cx)(e:O Expr)(t:TO):Prop:=
 ∀(a:AS) (s:Ab) (b:St) (H:Hp) (Q:O Int->Hp->Prop),Inv X a b H s->t b H Q ->
  wpAny (Af X.prog X.w) X.A (evalPart e X.env) (λu d=>∃o c,Inv X a b c d/\IsPart u o/\Q o c) X.xe s
def lM:TO:=λ_ H Q=>Q J H
def lN(t:TE):TO:=λa H Q=>t a H λx b=>∃i,x=.int i/\Q (Z i) b
theorem Ox{ns:U Int}:∀{us:U Aa},An (ns.map V.int) us->IntsAre us ns:=by
 induction ns with
 |nil=>intro us r;rw[Db]at r;cases r;exact .nil
 |cons n ns a=>
  intro us r
  cases r with
  |cons b c=>
   obtain⟨t,rfl⟩:=b
   exact .cons n t (a c)
section
variable{e:Expr}{lo hi:O Expr}{tl th:TO}
theorem lO:PO X J lM:=by
 intro a s b H Q c h
 exact AO #[J,H,c,.none,h]
theorem lP(h:PE X e te):PO X (Z e) (lN te):=by
 intro a s b H Q l c
 refine AV (h a s b H _ l c) λu k d=>?_
 obtain⟨x,f,g,j,i,rfl,q⟩:=d
 obtain⟨t,rfl⟩:=j
 exact#[Z i,f,g,.int i t,q]
def II(X:Cx)(r:V->O Int->O Int->Hp->VK->Prop):Prop:=
 ∀(a:AS) (s:Ab) (b:St) (H:Hp) (x:V) (v c d:Aa) (lo hi:O Int) (e:Ac) (Q:VK),Inv X a b H s->RelV x v->s.heap.IsSliceOf e c d .none->IsPart c lo->IsPart d hi->r x lo hi H Q ->
  ∃T id,typeLookup (.type T) "__getitem__"=AC (Z (.builtin id))/\s.TypeIs v T/\wpAny (Af X.prog X.w) X.A (getItem v (.ref e)) (EP X a b Q) X.xe s
theorem II.or{r b:V->O Int->O Int->Hp->VK->Prop}(h:II X r)(h':II X b):II X (λx lo hi H Q=>r x lo hi H Q\/b x lo hi H Q):=by
 intro a s c H x v d e lo hi f Q l g i j k q
 rcases q with q|q
 ·exact h a s c H x v d e lo hi f Q l g i j k q
 ·exact h' a s c H x v d e lo hi f Q l g i j k q
def lQ(r:V->O Int->O Int->Hp->VK->Prop)(te:TE)(tl th:TO):TE:=λa H Q=>te a H λx b=>tl a b λl c=>th a c λu d=>r x l u d Q
theorem lR{r:V->O Int->O Int->Hp->VK->Prop}(j:II X r)(k:PE X e te)(m:PO X lo tl)(n:PO X hi th):PE X (.Subscript e (.Slice lo hi J p2) pos) (lQ r te tl th):=by
 intro a s d H Q P h
 refine Subscript_ (AV (k a s d H _ P h) λv o f=>?_)
 obtain⟨x,p,t,w,y⟩:=f
 refine wpAny_Slice (AV (m a o d p _ t y) λg z ⟨l,A,B,C,E⟩=>AV (n a z d A _ B E) λi c f=>?_)
 obtain⟨u,G,F,L,q3⟩:=f
 refine AO ?_
 obtain⟨T,id,M,N,K⟩:=j a {c with heap:=c.heap.push {cls:=.type "slice",data:=.fields (T' [g,i,.none])} } d G x v g i l u c.heap.objs.size Q (F.kept (t':=c.toks) λb ob q=>Bp _ q) w (Heap.IsSliceOf.new ..) C L q3
 exact tail_any (ops:=[.ref c.heap.objs.size,v]) N M K (by with_unfolding_all rfl)
def HB(xs:U V)(lo hi:O Int):U V:=(xs.drop (HT.sIx xs.length 0 lo)).take (HT.sIx xs.length xs.length hi-HT.sIx xs.length 0 lo)
theorem WN(xs:U V)(lo hi:O Int):(HB xs lo hi).length<=xs.length:=((List.take_sublist _ _).trans (List.drop_sublist _ _)).length_le
end
noncomputable def DG(n:Nat)(i:Int):O Nat:=if 0<=i then(if i<n then Z i.toNat else J)else if -(n:Int)<=i then Z (i+n).toNat else J
def atI{a:Type}(xs:U a)(i:Int):O a:=(DG xs.length i).bind λj=>xs[j]?
theorem WP{n:Nat}{i:Int}(h:DG n i=Z j):seqIndex? i n=Z j/\j<n /\ -(n:Int)<=i/\i<n:=by
 unfold DG at h
 by_cases b:0<=i
 ·rw[if_pos b]at h
  by_cases a:i<n
  ·rw[if_pos a]at h
   exact#[by rw[seqIndex_of b a,Gf h],by lia,by lia,a]
  ·rw[if_neg a]at h;cases h
 ·rw[if_neg b]at h
  by_cases a : -(n:Int)<=i
  ·rw[if_pos a]at h
   exact#[by rw[seqIndex_neg (Oy b) a,Gf h],by lia,a,by lia]
  ·rw[if_neg a]at h;cases h
theorem Rx{a:Type}{xs:U a}{i:Int}{v:a}(h:atI xs i=Z v):∃j,seqIndex? i xs.length=Z j/\xs[j]?=Z v/\j<xs.length /\ -(xs.length:Int)<=i/\i<xs.length:=by
 unfold atI at h
 cases e:DG xs.length i with
 |none=>rw[e]at h;cases h
 |some j=>
  rw[e]at h
  obtain⟨b,c,d,f⟩:=WP e
  exact#[j,b,h,c,d,f]
theorem Z3{a:Type}{xs:U a}{v:a}(h:xs[j]?=Z v):atI xs (j:Int)=Z v:=by
 have b:j<xs.length:=(Cm.mp h).1
 have e:DG xs.length (j:Int)=Z j:=by
  unfold DG
  rw[if_pos (by lia),if_pos (by lia)];simp
 unfold atI;rw[e];exact h
theorem WQ{a:Type}(xs:U a)(v:a):atI (xs++[v]) (-1)=Z v:=by
 have b:(xs++[v]).length=xs.length+1:=by simp
 have e:DG (xs++[v]).length (-1)=Z xs.length:=by
  unfold DG
  grind
 unfold atI
 simp_all
def Lb(b:Expr):Prop:=∀o i,subscripted b O' o i=operate [o,i] (getItem o i)
def Gq(X:Cx)(r:R2):Prop:=
 ∀(b slice:Expr) (a:AS) (s:Ab) (c:St) (H:Hp) (x y:V) (v u:Aa) (Q:VK),Inv X a c H s->RelV x v->RelV y u->r x y H Q ->
  subscripted slice O' v u=operate [v,u] (getItem v u)->wpAny (Af X.prog X.w) X.A (subscriptTail b slice v u) (EP X a c Q) X.xe s
def Mx(X:Cx)(id:String)(r:V->U V->Hp->VK->Prop):Prop:=
 ∀(a:AS) (s:Ab) (b:St) (H:Hp) (x:V) (c:U V) (v:Aa) (d:U Aa) (Q:VK),Inv X a b H s->RelV x v->An c d->r x c H Q ->
  wpAny (Af X.prog X.w) X.A (call (.builtin id) (v::d)) (EP X a b Q) X.xe s
section
variable{a b:Expr}
theorem Gq.or{r c:R2}(h:Gq X r)(h':Gq X c):Gq X (λx y H Q=>r x y H Q\/c x y H Q):=by
 intro a slice b s d H x y v u Q i e f q g
 rcases q with q|q
 ·exact h a slice b s d H x y v u Q i e f q g
 ·exact h' a slice b s d H x y v u Q i e f q g
theorem WR{r:R2}(d:Gq X r)(e:PE X a ta)(f:PE X b tb)(g:Lb b):PE X (.Subscript a b pos) (JR r ta tb):=by
 intro c s i H Q o h
 exact Subscript_ (Rl e f o h λv u j x y k l m n q=>d a b c j i k x y v u Q l m n q (g _ _))
def WS(K:Am):R2:=λx y H Q=>∃p a i v,x=.ref p/\y=.int i/\BF K H p a/\atI a i=Z v/\Q v H
def WT(K:Am):R2:=λx y H Q=>∃p a i v,x=.ref p/\y=.int i/\B1 K H p a/\atI a i=Z v/\Q v H
def WU:R2:=λx y H Q=>∃z i c,x=.str z/\y=.int i/\z.length<=AA/\atI z.cps.toList i=Z c/\Q (.str #[(T' [c])]) H
theorem HC:Gq X (WS X.K):=by
 rintro e slice a s m H x y v u Q R n o ⟨p,M,i,z,rfl,rfl,A,B,q⟩ k
 cases n
 obtain⟨t,rfl⟩:=o
 obtain⟨f,r,g,N⟩:=R.list A
 obtain⟨j,c,C,P,E,G⟩:=Rx B
 obtain⟨w,l,b⟩:=r.get C
 have F:=r.length
 have T:=Mq
 by_cases d:0<=i
 ·have h:i.toNat=j:=by
   rw[seqIndex_of d G]at c
   exact Gf c
  exact item_listR g.isList d (by lia) (by rw[h];simpa using l) #[z,H,R,b,q] k
 ·have h:(i+(f.toArray.size:Int)).toNat=j:=by
   rw[seqIndex_neg (Oy d) E]at c
   rw[BR,<- F]
   exact Gf c
  exact subscriptTail_builtinR (x:=w) g.isList.typeIs slot_list_getitem.lookup
   (wpAny_getItem_list_neg (Q:=λr L=>r=w/\EP X a m Q r L) g.isList (Oy d) (by rw[BR]<;>lia) (by lia) (by rw[h];simpa using l) #[rfl,#[z,H,R,b,q]]) k
theorem JZ:Gq X (WT X.K):=by
 rintro b slice a s e H x y v u Q N f g ⟨p,C,i,z,rfl,rfl,h,k,q⟩ l
 cases f
 obtain⟨t,rfl⟩:=g
 obtain⟨m,r,d,E⟩:=N.tuple h
 obtain⟨j,n,o,G,F,L⟩:=Rx k
 obtain⟨w,A,c⟩:=r.get o
 have M:=Mq
 exact subscriptTail_builtinR (x:=w) d.typeIs slot_tuple_getitem.lookup
  (getItem_tuple (j:=j) (Q:=λr B=>r=w/\EP X a e Q r B) d (by lia) (by lia) (by rw[BR,<- r.length];exact n) (by simpa using A) #[rfl,#[z,H,N,c,q]]) l
theorem lS:Gq X WU:=by
 rintro a slice b s n H x y v u Q A e f ⟨z,i,c,rfl,rfl,o,g,q⟩ h
 obtain⟨t,rfl⟩:=e
 obtain⟨p,rfl⟩:=f
 obtain⟨j,d,k,r,l,m⟩:=Rx g
 rw[show z.cps.toList.length=z.length by simp[Str.length]]at d l m
 have w:=Mq
 exact tail_any (typeIs_str s z t) slot_str_getitem.lookup (getItem_str (c:=c) (by
  grind) (by rw[d];simpa using k) #[.str #[(T' [c])],H,A.tok _,#[_,rfl],q]) h
def WV(K:Am):R2:=λx y H Q=>WS K x y H Q\/WT K x y H Q\/WU x y H Q
theorem WW:Gq X (WV X.K):=HC.or (JZ.or lS)
theorem lT(a:U Aa)(n j:Nat)(u:Aa):Fe (·.setIfInBounds j u) {cls:=.type "list",data:=.seq a.toArray n}={cls:=.type "list",data:=.seq (a.set j u).toArray n}:=by
 simp[Fe]
theorem Inv.lst{b:AS}{s:Ab}{p:Ac}{xs:U V}(c:Inv X b I H s)(h:H p=Z (.lst xs)):
  ∃(a:U Aa) (n:Nat),An xs a/\s.heap.get? p=Z {cls:=.type "list",data:=.seq a.toArray n}/\xs.length<=AA:=by
 obtain⟨z,a,n,r,e⟩:=c.hok p _ h
 exact#[a,n,r,e,z]
theorem Inv.lstUpd{a:AS}{s:Ab}{p:Ac}{xs:U V}{c its':U Aa}{n d:Nat}{f:Obj->Obj}(k:Inv X a I H s)(h:H p=Z (.lst xs))
  (i:s.heap.get? p=Z {cls:=.type "list",data:=.seq c.toArray n}) (g:f {cls:=.type "list",data:=.seq c.toArray n}={cls:=.type "list",data:=.seq its'.toArray d}) (r:An ys its') (hz:ys.length<=AA) (t:Nat):
  Inv X a I (AN H p (.lst ys)) {s with heap:=s.heap.update p f,toks:=t}:=by
 have e:(s.heap.update p f).get? p=Z {cls:=.type "list",data:=.seq its'.toArray d}:=by
  rw[My f i (by rw[g]<;>rfl),g]
 refine k.write (x:=p) (e:=p) (by rw[h];trivial) (.inl rfl) (λb u j q=>(Lc _ _ (B0 j)).trans q) #[_,e] ?_
 exact#[hz,its',d,r,e]
def lU:V->V->V->Hp->(Hp->Prop)->Prop:=λo i v H Q=>∃p a k j,o=.ref p/\i=.int k/\H p=Z (.lst a)/\DG a.length k=Z j/\Q (AN H p (.lst (a.set j v)))
theorem lV:Rg X lU:=by
 rintro a s w H o i v E G u Q K x y z ⟨p,A,k,j,rfl,rfl,g,B,q⟩
 cases x
 obtain⟨t,rfl⟩:=y
 obtain⟨b,n,r,e,C⟩:=K.lst g
 obtain⟨c,F,h,l⟩:=WP B
 have L:=Mq
 have m:Inv X a w (AN H p (.lst (A.set j v))) {s with heap:=s.heap.update p (Fe (·.setIfInBounds j u))}:=
  K.lstUpd g e (lT b n j u) (r.set z j) (by rw[List.length_set];exact C) s.toks
 by_cases d:0<=k
 ·have f:k.toNat=j:=by
   rw[seqIndex_of d l]at c
   exact Gf c
  exact PySem.W.ki_setAt e d (by lia) (by rw[BR,<- r.length];exact l) (f ▸ #[_,m,q])
 ·have f:(k+(b.toArray.size:Int)).toNat=j:=by
   rw[seqIndex_neg (Oy d) h]at c
   rw[BR,<- r.length]
   exact Gf c
  exact PySem.W.ki_setBack e (Oy d) (by rw[BR,<- r.length];exact h) (by lia) (f ▸ #[_,m,q])
theorem lW(lo a:O Int)(n:Nat):(BH lo a J n).1=((HT.sIx n 0 lo:Nat):Int)/\(BH lo a J n).2.1=((HT.sIx n n a:Nat):Int)/\(BH lo a J n).2.2=1:=by
 refine#[?_,?_,rfl]
 ·cases lo with
  |none=>simp[BH,HT.sIx]
  |some i=>
   erw[BH,HT.sIx,Option.getD_none,show(1:Int)>0 by ext,if_true]
   grind
 ·cases a with
  |none=>simp[BH,HT.sIx]
  |some i=>
   erw[BH,HT.sIx,Option.getD_none,show(1:Int)>0 by ext,if_true]
   grind
theorem lX(a:U Aa)(lo b:O Int):slicePick a.toArray lo b J=((a.drop (HT.sIx a.length 0 lo)).take (HT.sIx a.length a.length b-HT.sIx a.length 0 lo)).toArray:=by
 obtain⟨c,d,e⟩:=lW lo b a.toArray.size
 unfold slicePick
 rw[c,d,e]
 erw[sliceRange_one,pick_run,BR]<;>rfl
def lY(K:Am):V->O Int->O Int->Hp->VK->Prop:=λx lo c H Q=>∃a b,x=.ref a/\BF K H a b/\∀p,H p=J->Q (.ref p) (AN H p (.lst (HB b lo c)))
theorem HD:II X (lY X.K):=by
 rintro f s p H x v t u lo e w Q y h i j k ⟨a,c,rfl,l,q⟩
 cases h
 obtain⟨m,r,g,n⟩:=y.list l
 have d:=r.length
 refine#["list",_,slot_list_getitem.lookup,g.isList.typeIs,?_]
 refine wpAny_getItem_list_slice g.isList i j k .none (by simp) ?_ (by rw[BR]<;>lia)
 rw[lX,<- d]
 refine#[.ref s.heap.objs.size,_,y.laid (t':=s.toks) (o:=.lst (HB c lo e)) (λb ob q=>Bp _ q) (A5 _) ?_,rfl,q _ (y.hok.fresh (A5 _))]
 exact#[BJ (WN c lo e) n,_,0,(r.drop (HT.sIx c.length 0 lo)).take (HT.sIx c.length c.length e-HT.sIx c.length 0 lo),B4 _ rfl]
def WX:V->Bool
 |.non=>J'
 |.bl _=>J'
 |.int _=>J'
 |.str _=>J'
 |_=>O'
noncomputable def lZ:V->V->Bool
 |.non,.non=>J'
 |.bl a,.bl b=>a==b
 |.bl a,.int b=>(if a then 1 else 0)==b
 |.int a,.bl b=>a==(if b then 1 else 0)
 |.int a,.int b=>a==b
 |.str a,.str b=>a==b
 |_,_=>O'
theorem l0:Ea X (.type "list") (λxs H Q=>∃p ys,xs=[.ref p]/\(BF X.K H p ys\/B1 X.K H p ys)/\∀l,H l=J->Q (.ref l) (AN H l (.lst ys))):=by
 rintro g s v H xs z Q A r ⟨p,ys,rfl,h,q⟩
 obtain⟨u,rfl,x⟩:=EW r
 cases x
 have fin:∀(a:U Aa),An ys a->ys.length<=AA->∀(c:Ak) (d:Nat),(∀b t,s.heap.get? b=Z t->c.get? b=Z t) ->
   c.get? s.heap.objs.size=Z {cls:=.type "list",dict:=J,data:=.seq a.toArray d,slots:=(T' [])}->EP X g v Q (.ref s.heap.objs.size) {s with heap:=c}:=λa f i c d kp e=>
  #[.ref s.heap.objs.size,_,A.laid (t':=s.toks) kp (A5 _) (show AY X.prog X.w _ c _ (.lst ys)from#[i,a,d,f,e]),rfl,q _ (A.hok.fresh (A5 _))]
 rcases h with h|h
 ·obtain⟨a,f,y,i⟩:=A.list h
  have j:=f.length
  obtain⟨o,k,m,n,hd⟩:=y.isList
  exact call_list_seq p (.inl rfl) k m hd (λc d kp e=>fin a f i c d kp e) (by erw[BR]<;>lia)
 ·obtain⟨a,f,⟨o,k,m,n,hd⟩,i⟩:=A.tuple h
  have j:=f.length
  exact call_list_seq p (.inr rfl) k m hd (λc d kp e=>fin a f i c d kp e) (by erw[BR]<;>lia)
theorem l3:Ea X (.type "tuple") (λxs H Q=>∃p ys,xs=[.ref p]/\((BF X.K H p ys/\∀l,H l=J->Q (.ref l) (AN H l (.tup ys)))\/(B1 X.K H p ys/\Q (.ref p) H))):=by
 intro g s t H xs v Q k r h
 obtain⟨p,ys,rfl,h⟩:=h
 obtain⟨u,rfl,m⟩:=EW r
 cases m
 rcases h with⟨c,q⟩|⟨c,q⟩
 ·obtain⟨a,d,f,i⟩:=k.list c
  have j:=d.length
  exact call_tuple_list f.isList (λn kp=>#[.ref n.objs.size,_,((k.kept (t':=s.toks) kp).laid (t':=s.toks) (λb o e=>Bp _ e) (A5 _) (show AY X.prog X.w _ _ _ (.tup ys)from#[i,a,d,IsTup.new _ _])),rfl,q _ ((k.kept (t':=s.toks) kp).hok.fresh (A5 _))]) (by erw[BR]<;>lia)
 ·obtain⟨a,d,f,i⟩:=k.tuple c
  exact call_tuple_same f #[.ref p,H,k,rfl,q]
def WY(K:Am)(T:String)(x:V)(H:Hp):Prop:=match x with
 |.str _=>T="str"
 |.int _=>T="int"
 |.ref p=>(T="list"/\∃a,BF K H p a)\/(T="tuple"/\∃o,K.lookup p=Z o/\o.cls=.type "tuple"/\o.dict=J) \/
   (T="dict"/\(∃b c,Rd H p (.dct b c)))
 |_=>False
theorem l5{b:AS}{s:Ab}{T:String}{x:V}{v:Aa}(m:Inv X b I H s)(r:RelV x v)(ty:WY X.K T x H):
  s.TypeIs v T/\∀a,v=.ref a->∃ob,s.heap.get? a=Z ob/\ob.dict=J:=by
 cases x with
 |str z=>
  obtain⟨t,rfl⟩:=r
  cases(show T="str" from ty)
  exact#[typeIs_str s z t,λ_ e=>nomatch e]
 |int i=>
  obtain⟨t,rfl⟩:=r
  cases(show T="int" from ty)
  exact#[typeIs_int s i t,λ_ e=>nomatch e]
 |ref p=>
  cases r
  rcases ty with⟨rfl,l,g⟩|⟨rfl,o,d,h,hd⟩|⟨rfl,_,_,d⟩
  ·obtain⟨j,_,f,_⟩:=m.list g
   refine#[f.isList.typeIs,λa e=>?_]
   cases e
   obtain⟨o,n,e,c,hd,_⟩:=f
   exact#[o,e,hd]
  ·refine#[#[o,m.kIn p o d,h],λa e=>?_]
   cases e
   exact#[o,m.kIn _ o d,hd]
  ·obtain⟨_,_,_,o,_,_,e,ex,_⟩:=d.ok m.hok
   refine#[#[o,e,ex.1],λa k=>?_]
   cases k
   exact#[o,e,ex.2.1]
 |_=>exact BP ty
def l6(K:Am)(T:String)(r:V->U V->Hp->VK->Prop)(to:TE)(t:TA):TE:=λa H Q=>to a H λx b=>WY K T x b/\t a b λc d=>r x c d Q
variable{o e:Expr}{to:TE}{t:TA}{name:Ae}{T id:String}{r:V->U V->Hp->VK->Prop}
theorem J0(m:PlainAttrs T)(slot:Slot T name id)(g:typeOf (.builtin id)=AC (.type "method_descriptor"))(n:Mx X id r)(p:PE X o to)(q:PA X (e::es) t)
  (c:Gk o name X.env (Ao o X.env)=Ao o X.env:=by rfl)
  (f:((Ay cpos (AE (e::es) X.env)).all (λx=>!x.1)&&(Gm cpos (Gn [] X.env)).all (λx=>x.1.isSome)
   && decide ((e::es).length+([]:U Et).length+(if([]:U Et).isEmpty then 0 else 1)<30))=J':=by rfl)
  (d:(apos.endLine==cpos.line)=J':=by rfl) (u:AE (e::es) X.env=(O',Ao e X.env)::AE es X.env:=by rfl) (b:(Ay cpos (AE es X.env)).any (·.1)=O':=by rfl):
  PE X (.Call (.Attribute o name apos) (e::es) [] cpos) (l6 X.K T r to t):=by
 intro a s i H Q R h
 refine wpAny_Call_method_late c f d rfl (AV (p a s i H _ R h) λv w y=>?_)
 obtain⟨x,z,j,k,ty,A⟩:=y
 obtain⟨B,C⟩:=l5 j k ty
 refine#[T,id,m,slot,g,B,C,?_]
 have l:=q cpos a w i z _ j A
 rw[u]at l ⊢
 exact Calls.callWith_builtin (by show(O'||(Ay cpos (AE es X.env)).any (·.1))=O';rw[b]<;>rfl) (Calls.evalArgs_plain (AV l λE G ⟨F,L,M,N,P⟩=>n a G i L x F v E Q M k N P))
end
def Ry(X:Cx)(id:String)(r:V->U V->Hp->VK->Prop):Prop:=
 ∀(a:AS) (s:Ab) (b:St) (H:Hp) (x:V) (c:U V) (v:Aa) (d:U Aa) (Q:VK),Inv X a b H s->RelV x v->An c d->r x c H Q ->
  wpAny (Af X.prog X.w) X.A (call (.builtin id) (v::d)) (EP X a b Q) X.xe s
theorem An.one{x:V}{us:U Aa}(h:An [x] us):∃u,us=[u]/\RelV x u:=by
 cases h with
 |cons r t=>cases t;exact#[_,rfl,r]
theorem An.two{x y:V}{us:U Aa}(h:An [x,y] us):∃u v,us=[u,v]/\RelV x u/\RelV y v:=by
 cases h with
 |cons r t=>
  cases t with
  |cons q t=>cases t;exact#[_,_,rfl,r,q]
theorem An.eraseIdx:∀{xs:U V}{us:U Aa}(i:Nat),An xs us->An (xs.eraseIdx i) (us.eraseIdx i)
 |_,_,_,.nil=>.nil
 |_,_,0,.cons _ t=>t
 |_,_,i+1,.cons r t=>.cons r (An.eraseIdx i t)
theorem WZ{a:Type}:∀(l:U a)(i:Nat),(l.eraseIdx i).length<=l.length
 |[],_=>A5 _
 |_::_,0=>Nat.le_succ _
 |_::r,i+1=>Oz (WZ r i)
section
variable{s:Ab}{l b:Ac}{xs:U V}
theorem Inv.lset{a its':U Aa}{n:Nat}{f:Array Aa->Array Aa}(j:Inv X pins I H s)(b:H l=Z (.lst xs))
  (e:s.heap.get? l=Z {cls:=.type "list",data:=.seq a.toArray n}) (c:f a.toArray=its'.toArray) (d:An ys its') (hz:ys.length<=AA):
  Inv X pins I (AN H l (.lst ys)) {s with heap:=s.heap.update l (Fe f),toks:=t' }:=by
 have q:=PySem.IsL.update e f
 rw[c]at q
 refine j.write (x:=l) (e:=l) (b ▸ trivial) (.inl rfl) (λi u g h=>(Lc s.heap (Fe f) (B0 g)).trans h) #[_,q] ?_
 exact#[hz,its',_,d,q]
theorem Inv.lnew{a:U Aa}(c:Inv X pins I H s)(b:An ys a)(hz:ys.length<=AA):
  Inv X pins I (AN H s.heap.objs.size (.lst ys)) {s with heap:=s.heap.push {cls:=.type "list",data:=.seq a.toArray},toks:=t' }:=
 c.laid (λ_ _ q=>Bp _ q) (A5 _) #[hz,a,0,b,B4 _ rfl]
theorem Inv.fresh(a:Inv X pins I H s):H s.heap.objs.size=J:=a.hok.fresh (A5 _)
theorem Inv.lstM(c:Inv X pins I H s)(b:H l=Z (.lst xs)):xs.length<=AA/\∃(a:U Aa)(n:Nat),An xs a/\xs.length=a.length/\s.heap.get? l=Z {cls:=.type "list",data:=.seq a.toArray n}:=by
 obtain⟨z,a,n,r,e⟩:=c.hok l _ b
 exact#[z,a,n,r,r.length,e]
theorem l7{n:Nat}(h:n<=AA):Builtin.List.listTooLong n=O':=by
 exact decide_eq_false (Nat.not_lt.mpr h)
end
section
def l8:V->U V->Hp->VK->Prop:=λx b H Q=>∃l a y,x=.ref l/\b=[y]/\H l=Z (.lst a)/\a.length<AA/\Q .non (AN H l (.lst (a++[y])))
theorem W0:Ry X "list.append" l8:=by
 rintro b s i H x j v k Q d f g ⟨l,m,y,rfl,rfl,c,o,q⟩
 cases f
 obtain⟨u,rfl,h⟩:=g.one
 obtain⟨z,a,n,r,p,e⟩:=d.lstM c
 refine call_meets F.slot_list_append #[_,e,rfl] F.entry_list_append (F.args_list_append_2 _ _) (PySem.list_append l a.toArray n u (by rw[BR];lia)) #[e,?_]
 refine#[.non,_,d.lset (its':=a++[u]) c e (by simp) (r.append (.cons h .nil)) ?_,rfl,q]
 rw[FG,Rz]
 lia
def l9:V->U V->Hp->VK->Prop:=λx d H Q=>∃l b a c,x=.ref l/\d=[.ref b]/\H l=Z (.lst a)/\H b=Z (.lst c)/\a.length+c.length<=AA/\Q .non (AN H l (.lst (a++c)))
theorem ma:Ry X "list.extend" l9:=by
 rintro g s A H x B v C Q K j k ⟨l,b,E,G,rfl,rfl,h,m,o,q⟩
 cases j
 obtain⟨u,rfl,p⟩:=k.one
 cases p
 obtain⟨z,c,n,r,i,e⟩:=K.lstM h
 obtain⟨L,a,n2,t,w,y⟩:=K.lstM m
 have d:c.toArray.size+a.toArray.size<=AA:=by rw[BR,BR];lia
 have f:¬ (!c.toArray.isEmpty&&Builtin.List.listTooLong (c.toArray.size+a.toArray.size))=J':=by
  rw[l7 d,Bool.and_false]
  exact Me
 refine call_meets F.slot_list_extend #[_,e,rfl] F.entry_list_extend (F.args_list_extend_2 _ _)
  (AutoSeq1.list_extend_list_list_0 l c.toArray n b a.toArray n2 f (BR ▸ RC d) (J1 d)) #[e,y,?_]
 refine#[.non,_,K.lset (its':=c++a) h e (by simp) (r.append t) ?_,rfl,q]
 rw[FG]
 exact W.kdl_size o
end
section
set_option maxRecDepth 100000 in
end
end L2
namespace Att
open PySem PySem.W PySem.Calls PyProof.Rows
theorem mf{P:Params}{h:Ak}:∀(ns:U Int)(vs:U Aa),WellAll P h vs (ns.map WData.int)->IntsAre vs ns:=by
 intro ns
 induction ns with
 |nil=>
  intro vs w
  cases w
  exact .nil
 |cons n ns c=>
  intro vs w
  cases w with
  |cons a b=>
   cases a
   exact .cons _ _ (c _ b)
theorem mj{l:OpenLaw}{n:Nat}(s:l.most=Z n){P:Params}{h:Ak}{args:U WData}{Zg:U Aa}
  (b:l.row.toRowW.claim.pre args=J') (f:WellAll P h Zg args):
  ∃a vs ns,Zg=[Ci a]/\args=[WData.list (ns.map WData.int)]/\h.get? a=Z {cls:=.type "list",data:=.seq vs.toArray}/\IntsAre vs ns/\ns.length<=n:=by
 have i:l.pre.holds [] {args:=args}=J':=(pre_splitW b).2
 obtain⟨d,r,rfl,j,k⟩:=hasAllW_cons ((pre_splitW b).1)
 obtain rfl:=hasAllW_nil k
 obtain⟨t,rfl,m⟩:=hasW_list j
 obtain⟨ns,rfl⟩:=items_int m
 have c:ns.length<=n:=by
  have g:(WTm.not (.lt (.lit (.int n)) (.len (.arg 0)))).holds [] {args:=[.list (ns.map .int)]}=J':=by
   have g:=(holds_andW i).1
   grind
  have u:=condW_of g (w_not (w_lt w_lit (w_len_list (w_arg rfl))))
  simp_all
 cases f with
 |cons o p=>
  cases p
  cases o with
  |list q e=>exact#[_,_,ns,rfl,rfl,q,mf ns _ e,c]
theorem mk(l:OpenLaw)(args:U WData):l.row.toRowW.claim.post args (.bool J') args=J':=
 postW_of (r:=l.row.toRowW) (X:=(J'==J'))
  (show WShape.has [] (.bool J') .bool=J' by rfl)
  (show(WTm.eq .res (.lit (.bool J'))).value [] {args:=args,res:=Z (.bool J'),after:=args}=Z (.bool (J'==J'))from w_eq_bool (w_res rfl) w_lit) rfl
theorem attach_call{l:OpenLaw}{n:Nat}{q:AI}{c:U Ae}{y:(Bl)->Ak->Prop}{z:Ah->Ak->Prop}{d:DefRec}
  (C:l.most=Z n) (p:d.params.defaults=[])
  (call:∀(w:Ah) (s₀ b:Ab) (mg s:Bl) (h:Ac) (o:Obj) (t m e:Aa) (a:Ac) (vs:U Aa) (ns:U Int),
   Ground q c [] y w s₀ mg s b.heap->z w b.heap ->
   b.heap.get? h=Z o->o.data=.func (docDef d.name d.params d.body d.scope t m e)->b.heap.CodeRec m d.name->mg d.name=Z (.ref h) ->
   b.heap.get? a=Z {cls:=.type "list",data:=.seq vs.toArray}->IntsAre vs ns->ns.length<=n->b.gens=(T' []) ->
   codeAny (Af l.prog w) callerA (.call (.ref h) #[[.ref a],[]]) (λr s'=>r=.ok (.ret (.bool J'))/\OldK b.heap s'.heap/\s'.os=b.os/\AllBare s'.gens) b):
  WalkO q c y z l.row.toRowW d [] (λf vs=>PySem.call f vs):=by
 intro w s₀ b mg s G Y h o t m e E H R hd u A v F args Zg as i B L x M
 obtain rfl:E=.none:=Dflts.none A p
 obtain rfl:H=.none:=Dflts.noKw A
 obtain⟨a,vs,ns,rfl,rfl,j,g,k⟩:=mj C i x
 refine enter_call (K6 (call w s₀ b mg s h o t m e a vs ns G Y R (fd_plain hd) u v j g k F) λr s' N=>?_)
 obtain⟨rfl,K,Q,T⟩:=N
 exact#[.inl #[.bool J',.bool J',[],rfl,λ_=>rfl,.bool J',mk l _,λ_=>#[List.Pairwise.nil,λ_ P=>(nomatch P)]],K,Q,T]
end Att
namespace L2
open PySem PySem.Spec PyProof.Rows
theorem W3{vs:U Aa}{ns:U Int}(h:IntsAre vs ns):An (ns.map V.int) vs:=by
 induction h with
 |nil=>exact .nil
 |cons n t _ a=>exact .cons #[t,rfl] a
def RD(H:Hp):Prop:=∀b,H b=J\/∃o a,H b=Z (.frz o (.lst a))
theorem ml{P:AI}{w:Ah}{K:Am}{mg B:Bl}{k:Nat}{fd:B6}{x:Ae}{c:Ab}{vs:U Aa}{ns:U Int}
  (S:K.In c.heap) (j:c.heap.Ns BN mg) (f:c.heap.Ns builtinsNs B) (E:∀x:Ae,x≠"__name__"->B x=DO x) (l:c.heap.NoLimit) (Y:c.gens=(T' []))
  (G:c.heap.get? a=Z {cls:=.type "list",data:=.seq vs.toArray}) (X:IntsAre vs ns) (Q:ns.length<=AA) (hr:AF k callerA)
  (F:∀base:Ak,K.In base->base.Ns BN mg->AQ P w K mg base CX k C fd [x] sp) (i:∀(s:Ab) (u:Aa),BindsTo s fd #[[u],[]] [(x,u)])
  (R:∀H:Hp,RD H->BF K H a (ns.map V.int)->sp [.ref a] H (λv _=>v=.bl J') λ_ _ _=>False)
  (L:∀H e s',CX [] H c (λ_ _ _=>False) e s'->False):
  codeAny (Af P w) callerA (.call (.ref C) #[[.ref a],[]]) (λr s'=>r=.ok (.ret (.bool J'))/\OldK c.heap s'.heap/\s'.os=c.os/\AllBare s'.gens) c:=by
 have core:∀H:Hp,RD H->BF K H a (ns.map V.int)->B7 P w H c.heap->(∀b,H b≠J->b=a)->(H a≠J->K.lookup a=J) ->
   codeAny (Af P w) callerA (.call (.ref C) #[[.ref a],[]]) (λr s'=>r=.ok (.ret (.bool J'))/\OldK c.heap s'.heap/\s'.os=c.os/\AllBare s'.gens) c:=by
  intro H T hS hok hA hK
  have M:∀{b:Ac} {o:Obj} {y:Array Hv} {A:Nat},c.heap.get? b=Z o->o.data=.dict y A->H b=J:=λ{b o y A} e d=>by
   grind
  have g:∀{b:Ac} {m:Bl},c.heap.Ns b m->(JN c.heap H).Ns b m:=λ{b m} ⟨o,y,A,e,d,r⟩=>#[o,y,A,(λe n=>VX e n) e (M e d),d,r]
  have p:K.In (JN c.heap H):=λb o e=>(λe n=>VX e n) (S b o e) (by
   cases q:H b with
   |none=>rfl
   |some u=>
    have e':b=a:=hA b (by rw[q];simp)
    subst e'
    rw[hK (by rw[q];simp)]at e;cases e)
  have hM:Mod K mg (JN c.heap H):=#[p,g j,#[B,g f,E],let⟨mc,h1,h2⟩:=l;#[mc,g h1,h2]]
  refine K6 ((F _ p (g j)).run callerA [] c H #[[.ref a],[]] [.ref a] [.ref a] _ _ hr #[rfl,hM,λb o e=>jI e,Nat.le_of_eq (jH _ _),trivial,λb f=>absurd (show b∈([]:U Ac)from f) (by simp),hok,.of_eq Y] (i c (.ref a)) (.cons rfl .nil) (R H T hS)) λr s' h=>?_
  cases r with
  |error e=>exact(L H e s' h).elim
  |ok fl=>
   cases fl with
   |next=>exact BP h
   |brk=>exact BP h
   |cont=>exact BP h
   |ret u=>
    obtain⟨v,H',os,bare,un,t,r',q⟩:=h
    subst q
    obtain rfl:u=Value.bool J':=r'
    refine#[rfl,OldK.of_keep λb o e=>?_,os,bare]
    cases q:H b with
    |none=>exact un.keep b o e q (by intro z;exact absurd (show b∈([]:U Ac)from z) (by simp)) (by simp)
    |some u=>
     rcases T b with z|⟨ob,xs,z⟩
     ·rw[q]at z;cases z
     ·obtain⟨W,_⟩:=hok b _ z
      obtain⟨e2,_⟩:=t b _ (un.frzs b ob _ z)
      rw[e]at W;cases W
      exact e2
 cases N:K.lookup a with
 |some o=>
  have e:=S a o N
  rw[G]at e
  cases e
  refine core (λ_=>J) (λ_=>.inl rfl) (.inr #[_,vs.toArray,_,N,rfl,rfl,rfl,by rw[BR,X.length];exact Q,by simpa using(W3 X)]) (λb u z=>by have z':(J:O HO)=Z u:=z;cases z') (λb z=>absurd rfl z) λz=>absurd rfl z
 |none=>
  refine core (λb=>if b=a then Z (.frz {cls:=.type "list",data:=.seq vs.toArray} (.lst (ns.map V.int)))else J) (λb=>?_) (.inl (.inr #[{cls:=.type "list",data:=.seq vs.toArray},if_pos rfl])) (λb u z=>?_) (λb z=>?_) λ_=>N
  ·by_cases f:b=a
   ·exact .inr #[_,_,if_pos f]
   ·exact .inl (if_neg f)
  ·by_cases f:b=a
   ·cases((if_pos f).symm.trans z)
    subst f
    exact#[G,by rw[Bh];exact Q,vs,_,(W3 X),G]
   ·cases((if_neg f).symm.trans z)
  ·by_cases f:b=a
   ·exact f
   ·exact absurd (if_neg f) z
theorem walk_of{l:PySem.W.OpenLaw}{n k:Nat}{q:AI}{i:U Ae}{X:(Bl)->Ak->Prop}{C:Ah->Ak->Prop}{d:DefRec}{K:Params->Am}{CX:Ah->Dw}{sp:Ah->Sp}{x:Ae}
  (P:l.most=Z n) (t:n<=AA) (y:d.params.defaults=[]) (L:AF k callerA)
  (M:∀(w:Ah) (h:Ak),C w h->(K w.params).In h)
  (F:∀(w:Ah) (mg:Bl) (r:Ac) (h:Ak),(K w.params).In h->h.Ns BN mg->mg d.name=Z (.ref r) ->
   ∃fd:B6,(∀(s:Ab) (u:Aa),BindsTo s fd #[[u],[]] [(x,u)]) /\
    ∀base:Ak,(K w.params).In base->base.Ns BN mg->AQ l.prog w (K w.params) mg base (CX w) k r fd [x] (sp w))
  (z:∀(w:Ah) (H:Hp) (a:Ac) (ns:U Int),ns.length<=n->RD H->BF (K w.params) H a (ns.map V.int)->sp w [.ref a] H (λv _=>v=.bl J') λ_ _ _=>False)
  (A:∀(w:Ah) (H:Hp) (s:Ab) (e:Aa) (s':Ab),CX w [] H s (λ_ _ _=>False) e s'->False):
  PySem.W.WalkO q i X C l.row.toRowW d [] (λf vs=>PySem.call f vs):=by
 refine Att.attach_call P y λw s₀ m mg mb r o pm cd N a vs ns G Y ho hd R B p j c Q=>?_
 have E:=M w _ Y
 obtain⟨fd,S,hF⟩:=F w mg r _ E G.T.g B
 exact ml E G.T.g G.T.b G.T.builtins G.T.nolimit Q p j (BJ c t) L hF S (λH hO hS=>z w H a ns c hO hS) λH e s'=>A w H m e s'
noncomputable def IJ(s:Au)(j:Nat):Au:=match s with
 |.ClassDef _ _ _ a _ _ _ _ _ _ _=>a.getD j (.Pass #[0,0,0,0])
 |_=>.Pass #[0,0,0,0]
noncomputable def GZ(s:Au):Arguments:=match s with
 |.FunctionDef _ a _ _ _ _ _ _ _ _=>a
 |_=>{posonlyargs:=[],args:=[],vararg:=J,kwonlyargs:=[],kw_defaults:=[],kwarg:=J,defaults:=[]}
def ZI(s:Au):U Au:=match s with
 |.FunctionDef _ _ b _ _ _ _ _ _ _=>b
 |_=>[]
def Zf(s:Au):Scope:=match s with
 |.FunctionDef _ _ _ _ _ _ a _ _ _=>a
 |_=>{kind:=.function,names:=[],isGenerator:=O',isCoroutine:=O'}
abbrev Bg:Dw:=λ_ _ _ _ _ _=>False
abbrev E0:XK:=λ_ _ _=>False
theorem IK:EY Bg X E0:=λ_ _ _ _ _ _ _ h=>h.elim
structure HE(K:Am)(x qual:Ae)(st:Au)(f:Ac)(fd:B6):Prop where
 ex:∃(oc:Aa) (od:Option Ac) (kV doc pm:Aa) (an:Option Ac) (cdv ct:Aa) (osl:Array (Option Aa)),
  fd=IE x qual (GZ st) (ZI st) (Zf st) .none kV doc pm an cdv ct/\K.lookup f=Z #[oc,od,.func fd,osl]/\PySem.W.codeIn K cdv qual=J'
 kp:Hz K (.ref f)=J'
section
variable{P:AI}{w:Ah}{K:Am}{mg:Bl}{base:Ak}
theorem HE.ok{x a:Ae}{st:Au}{f:Ac}{fd:B6}{N d:U Ae}{k:Nat}(F:HE K x a st f fd)(S:Z8 N d (Zf st))(len:∀vs H Q E,sp vs H Q E->vs.length=d.length)
  (c:∀(b:Aa) (A:Ag) (outer:U Env) (s:Ab) (H:Hp) (vs:U V) (Q:VK) (E:XK),AF k (A.deeper (A0 a (Zf st) s.heap.objs.size f b))->sp vs H Q E ->
   ∃t,Ez (CK Bg P w K mg base N a (Zf st) f b A outer s H E).nox (ZI st) t/\t {nx:=λ_ H'=>Q .non H',rt:=Q} (FE N vs) H):AQ P w K mg base Bg (k+1) f fd d sp:=by
 obtain⟨n,o,p,i,r,u,b,ct,j,rfl,l,e⟩:=F.ex
 refine WH l e S len λA outer s H vs Q E m g=>?_
 obtain⟨t,h,q⟩:=c b A outer s H vs Q E m g
 exact#[t,h.nox,q]
theorem W4{x a:Ae}{st:Au}{f:Ac}{j:Aa}{m g:O Ac}{e:Array (O Aa)}{h d i b ct:Aa}(l:K.lookup f=Z #[j,m,.func (IE x a (GZ st) (ZI st) (Zf st) .none h d i g b ct),e])
  (c:PySem.W.codeIn K b a=J') (k:Hz K (.ref f)=J'):HE K x a st f (IE x a (GZ st) (ZI st) (Zf st) .none h d i g b ct):=#[#[j,m,h,d,i,g,b,ct,e,rfl,l,c],k]
end
theorem mm{n:Nat}(h:n<=1000):n<AA:=Gr h (by ext)
def Ai(H H':Hp):Prop:=∀b o,H b=Z o->H' b=Z o
theorem Ai.refl(H:Hp):Ai H H:=λ_ _ h=>h
theorem Ai.trans{d e:Hp}(a:Ai H d)(b:Ai d e):Ai H e:=λc o h=>b c o (a c o h)
theorem Ai.free(e:Ai H H'){l:Ac}(h:H' l=Option.none):H l=Option.none:=by
 cases q:H l with
 |none=>rfl
 |some o=>
  rw[e l o q]at h
  cases h
theorem Ai.seq{K:Am}{xs:U V}(e:Ai H H')(h:BF K H a xs):BF K H' a xs:=by
 rcases h with(h|⟨o,h⟩)|h
 ·exact .inl (.inl (e _ _ h))
 ·exact .inl (.inr #[o,e _ _ h])
 ·exact .inr h
structure NV(X:Cx)(i:Nat)(x:Ae):Prop where
 n:X.N[i]?=Z x
 v:Mh X.env.scope x
 d:Cg x
 c:(x==("__classdict__":Ae))=O'
theorem EB{i:Nat}{x:Ae}(n:X.N[i]?=Z x:=by rfl)(v:Mh X.env.scope x:=by first|exact Or.inl rfl|exact Or.inr (Or.inl rfl)|exact Or.inr (Or.inr rfl))(d:Cg x:=by ext)(c:(x==("__classdict__":Ae))=O':=by ext):NV X i x:=#[n,v,d,c]
theorem Gs{i:Nat}{x:Ae}(h:NV X i x):PE X (.Name x pos) (V0 i):=V1 h.n h.v h.d h.c
noncomputable def EZ(env:Env):U (Ae×Gp)->U (Ae×Ac)->U (Ae×Ac)
 |[],a=>a
 |(n,k)::r,a=>if k=IL then EZ env r ((n,(env.cells.lookup n).getD 0)::a)else EZ env r a
theorem W5{env:Env}(h:∀x∈scope.names,x.2=.free->∃c,env.cells.lookup x.1=Z c):
  closureFor scope env=AC (EZ env scope.names []):=by
 have all:∀(l:U (Ae×Gp)) (b:U (Ae×Ac)),(∀x∈l,x.2=.free->∃c,env.cells.lookup x.1=Z c) ->
   (forIn l b (λ(x:Ae×Gp) (b:U (Ae×Ac))=>if(x.2==IL)=J' then(do let a <- cellOf env x.1;AC (ForInStep.yield ((x.1,a)::b)))else AC (ForInStep.yield b)):Sem (U (Ae×Ac)))=AC (EZ env l b):=by
  intro l
  induction l with
  |nil=>intro b _;rfl
  |cons x l i=>
   intro b e
   obtain⟨n,k⟩:=x
   rw[List.forIn_cons]
   have f:=λb=>i b (λy j=>e y (Bu _ j))
   by_cases d:k=.free
   ·subst d
    obtain⟨c,g⟩:=e (n,.free) Bk rfl
    erw[beq_self_eq_true,if_true,show cellOf env n=AC c by unfold cellOf;erw[g],pure_bind,f,EZ,g,Option.getD_some]
   ·erw[show(k==IL)=O' by simpa using d,Ff,if_false,pure_bind,f,EZ,d]
 have:=all scope.names [] h
 erw[closureFor]
 rw[<- bind_pure (AC (EZ env scope.names []):Sem _),<- this]
theorem RE{env:Env}:∀(l:U (Ae×Gp))(a:U (Ae×Ac)),(∀x∈l,x.2=.free->∃c,env.cells.lookup x.1=Z c) ->
  (∀p∈a,env.cells.lookup p.1=Z p.2)->∀p∈EZ env l a,env.cells.lookup p.1=Z p.2
 |[],a,_,h=>h
 |(n,k)::r,a,b,h=>by
  by_cases e:k=.free
  ·subst e
   obtain⟨c,f⟩:=b (n,.free) Bk rfl
   refine RE r _ (λy d=>b y (Bu _ d)) λp g=>?_
   grind [BK,Option.getD_some]
  ·erw[EZ,e,if_false]
   exact RE r a (λy d=>b y (Bu _ d)) h
theorem RF{env:Env}:∀(l:U (Ae×Gp))(a:U (Ae×Ac))(x:Ae),((x,IL)∈l\/∃c,(x,c)∈a)->∃c,(x,c)∈EZ env l a
 |[],a,x,h=>by
  rcases h with h|h
  ·cases h
  ·exact h
 |(n,k)::r,a,x,h=>by
  by_cases b:k=.free
  ·subst b
   refine RF r _ x ?_
   grind [BK,Bk,Bu]
  ·erw[EZ,b,if_false]
   refine RF r a x ?_
   rcases h with h|h
   ·rcases BK.mp h with e|h
    ·cases e;exact absurd rfl b
    ·exact .inl h
   ·exact .inr h
theorem W6{a:Type}:∀{l:U (Ae×a)}{x:Ae}{c:a},(x,c)∈l->∃d,l.lookup x=Z d
 |[],_,_,h=>by cases h
 |(n,b)::r,x,c,h=>by
  rw[List.lookup_cons]
  cases e:x==n with
  |true=>exact#[b,rfl]
  |false=>
   rcases BK.mp h with z|h
   ·cases z;simp at e
   ·exact W6 h
structure HF(own outs:List Ae)(sc osc:Scope):Prop where
 kind:sc.kind=.function
 nocell:∀x∈sc.names,x.2≠.cell
 free:∀x∈sc.names,x.2=.free->osc.names.lookup x.1=Z .cell\/osc.names.lookup x.1=Z .free
 loc:∀x∈sc.names,x.2=.local->sc.names.lookup x.1=Z .local
 out:∀x∈outs,sc.names.lookup x=Z .free
 nd:(own++outs).Nodup
theorem CG{env:Env}:∀{names:U (Ae×Gp)}{x:Ae},names.lookup x=Z .free ->
  ((names.map λ(n,k)=>if(k==IL&&env.scope.kind==.function&&env.kindOf n==Z .cell)then(n,NameKind.cell)else(n,k)).lookup x=Z .cell \/
    (names.map λ(n,k)=>if(k==IL&&env.scope.kind==.function&&env.kindOf n==Z .cell)then(n,NameKind.cell)else(n,k)).lookup x=Z .free)
 |[],_,h=>by simp at h
 |(n,k)::r,x,h=>by
  have a:=@CG env r x
  grind
theorem Cb{env:Env}:∀{names:U (Ae×Gp)}{x:Ae}{k:Gp},k=.cell\/k=.free->(∀y∈names,y.2≠.cell) ->
  (names.map λ(n,k)=>if(k==IL&&env.scope.kind==.function&&env.kindOf n==Z .cell)then(n,NameKind.cell)else(n,k)).lookup x=Z k->(x,IL)∈names
 |[],_,_,_,_,h=>by simp at h
 |(n,j)::r,x,k,a,b,h=>by
  have d:=@Cb env r x k a λy c=>b y (Bu _ c)
  grind
def C2(X:Cx)(own a:U Ae)(scope:Scope)(C:Ac)(c:Ab)(d:Hp)(e:U Ac)(b:AS):Cx where
 prog:=X.prog
 w:=X.w
 K:=X.K
 mg:=X.mg
 base:=X.base
 A:=X.A
 N:=own++a
 s₀:=c
 H₀:=d
 env:=compEnvC scope (EZ X.env scope.names []) C X.env
 outer:=X.stack
 stack:=X.stack
 ex:=e
 fn:=λ_=>O'
 calm:=X.calm
 pn:=X.pn++b
 xe:=λ_ _=>False
def Gu(X:Cx)(b:U Expr)(e:TT):Prop:=
 ∀(a:AS) (s:Ab) (d:St) (H:Hp) (Q:Bool->Hp->Prop),Inv X a d H s->e d H Q ->
  wpAny (Af X.prog X.w) X.A (forIn b J' λc r=>if r=J' then do let ok <- isTrue c X.env (Ao c X.env);AC (ForInStep.yield ok)else AC (ForInStep.yield r)) (TP X a d Q) X.xe s
def mo:TT:=λ_ H Q=>Q J' H
theorem mq:Gu X [] mo:=λ_ _ _ H _ a h=>wpAny_tests_nil #[H,a,h]
theorem mr{c:Expr}{b:TT}(h:PT X c b):Gu X [c] b:=λa s d H Q e q=>wpAny_tests_one (h a s d H Q e q)
def EC(k:Nat)(oix:U Nat)(I:St):St:=C9 k J++oix.map λj=>(I[j]?).join
def RH(k:Nat)(oix:U Nat)(g:TG)(l:TT)(m:TE)(r:It)(I:St)(H:Hp)(Q:VK):Prop:=
 ∃(n:Nat) (W:Nat->U V->Hp->Prop),W 0 [] H/\∀i c d,W i c d ->
  (r.stop i d/\c.length<=AA/\∀p,d p=J->Q (.ref p) (AN d p (.lst c))) \/
  (r.go i d/\i<n/\c.length<AA/\∃N:U V->Hp->Prop,(∀e f,N e f->W (i+1) e f)/\∀x h,r.yld i d x h->g x (EC k oix I) h λa o=>a.drop k=(EC k oix I).drop k /\
   l a o λb j=>if b=J' then m a j λy q=>N (c++[y]) q else N c j)
def OA(k:Nat)(oix:U Nat)(wi:TI)(g:TG)(b:TT)(c:TE):TE:=λa H Q=>wi a H λe d=>RH k oix g b c e a d Q
def Fg(a:U Aa)(n:Nat):Obj:={cls:=.type "list",data:=.seq a.toArray n}
theorem B7.track{P:AI}{w:Ah}{h:Ak}{o:HO}(x:B7 P w H h)(d:H a=J)(new:AY P w (AN H a o) h a o):B7 P w (AN H a o) h:=λb u e=>by
 by_cases f:b=a
 ·grind [ZZ]
 ·rw[Zq f]at e
  exact(x b u e).stay (λc v _ q=>q) (λc q=>Zq (ZV q d) ▸ q) λc g q=>Zq (ZV q d) ▸ q
theorem W7{f:AS}{zA:Hp}{a:Ab}{P:It}{M:U Ac}{it:Ac}
  {own zB:U Ae} {oix:U Nat} {g:TG} {tt:TT} {Q:VK}
  (S:HF own zB scope X.env.scope) (hox:oix.map (λj=>X.N[j]?)=zB.map Z) (hc:X.calm=J')
  (hg:∀C a zA M f,PG (C2 X own zB scope C a zA M f) tg g)
  (ht:∀C a zA M f,Gu (C2 X own zB scope C a zA M f) ifs tt)
  (he:∀C a zA M f,PE (C2 X own zB scope C a zA M f) elt te)
  (B:Inv X f I zA a) (T:GU X.prog X.w X.K tg P M it tn) (st:tn 0 a.heap) (f2:∀b∈M,FD X f zA b)
  (h:RH own.length oix g tt te P I zA Q)
  (hRR:∀(C:Ac) (s':Ab) (m:Bl) (H':Hp),s'.heap.Ns C m->Inv X f I H' s'->H' C=J->C≠X.env.locals->X.s₀.heap.objs.size<=C ->
   (∀x c,X.env.cells.lookup x=Z c->c≠C)->(∀p∈X.pn++f,p.1≠C)->Q (.ref a.heap.objs.size) H'->RR (.ref a.heap.objs.size) C (.ok .next) s'):
  wpAny (Af X.prog X.w) X.A (newList []) (λacc s₃=>wpAny (Af X.prog X.w) X.A (newFunctionEnv scope X.env.globals (EZ X.env scope.names []) [] X.env.qual J .none (Z X.env)) (λcenv s₄=>
   codeAny (Af X.prog X.w) X.A (.compStart (.ListComp elt [#[tg,iter,ifs,0]] scope pos) 0 (.ref it) acc {cenv with scope:=relabel scope X.env}) (RR acc cenv.locals) s₄) E s₃) E a:=by
 obtain⟨n,W,w0,turn⟩:=h
 refine IH (wpAny_newFunctionEnv S.nocell (by intro y hy;simp at hy) (λh₁ R L=>?_) S.kind)
 generalize hP:a.heap.push {cls:=.type "list",dict:=J,data:=.seq ([]:U Aa).toArray}=t at R L ⊢
 have hC:t.objs.size=a.heap.objs.size+1:=by rw[<- hP,K5]
 generalize hCC:t.objs.size=C at R L hC ⊢
 have hDC:a.heap.objs.size≠C:=hC ▸ BX (Nat.lt_succ_self _)
 have H:a.heap.objs.size<C:=hC ▸ Nat.lt_succ_self _
 have old:∀b o,a.heap.get? b=Z o->h₁.get? b=Z o:=λb o e=>
  L.extBut b o (BX (HG (Br e) H)) (Bp _ (hP ▸ Bp _ e))
 have clX:∀x c,(EZ X.env scope.names []).lookup x=Z c->X.env.cells.lookup x=Z c:=λx c e=>
  RE scope.names [] (λx hx hf=>B.ok.has x.1 (S.free x hx hf)) (λp t=>by cases t) (x,c) (JX e)
 have clHas:∀x,(x,IL)∈scope.names->∃c,(EZ X.env scope.names []).lookup x=Z c:=λx hx=>by
  obtain⟨c,hc⟩:=RF (env:=X.env) scope.names [] x (.inl hx)
  exact W6 hc
 have fpLt:∀b∈M,b<a.heap.objs.size:=λb G=>by
  obtain⟨o,e,_⟩:=T.obj 0 _ st b G
  exact Br e
 have cLt:∀x c,X.env.cells.lookup x=Z c->c<a.heap.objs.size:=λx c e=>by
  obtain⟨v,q⟩:=B.cell x c e
  exact q.lt
 have fpStk:∀b∈M,b∉Cd X.stack:=λb G z=>by
  rcases BK.mp (B.stkSub b z)with e|z
  ·exact(f2 b G).2.1 e
  ·exact(f2 b G).2.2.1 z
 have pinLt:∀p∈X.pn++f,p.1<a.heap.objs.size:=λp t=>Br (B.pin p t).1
 have pinStk:∀p∈X.pn++f,p.1∉Cd X.stack:=λp t z=>by
  rcases BK.mp (B.stkSub _ z)with e|z
  ·exact(B.pin p t).2.2.1 e
  ·exact(B.pin p t).2.2.2.1 z
 have fsLt:∀b∈Cd X.stack,b<a.heap.objs.size:=λb G=>by
  obtain⟨_,o,ho,_⟩:=B.stack.mem G
  exact Br ho
 let Y:Cx:=C2 X own zB scope C a zA M f
 have okY:Y.Ok:={
  mod:=B.ok.mod
  kind:=S.kind
  glob:=B.ok.glob
  blt:=B.ok.blt
  above:=K1 H
  inj:=λx y c h1 h2=>B.ok.inj x y c (clX x c h1) (clX y c h2)
  has:=λx hx=>by
   refine clHas x ?_
   rcases hx with hx|hx
   ·exact Cb (env:=X.env) (.inl rfl) S.nocell hx
   ·exact Cb (env:=X.env) (.inr rfl) S.nocell hx
  cab:=λx c hf _=>absurd (show O'=J' from hf) Me
  hd:=B.ok.hd
  frames:=B.ok.frames
  stk:=.inl rfl
  exf:=λb G=>#[BX (HG (fpLt b G) H),λx c e=>(f2 b G).2.2.2.2.1 x c (clX x c e)]
  bs:=B.bs
  bsz:=BJ B.ok.bsz B.sz
  noex:=λb o e G=>by
   rcases(f2 b G).2.2.2.1 with z|z
   ·exact B.ok.noex b o e z
   ·exact absurd (BE (Br e) (BJ B.ok.bsz z)) (Hw _)
  exfs:=fpStk
  funs:=B.stack
  frf:=B.stkFree}
 have lenS:(EC own.length oix I).length=Y.N.length:=by
  have e:=congrArg IC hox
  erw[Bh]at e
  show(C9 own.length J++oix.map _).length=(own++zB).length
  rw[FG,FG,K8,Bh,e]
 have I4:Inv Y [(a.heap.objs.size,Fg [] 0)] (EC own.length oix I) zA {a with heap:=h₁}:={
  ok:=okY
  os:=rfl
  bare:=B.bare
  base:=Un.kept old
  loc:=by
   refine#[_,R,λi x v e1 e2 e3=>?_]
   have hi:own.length<=i:=by
    apply Mz
    intro hlt
    unfold EC at e2
    rw[HA (K8 ▸ hlt),ID,if_pos hlt]at e2
    cases e2
   unfold EC at e2
   rw[Mw (K8 ▸ hi),K8,DQ]at e2
   have e1':zB[i-own.length]?=Z x:=by
    have e1:(own++zB)[i]?=Z x:=e1
    rwa[Mw hi]at e1
   cases ej:oix[i-own.length]? with
   |none=>rw[ej]at e2;cases e2
   |some j=>
    rw[ej]at e2
    have e2':(I[j]?).join=Z v:=Gf e2
    have e2'':I[j]?=Z (Z v):=by
     cases eI:I[j]? with
     |none=>rw[eI]at e2';cases e2'
     |some z=>rw[eI]at e2';exact congrArg Z e2'
    have eN:X.N[j]?=Z x:=by
     have q:=congrArg (λl=>l[i-own.length]?) hox
     erw[DQ,ej,e1',J2]at q
     exact Gf q
    have hfree:scope.names.lookup x=Z .free:=S.out x (GY e1')
    have hk:X.env.scope.names.lookup x=Z .cell\/X.env.scope.names.lookup x=Z .free:=S.free (x,.free) (JX hfree) rfl
    obtain⟨m,hn,hl⟩:=B.loc
    obtain⟨u,r,l⟩:=hl j x v eN e2'' (by rcases hk with hk|hk;exact .inr (.inl hk);exact .inr (.inr hk))
    refine#[u,r,.inr #[CG (env:=X.env) hfree,?_]]
    obtain⟨c,ec⟩:=clHas x (JX hfree)
    refine#[c,ec,?_]
    rcases l with⟨k,_⟩|⟨_,c',e',o,ho,hd⟩
    ·rcases hk with hk|hk
     ·exact absurd (k.symm.trans hk) (by ext)
     ·exact absurd (k.symm.trans hk) (by ext)
    ·rw[clX x c ec]at e'
     cases e'
     exact#[o,old _ _ ho,hd]
  cell:=λx c e=>by
   obtain⟨v,o,ho,hd⟩:=B.cell x c (clX x c e)
   exact#[v,o,old _ _ ho,hd]
  free:=B.hok.fresh (K1 H)
  freeC:=λx c e=>B.freeC x c (clX x c e)
  pin:=λp t=>by
   rcases Dn.mp t with t|t
   ·obtain⟨e,n,_,_,d⟩:=B.pin p t
    exact#[old _ _ e,n,BX (HG (pinLt p t) H),pinStk p t,d]
   ·have e:p=(a.heap.objs.size,Fg [] 0):=by simpa using t
    subst e
    refine#[(L.extBut _ _ hDC (Bp _ (hP ▸ B4 _ rfl))),B.hok.fresh (A5 _),hDC,λz=>absurd (fsLt _ z) (Hw _),λv z=>?_]
    cases z
  hok:=B.hok.kept old
  len:=lenS}
 have fpY:∀{H':Hp} {s:U Aa} {k:Nat},(∀b∈M,H' b=J)->∀b∈M,FD Y [(a.heap.objs.size,Fg s k)] H' b:=λ{H' s k} hn b G=>by
  refine#[hn b G,BX (HG (fpLt b G) H),fpStk b G,.inl G,λx c e=>(f2 b G).2.2.2.2.1 x c (clX x c e),λp t=>?_]
  rcases Dn.mp t with t|t
  ·exact(f2 b G).2.2.2.2.2 p t
  ·have e:p=(a.heap.objs.size,Fg s k):=by simpa using t
   subst e
   exact Gi (fpLt b G)
 have fin:∀(i:Nat) (ys:U V) (s:U Aa) (k:Nat) (H':Hp) (s':Ab),Inv Y [(a.heap.objs.size,Fg s k)] (EC own.length oix I) H' s'->An ys s->ys.length<=AA ->
   Q (.ref a.heap.objs.size) (AN H' a.heap.objs.size (.lst ys))->RR (.ref a.heap.objs.size) C (.ok .next) s':=λi ys s k H' s' I' rv hz q=>by
  obtain⟨m,hn,_⟩:=I'.loc
  obtain⟨eD,nD,_⟩:=I'.pin (a.heap.objs.size,Fg s k) (CY _ (by simp))
  have neH:∀b o,zA b=Z o->b≠a.heap.objs.size:=λb o e=>BX (B.hok.lt e)
  have un':Un (Cd X.stack) M zA (AN H' a.heap.objs.size (.lst ys)) a.heap s'.heap:=
   #[I'.base.keep,I'.base.slot,λb o e n hx=>Zq ((λb o e=>BX (Br e)) b o e) ▸ I'.base.free b o e n hx,I'.base.there,λb xs e=>Zq (neH b _ e) ▸ I'.base.tups b xs e,
    λb o u e=>Zq (neH b _ e) ▸ I'.base.frzs b o u e,λb ps e=>Zq (neH b _ e) ▸ I'.base.tbls b ps e]
  refine hRR C s' m _ hn (B.call' (ch:=M) I'.os un' (B7.track I'.hok nD #[hz,s,k,rv,eD]) I'.bare λb G=>#[(f2 b G).2.2.2.1,(f2 b G).2.1,(f2 b G).2.2.2.2.1,(f2 b G).2.2.2.2.2]) ?_ ?_ ?_ ?_ ?_ q
  ·rw[Zq (B0 hDC)];exact I'.free
  ·exact Gi (HG B.lt H)
  ·exact BJ B.sz (K1 H)
  ·exact λx c e=>BX (HG (cLt x c e) H)
  ·exact λp t=>BX (HG (pinLt p t) H)
 have loop:codeAny (Af X.prog X.w) X.A (.compLoop (.ListComp elt [#[tg,iter,ifs,0]] scope pos) 0 (.ref it) (.ref a.heap.objs.size) Y.env) (RR (.ref a.heap.objs.size) C) {a with heap:=h₁}:=by
  refine codeAny_loop rfl (λk s'=>∃(i:Nat) (ys:U V) (s:U Aa) (c:Nat) (H':Hp),Inv Y [(a.heap.objs.size,Fg s c)] (EC own.length oix I) H' s'/\An ys s/\tn i s'.heap/\(∀b∈M,H' b=J)/\W i ys H'/\k=n-i) (λk s' hI=>?_) n
   #[0,[],[],0,zA,I4,.nil,T.keep 0 _ _ st λb _ o e=>old b o e,λb G=>(f2 b G).1,w0,rfl]
  refine wpAny_noted ?_
  obtain⟨i,ys,s,c,H',I',rv,st',fr',w',ek⟩:=hI
  rcases turn i ys H' w' with⟨stop,hz,q⟩|⟨go,hin,hz,N,hN,step⟩
  ·refine Al (wpAny_standAt (Al (AV (T.done Y rfl rfl rfl hc i _ s' _ H' _ I' (fpY fr') st' stop) λr s1 ⟨hr,I1⟩=>?_)))
   subst hr
   obtain⟨_,nD,_⟩:=I1.pin (a.heap.objs.size,Fg s c) (CY _ (by simp))
   exact AO (fin i ys s c H' s1 I1 rv hz (q _ nD))
  ·refine Al (wpAny_standAt (Al (AV (T.item Y rfl rfl rfl hc i _ s' _ H' _ I' (fpY fr') st' go) λr s1 ⟨u,hr,h1⟩=>?_)))
   subst hr
   refine Al (AV h1 λ_ s5 z9=>?_)
   obtain⟨x,H5,I5,r5,y5,st5,fr5⟩:=z9
   refine Al (wpAny_noRaise (AV (hg C a zA M f _ s5 _ H5 x u _ (I5.pinned (fpY fr5) (T.obj _ _ st5)) r5 (step x H5 y5)) λ_ s6 z9=>?_))
   obtain⟨σ6,H6,I6,dr6,q6⟩:=z9
   refine Al (wpAny_noRaise (AV (ht C a zA M f _ s6 σ6 H6 _ I6 q6) λok s7 ⟨H7,I7,q7⟩=>?_))
   have back:∀{H8:Hp} {s8:Ab} {its8:U Aa} {c8:Nat},Inv Y ([(a.heap.objs.size,Fg its8 c8)]++JQ M s5.heap) σ6 H8 s8 ->
     Inv Y [(a.heap.objs.size,Fg its8 c8)] (EC own.length oix I) H8 s8/\tn (i+1) s8.heap/\∀b∈M,H8 b=J:=λ{H8 s8 its8 c8} I8=>by
    refine#[I8.unpinned.weak ?_ λj v e=>?_,T.keep _ _ _ st5 λb G o e=>(I8.pin (b,o) (CY _ (CY _ (Op G e)))).1,λb G=>?_]
    ·exact lenS.trans I8.len.symm
    ·have hj:own.length<=j:=by
      apply Mz
      intro hlt
      unfold EC at e
      rw[HA (K8 ▸ hlt),ID,if_pos hlt]at e
      cases e
     have e':=congrArg (λl=>l[j-own.length]?) dr6
     erw[List.getElem?_drop]at e'
     rw[show own.length+(j-own.length)=j by exact Nat.add_sub_of_le hj]at e'
     exact e'.trans e
    ·obtain⟨o,e,d⟩:=T.obj _ _ st5 b G
     exact(I8.pin (b,o) (CY _ (CY _ (Op G e)))).2.1
   cases ok with
   |false=>
    obtain⟨I8,st8,fr8⟩:=back I7
    exact AO #[rfl,n-(i+1),by lia,i+1,ys,s,c,H7,I8,rv,st8,fr8,hN _ _ q7,rfl]
   |true=>
    refine Al (Al (wpAny_noRaise (AV (he C a zA M f _ s7 σ6 H7 _ I7 q7) λy s8 z9=>?_)))
    obtain⟨z,H8,I8,r8,w8⟩:=z9
    obtain⟨eD,nD,neL,nF,dD⟩:=I8.pin (a.heap.objs.size,Fg s c) (CY _ (Iw _ (by simp)))
    have hl:=rv.length
    refine Al (call_meets F.slot_list_append #[_,eD,rfl] F.entry_list_append (F.args_list_append_2 _ _) (PySem.list_append _ s.toArray c y (by rw[BR];lia)) #[eD,?_])
    obtain⟨n',q⟩:∃n',(s8.heap.update a.heap.objs.size (Fe (·.push y))).get? a.heap.objs.size=Z (Fg (s++[y]) n'):=by
     have q:=PySem.IsL.update eD (·.push y)
     rw[show s.toArray.push y=(s++[y]).toArray by simp]at q
     exact#[_,q]
    have I9:Inv Y (JQ M s5.heap) σ6 H8 {s8 with heap:=s8.heap.update a.heap.objs.size (Fe (·.push y))}:=
     (I8.pins_of λp t=>I8.pin p (CY _ (CY _ t))).turned (t':=s8.toks) (it:=a.heap.objs.size) (λb o G e=>(Lc _ _ (B0 G)).trans e) nD hDC (.inr (A5 _))
      (λx c' e=>BX (cLt x c' (clX x c' e))) λp t=>by
       rcases Dn.mp t with t|t
       ·exact BX (pinLt p t)
       ·exact BX (fpLt _ (Wk t).1)
    have I10:Inv Y ([(a.heap.objs.size,Fg (s++[y]) n')]++JQ M s5.heap) σ6 H8 {s8 with heap:=s8.heap.update a.heap.objs.size (Fe (·.push y))}:=I9.pins_of λp t=>by
     rcases Dn.mp t with t|t
     ·have e:p=(a.heap.objs.size,Fg (s++[y]) n'):=by simpa using t
      subst e
      exact#[q,nD,neL,nF,λv z=>by
       cases z]
     ·exact I9.pin p (CY _ t)
    obtain⟨I11,st11,fr11⟩:=back I10
    exact AO (AO #[rfl,n-(i+1),by lia,i+1,ys++[z],s++[y],_,H8,I11,rv.append (.cons r8 .nil),st11,fr11,hN _ _ w8,rfl])
 exact codeAny_compStart_list loop (T.self _ 0 _ _ _ (T.keep 0 _ _ st λb _ o e=>old b o e) loop)
section
variable{oix:U Nat}{g:TG}{tt:TT}
theorem W8(own c:U Ae)(oix:U Nat)(S:HF own c scope X.env.scope)(t:oix.map (λj=>X.N[j]?)=c.map Z)(L:X.calm=J')(M:PI X tg iter wi)
  (K:∀C l i k a,PG (C2 X own c scope C l i k a) tg g)
  (P:∀C l i k a,Gu (C2 X own c scope C l i k a) ifs tt)
  (Y:∀C l i k a,PE (C2 X own c scope C l i k a) elt te)
  (hs:∀x,EU iter X.env x=AC x:=by intro _;rfl):
  PE X (.ListComp elt [#[tg,iter,ifs,0]] scope pos) (OA own.length oix wi g tt te):=by
 intro a s z H Q R h
 rw[eval_ListComp]
 refine wpAny_comprehension_free (use:=J) rfl hs (W5 λx hx hf=>R.ok.has x.1 (S.free x hx hf)) S.kind S.loc (AV (M a s z H _ R h) λxv B n=>AV n λitv E p=>?_)
 obtain⟨it,k,tn,F,i,e,I2,T,u,f2,d⟩:=p
 subst e
 refine W7 (RR:=λv C=>compPost (Af X.prog X.w) X.A X.xe J (EP X a z Q) v C) S t L K P Y I2 T u f2 d ?_
 intro C s' m H' hn I' hC hL h0 f r q
 exact#[m,hn,λG y=>#[.ref _,H',I'.turned (h':=G) (t':=s'.toks) (it:=C) (λb o hb e=>y.extBut b o hb e) hC hL (.inr h0) f r,rfl,q]]
theorem OB(own d:U Ae)(oix:U Nat){i:Nat}{x:Ae}{f k:Az}(S:HF own d scope X.env.scope)(M:oix.map (λj=>X.N[j]?)=d.map Z)(hc:X.calm=J')
  (hN:X.N.Nodup) (K:X.N[i]?=Z x) (hx:X.env.scope.names.lookup x=Z .local) (hi:PI X tg iter wi)
  (hg:∀C u r t c,PG (C2 X own d scope C u r t c) tg g)
  (ht:∀C u r t c,Gu (C2 X own d scope C u r t c) ifs tt)
  (he:∀C u r t c,PE (C2 X own d scope C u r t c) elt te)
  (P:Dv (.ListComp elt [#[tg,iter,ifs,0]] scope pos) (Z (.Name x f)) k.line X.env=AC J':=by rfl)
  (hs:∀x,EU iter X.env x=AC x:=by intro _;rfl):
  PS X (.Assign [.Name x f] (.ListComp elt [#[tg,iter,ifs,0]] scope pos) k) (K2 (OA own.length oix wi g tt te) (JP i)):=by
 intro c s I H D R h
 rw[exec_Assign_Name_used _ _ _ _ P]
 refine Al (wpAny_standAt (Al ?_))
 refine Al (CU (wpAny_comprehension_free (use:=Z (assign (.Name x f) X.env)) (Q:=λ_ z=>SP X c D .next z) rfl hs (W5 λy hy hf=>R.ok.has y.1 (S.free y hy hf)) S.kind S.loc
  (AV (hi c s I H _ R h) λxv s₁ B=>AV B λitv E G=>?_)) (λ_ z hq=>AO (AO hq)) λ_ _ e=>e)
 obtain⟨it,t,tn,F,r,e,I2,T,Y,f2,l⟩:=G
 subst e
 refine W7 (RR:=λacc C=>compPost (Af X.prog X.w) X.A X.xe (Z (assign (.Name x f) X.env)) (λ_ z=>SP X c D .next z) acc C) S M hc hg ht he I2 T Y f2 l ?_
 intro C z m H' hn I' hC hL h0 n L q
 refine wpAny_assign_Name (VZ (v:=.ref E.heap.objs.size) I' hN K (.inl hx) rfl (λs'' I'' p=>?_) (.inr hx))
 obtain⟨a,p,ha⟩:=p
 have hCa:C≠a:=by
  grind
 exact#[m,hn.sameBut p hCa,λh' hs'=>#[_,H',I''.turned (h':=h') (t':=s''.toks) (it:=C) (λb o hb e=>hs'.extBut b o hb e) hC hL (.inr h0) n L,q]]
end
def W9(x:Ae):It:=#[λi _=>i<x.cps.size,λi H v a=>a=H/\∃c,x.cps[i]?=Z c/\v=.str #[(T' [c])],λi _=>x.cps.size<=i]
theorem Xa{P:AI}{w:Ah}{K:Am}{u:Expr}{b:Bool}(it:Ac)(x:Ae)(t:Tok):GU P w K u (W9 x) [it] it (λi h=>h.IsStrIter it (bif b then "str_ascii_iterator" else "str_iterator") x t i):=by
 refine Mm (n:=bif b then "str_ascii_iterator" else "str_iterator") (by cases b<;>decide) (λi h st=>?_) (λi h g st k=>?_) (λX i m s z H E Q A p B st=>?_) λ_ _ _ _ _ st h=>by
  cases b
  ·exact wpAny_pyIter_striter_wide st h
  ·exact wpAny_pyIter_striter_ascii st h
 ·obtain⟨o,e,c,d⟩:=st;exact#[o,_,e,c,d]
 ·obtain⟨o,e,r⟩:=st;exact#[o,k o e,r]
 ·constructor<;>intro a q
  ·have a:i<x.cps.size:=a
   have f:=λt g j (v:DP it s.heap g)=>q (.str #[(T' [x.cps[i]])] t) (.str #[(T' [x.cps[i]])]) g (s.toks+1) j (λb o y e=>(v.2 b y).trans e) #[_,rfl] #[rfl,_,by simp[a],rfl]
   cases b
   ·exact wpAny_pyNext_wide_item st (c:=x.cps[i]) (by simp[a]) (f _)
   ·exact wpAny_pyNext_ascii_item st (c:=x.cps[i]) (by simp[a]) (f _)
  ·have a:x.cps.size<=i:=a
   cases b
   ·exact wpAny_pyNext_wide_end p st (by simp[a]) λg l=>q g s.toks l
   ·exact wpAny_pyNext_ascii_end p st (by simp[a]) λg l=>q g s.toks l
section
def ms(a:TE):TI:=λb H R=>a b H λv c=>∃x,v=.str x/\R (W9 x) c
theorem mu{l:Expr}{g:TE}(k:PE X l g):PI X tg l (ms g):=by
 intro a s m H R u h
 refine AV (k a s m H _ u h) λv c n=>?_
 obtain⟨y,f,d,p,x,e,q⟩:=n
 subst e
 obtain⟨t,rfl⟩:=p
 have i:∀{o:Obj} (b:Ac),b∈[c.heap.objs.size]->FD X a f b:=λ{o} b r=>by
  have e:b=c.heap.objs.size:=by simpa using r
  subst e
  exact d.fpOk (A5 _) (d.hok.fresh (A5 _))
 cases j:x.cps.all (·<128)
 ·exact wpAny_pyIter_wide j #[c.heap.objs.size,[c.heap.objs.size],_,_,f,rfl,d.kept (t':=c.toks) λb o e=>Bp _ e,Xa (b:=O') _ x t,#[_,B4 _ rfl,rfl,rfl],i (o:=default),q]
 ·exact wpAny_pyIter_ascii j #[c.heap.objs.size,[c.heap.objs.size],_,_,f,rfl,d.kept (t':=c.toks) λb o e=>Bp _ e,Xa (b:=J') _ x t,#[_,B4 _ rfl,rfl,rfl],i (o:=default),q]
end
section
def mv:V->O Int->O Int->Hp->VK->Prop:=λx lo a H Q=>∃z,x=.str z/\z.length<=AA/\Q (.str (Txt.slice z lo a)) H
theorem mw:II X mv:=by
 rintro e s n H x v o p lo r w Q y h a m f ⟨z,rfl,b,q⟩
 obtain⟨t,rfl⟩:=h
 refine#["str",_,PySem.F.slot_str_getitem.lookup,typeIs_str s z t,?_]
 cases m with
 |none=>
  cases f with
  |none=>exact RJ (l:=J) (u:=J) (st:=J) a rfl (post_val_or_str #[BJ (Txt.slice_le z _ _) b,λc k=>#[.str (Txt.slice z J J),H,y.tok _,#[_,rfl],q]])
  |int j d=>exact RJ (l:=J) (u:=Z (j,d)) (st:=J) a rfl (post_val_or_str #[BJ (Txt.slice_le z _ _) b,λc k=>#[.str (Txt.slice z J (Z j)),H,y.tok _,#[_,rfl],q]])
 |int i g=>
  cases f with
  |none=>exact RJ (l:=Z (i,g)) (u:=J) (st:=J) a rfl (post_val_or_str #[BJ (Txt.slice_le z _ _) b,λc k=>#[.str (Txt.slice z (Z i) J),H,y.tok _,#[_,rfl],q]])
  |int j d=>exact RJ (l:=Z (i,g)) (u:=Z (j,d)) (st:=J) a rfl (post_val_or_str #[BJ (Txt.slice_le z _ _) b,λc k=>#[.str (Txt.slice z (Z i) (Z j)),H,y.tok _,#[_,rfl],q]])
theorem my{zs:U Ae}:∀{us:U Aa},An (zs.map V.str) us->StrsAre us zs:=by
 induction zs with
 |nil=>intro us r;rw[Db]at r;cases r;exact .nil
 |cons n ns a=>
  intro us r
  rw[A3]at r
  cases r with
  |cons b c=>
   obtain⟨t,rfl⟩:=b
   exact .cons n t (a c)
def Xb(K:Am):V->U V->Hp->VK->Prop:=λx c H Q=>∃z a b,x=.str z/\c=[.ref a]/\BF K H a (b.map V.str)/\(b.map (·.length)).sum+b.length*z.length<=16777216/\Q (.str (Txt.join z b)) H
theorem mz:Mx X "str.join" (Xb X.K):=by
 rintro d s l H x m v n Q c e f ⟨z,a,o,rfl,rfl,g,h,q⟩
 obtain⟨t,rfl⟩:=e
 obtain⟨u,rfl,i⟩:=EW f
 cases i
 obtain⟨b,r,j,_⟩:=c.list g
 exact join_list (items:=b.toArray) j.isList (my r) h λp k=>#[.str _,H,c.tok _,#[_,rfl],q]
end
theorem mB{bs:U Bool}:∀{us:U Aa},An (bs.map V.bl) us->LSm.BoolsAre us bs:=by
 induction bs with
 |nil=>intro us r;rw[Db]at r;cases r;exact .nil
 |cons n ns a=>
  intro us r
  rw[A3]at r
  cases r with
  |cons b c=>
   subst b
   exact .cons n (a c)
section
theorem mC{b:Bool}(l:X.calm=J'):Ea X (.builtin (bif b then "all" else "any")) (λxs H Q=>∃(a:Ac)(bs:U Bool),xs=[.ref a]/\BF X.K H a (bs.map V.bl)/\Q (.bl (bif b then bs.all id else bs.any id)) H):=by
 rintro g s w H xs x Q F r ⟨a,bs,rfl,m,q⟩
 obtain⟨u,rfl,n⟩:=EW r
 cases n
 obtain⟨c,o,d,y⟩:=F.list m
 have h:=mB o
 obtain⟨f,j⟩:∃f:Nat->Bool,f=λi=>(bs[i]?).getD b:=#[_,rfl]
 cases b
 all_goals
  first|refine call_all_walk (Oo d.isList ?_)|refine call_any_walk (Oo d.isList ?_)
  refine#[s.heap.objs.size,[s.heap.objs.size,a],[s.heap.objs.size],c.toArray.size,_,_,f,rfl,Walks.list (A:=X.A.in1) (F.ok.hd l) _ a (BX (show a<s.heap.objs.size by obtain⟨_,e,_⟩:=d.isList;exact Br e)) c.toArray,
   #[#[_,B4 _ rfl,rfl,rfl],d.isList.push _],λi v z B C p k=>?_,λE G t=>#[.bl _,H,F.kept (LSm.kept_iter t),rfl,?_]]
  ·obtain⟨b,e,rfl⟩:=h.get i v (by simpa using p)
   erw[j,e,Option.getD_some]at k
   exact Ix k
  ·rw[show c.toArray.size=bs.length by rw[BR,h.length],j]
   first|rw[LSm.range_all bs]|rw[LSm.range_any bs]
   exact q
end
section
open PySem.SeqAt
inductive Fh(A:Ag)(s:Ab):List Aa->List Aa->Bool->Prop where
 |nn:Fh A s [] [] O'
 |nc {w ws}:Fh A s [] (w::ws) J'
 |cn {v vs}:Fh A s (v::vs) [] O'
 |eq {v w vs ws b}:EqAt A s v w J'->Fh A s vs ws b->Fh A s (v::vs) (w::ws) b
 |ne {v w vs ws b}:EqAt A s v w O'->(∀(prog:AI) (wo:Ah) (E Q:AJ),Q (.bool b) s->wpAny (Af prog wo) A (richCompare .Lt v w) Q E s)->Fh A s (v::vs) (w::ws) b
end
section
open PySem.SeqAt
open PySem.AutoSeq1 (wpAny_loadPart')
open PySem.MeetsSeq PySem.MeetsSeq2 PySem.MeetsSeq3
theorem mD(l b:Ac)(items a:Array Aa)(n n2:Nat)(dd p:O Ac)(H q:Array (O Aa))(r:Bool):
  Meets (Fi.«tuple.__lt__» #[[.ref l,.ref b],[]])
   (λA R s=>s.heap.get? l=Z {cls:=.type "tuple",dict:=dd,data:=.seq items n,slots:=H}/\s.heap.get? b=Z {cls:=.type "tuple",dict:=p,data:=.seq a n2,slots:=q} /\
    Fh A.in1 s items.toList a.toList r/\R (.ok (.ret (.bool r))) s):=
 .of_wp λprog w A R s h=>by
  obtain⟨E,g,d,G,os⟩:=s;obtain⟨P,F,t,h⟩:=h
  have M:=AutoSeq1.sub_tuple_tuple
  wp_walk using Eu P,Eu F,wpAny_forIn_list _ (λAx b u=>b.1=J/\u=#[E,g,d,G,os]/\∃(m o:U Aa),Ax=m.zip o /\
   Fh A.in1 #[E,g,d,G,os] m o r/\m.length+a.size=o.length+items.size) _
  case turn=>
   rintro⟨y,x⟩ Ax b u ⟨j,rfl,m,o,e,f,c⟩
   cases f with
   |nn=>rw[List.zip_nil_left]at e;cases e
   |nc=>rw[List.zip_nil_left]at e;cases e
   |cn=>rw[List.zip_nil_right]at e;cases e
   |eq v z=>
    rw[HH]at e
    injection e with k i
    injection k with B C
    subst B C
    erw[Ce]at c
    refine Al (v prog w _ _ ?_)
    wp_walk
    exact#[rfl,rfl,_,_,i,z,by lia]
   |ne v z=>
    rw[HH]at e
    injection e with k i
    injection k with B C
    subst B C
    refine Al (v prog w _ _ ?_)
    wp_walk using(z prog w)
    exact#[_,rfl,by simpa using h]
  case fin=>
   rintro⟨N,K⟩ u ⟨j,rfl,m,o,e,f,c⟩
   simp only at j
   subst j
   have L:r=decide (items.size<a.size):=by
    cases f with
    |nn=>
     erw[HI]at c
     exact(decide_eq_false (by lia)).symm
    |nc=>
     erw[HI,Ce]at c
     exact(decide_eq_true (by lia)).symm
    |cn=>
     erw[HI,Ce]at c
     exact(decide_eq_false (by lia)).symm
    |eq _ _=>rw[HH]at e;cases e
    |ne _ _=>rw[HH]at e;cases e
   rw[L]at h
   wp_walk
   exact#[_,rfl,by simpa[Builtin.Tuple.tupleCompareSizes]using h]
  case h=>
   exact#[rfl,rfl,items.toList,a.toList,rfl,t,by simp;exact Nat.add_comm items.size a.size]
theorem mE(l b:Ac)(items c:Array Aa)(n n2:Nat)(dd y:O Ac)(B z:Array (O Aa))(r:Bool)(k:Nat):
  ∀i:Nat,items.size-i=k->Meets (Fi.«list.__eq__.loop» #[[.ref l,.ref b,AZ i,AZ 0],[]])
   (λA R s=>s.heap.get? l=Z {cls:=.type "list",dict:=dd,data:=.seq items n,slots:=B}/\s.heap.get? b=Z {cls:=.type "list",dict:=y,data:=.seq c n2,slots:=z} /\
    Fh A.in1 s (items.toList.drop i) (c.toList.drop i) r/\(i<=items.size/\i<=c.size)/\R (.ok (.ret (.bool r))) s):=by
 induction k with
 |zero=>
  intro i u prog w A R s h
  obtain⟨C,g,d,E,os⟩:=s;obtain⟨m,o,e,⟨G,H⟩,h⟩:=h
  wp_walk using Eu m,Eu o
  have j:items[((i:Nat):Int).toNat]?=J:=by simp;exact Nat.le_of_sub_eq_zero u
  have hd:items.toList.drop i=[]:=OC (by simp;lia)
  rw[hd]at e
  rw[j]
  have p:r=decide (items.size<c.size):=by
   cases x:c.toList.drop i with
   |nil=>
    rw[x]at e
    have:=congrArg IC x
    simp at this
    cases e
    exact(decide_eq_false (by lia)).symm
   |cons a t=>
    rw[x]at e
    have:=congrArg IC x
    simp at this
    cases e
    exact(decide_eq_true (by lia)).symm
  rw[p]at h
  wp_walk using Eu m,Eu o
  exact h
 |succ k F=>
  intro i u prog w A R s h
  obtain⟨C,g,d,E,os⟩:=s;obtain⟨m,o,e,⟨G,H⟩,h⟩:=h
  wp_walk using Eu m,Eu o
  have j:items[((i:Nat):Int).toNat]?=Z items[i]:=by simp[J3 u]
  rw[show items.toList.drop i=items[i]::items.toList.drop (i+1) by rw[OD (by simpa using(J3 u))];simp]at e
  rw[j]
  by_cases f:i<c.size
  ·have v:c[((i:Nat):Int).toNat]?=Z c[i]:=by simp[f]
   have q:c.toList.drop i=c[i]::c.toList.drop (i+1):=by rw[OD (by simpa using f)];simp
   rw[q]at e
   rw[v]
   cases e with
   |eq e p=>
    refine Al (e prog w _ _ ?_)
    wp_walk
    rw[show((i:Int)+1)=((i+1:Nat):Int) by push_cast;rfl]
    exact#[Ld plain_eq_loop _,IM entry_eq_loop (by
     rw[Around.under_plainId plain_eq_loop _]
     exact F (i+1) (by lia) prog w A R _ #[m,o,p,#[(J3 u),f],h])]
   |ne e p=>
    refine Al (e prog w _ _ ?_)
    wp_walk using Eu m,Eu o
    rw[j,v]
    wp_walk using(p prog w)
    exact h
  ·have q:c.toList.drop i=[]:=OC (by simp;lia)
   rw[q]at e
   rw[show c[((i:Nat):Int).toNat]?=J by simp;exact Mz f]
   have p:r=decide (items.size<c.size):=by
    cases e
    exact(decide_eq_false (by lia)).symm
   rw[p]at h
   wp_walk using Eu m,Eu o
   exact h
theorem Xc(l b:Ac)(items a:Array Aa)(n n2:Nat)(dd c:O Ac)(f e:Array (O Aa))(r:Bool):
  Meets (Fi.«list.__lt__» #[[.ref l,.ref b],[]])
   (λA R s=>s.heap.get? l=Z {cls:=.type "list",dict:=dd,data:=.seq items n,slots:=f}/\s.heap.get? b=Z {cls:=.type "list",dict:=c,data:=.seq a n2,slots:=e} /\
    Fh A.in1 s items.toList a.toList r/\R (.ok (.ret (.bool r))) s):=by
 intro prog w A R s h
 obtain⟨m,g,d,o,os⟩:=s;obtain⟨i,j,k,h⟩:=h
 have p:=AutoSeq1.sub_list_list
 wp_walk using Eu i,Eu j
 exact#[Ld plain_eq_loop _,IM entry_eq_loop (by
  rw[Around.under_plainId plain_eq_loop _]
  exact mE l b items a n n2 dd c f e r _ 0 rfl prog w A R _ #[i,j,k,#[F2 _,F2 _],h])]
end
section
variable{prog:AI}{w:Ah}{A:Ag}{s:Ab}
theorem mF{l b:Ac}{a:Array Aa}{r:Bool}{Q:AJ}(m:IsTup s.heap l items)(o:IsTup s.heap b a)(p:Fh A.in1 s items.toList a.toList r)
  (q:A.units<Aq) (h:Q (.bool r) s):wpAny (Af prog w) A (richCompare .Lt (.ref l) (.ref b)) Q E s:=by
 obtain⟨⟨cls,t,data,u⟩,i,j,n,hd⟩:=id m
 obtain⟨⟨k,f,data2,g⟩,c,d,n2,e⟩:=id o
 simp only at j hd d e
 subst j hd d e
 exact richCompare_meets_room (op:=.Lt) #[_,i,rfl] #[_,c,rfl] PySem.F.slot_tuple_lt PySem.F.entry_tuple_lt (PySem.F.args_tuple_lt_2 _ _) (mD l b items a n n2 t f u g r)
  #[i,c,p,show Value.bool r≠Value.notImplemented/\Q (.bool r) s from#[(λx=>nomatch x),h]] q
theorem mG{l b:Ac}{a:Array Aa}{r:Bool}{n n2:Nat}{c:O Ac}{e d:Array (O Aa)}{Q:AJ}(f:s.heap.get? l=Z {cls:=.type "list",dict:=dd,data:=.seq items n,slots:=e})(g:s.heap.get? b=Z {cls:=.type "list",dict:=c,data:=.seq a n2,slots:=d})(i:Fh A.in1 s items.toList a.toList r)
  (j:A.units<Aq) (h:Q (.bool r) s):wpAny (Af prog w) A (richCompare .Lt (.ref l) (.ref b)) Q E s:=
 richCompare_meets_room (op:=.Lt) #[_,f,rfl] #[_,g,rfl] PySem.F.slot_list_lt PySem.F.entry_list_lt (PySem.F.args_list_lt_2 _ _) (Xc l b items a n n2 dd c e d r)
  #[f,g,i,show Value.bool r≠Value.notImplemented/\Q (.bool r) s from#[(λx=>nomatch x),h]] j
end
noncomputable def mH:V->V->O Bool
 |.int i,.int j=>Z (decide (i<j))
 |.str a,.str b=>Z (decide (a.cps.toList<b.cps.toList))
 |_,_=>J
noncomputable def Bi:U V->U V->O Bool
 |[],[]=>Z O'
 |[],_::_=>Z J'
 |_::_,[]=>Z O'
 |x::a,y::b=>if(WX x&&WX y)=J' then(if lZ x y=J' then Bi a b else mH x y)else J
theorem RK(x:Ae):x.cps.toList.length=x.length:=by simp[Str.length]
def MA(K:Am):Sp:=λb H Q _=>∃(a:Ac)(ns:U Int),b=[.ref a]/\BF K H a (ns.map V.int)/\ns.length<=63/\∀c,Q (.bl J') c
theorem Xd{p:Ac}{o:HO}(h:H p=J):Ai H (AN H p o):=λb u e=>Zq (ZV e h) ▸ e
theorem IN{A B:Prop}(h:A):(if J'=J' then A else B):=by grind
theorem IP{A B:Prop}(h:B):(if O'=J' then A else B):=by grind
inductive Kd where
 |l|d|i (ns:List Ae) (c:Ae)
variable{fl k':Kd}
noncomputable def OE(K:Am)(c:Ae):Ac:=match PySem.W.nsIn K BN c with
 |some (Z (.ref C))=>C
 |_=>0
inductive D where
 |non|bl (b:Bool)|int (i:Int)|str (x:Ae)|ty (n:String)|tup (xs:List D)|lst (xs:List D) (b:Kd:=.l)
variable{xs:U D}
abbrev D3:=U D->O D
abbrev A2:=O (U D)
noncomputable def RL:D->At
 |.int i=>.int i
 |.str x=>.str x
 |_=>.non
def MB:D->KT
 |.tup l=>.tup (l.map RL)
 |d=>.at (RL d)
def IQ:U D->U KT
 |k::_::r=>MB k::IQ r
 |_=>[]
def CO(K:Am)(b:Kd)(a:Ac)(xs:U D)(vs:U V):HO:=match b with
 |.l=>.lst vs
 |.d=>.dct (IQ xs) vs
 |.i ns c=>.ins (OE K c) (a-1) (ns.zip vs)
def F3:HO->Bool
 |.lst _=>J'
 |.dct _ _=>J'
 |.ins _ _ _=>J'
 |_=>O'
theorem Xe(K:Am)(b:Kd)(a:Ac)(xs:U D)(vs:U V):F3 (CO K b a xs vs)=J':=by cases b<;>rfl
abbrev Fb:=Ac->Prop
def KL(K:Am)(a:Ac)(vs:U V):Prop:=BF K (λ_=>J) a vs
def LstAt(K:Am)(N:Fb)(H:Hp)(a:Ac)(o:HO):Prop:=(¬ N a/\Rd H a o)\/∃b,o=.lst b/\KL K a b
theorem KL.sq{K:Am}(h:KL K a vs):BF K H a vs:=by
 rcases h with(h|⟨o,h⟩)|h
 ·cases h
 ·cases h
 ·exact .inr h
theorem LstAt.sq{K:Am}{N:Fb}(h:LstAt K N H a (.lst vs)):BF K H a vs:=by
 rcases h with⟨_,h⟩|⟨b,e,h⟩
 ·exact .inl h
 ·cases e;exact h.sq
theorem LstAt.of{K:Am}{N:Fb}{o:HO}(n:¬ N a)(h:H a=Z o):LstAt K N H a o:=.inl #[n,.inl h]
theorem LstAt.of_sq{K:Am}(h:BF K H a vs):LstAt K (λ_=>False) H a (.lst vs):=by
 rcases h with h|h
 ·exact .inl #[id,h]
 ·exact .inr #[vs,rfl,.inr h]
mutual
def As(K:Am)(N:Fb)(H:Hp):D->V->Prop
 |.non,v=>v=.non
 |.bl b,v=>v=.bl b
 |.int i,v=>v=.int i
 |.str x,v=>v=.str x
 |.ty n,v=>v=.ty n
 |.tup d,v=>∃a c,v=.ref a/\B1 K H a c/\Ad K N H d c
 |.lst d b,v=>∃a c,v=.ref a/\LstAt K N H a (CO K b a d c)/\Ad K N H d c
def Ad(K:Am)(N:Fb)(H:Hp):U D->U V->Prop
 |[],a=>a=[]
 |x::b,a=>∃v r,a=v::r/\As K N H x v/\Ad K N H b r
end
structure Step(M N N':Fb)(H H':Hp):Prop where
 kp:∀a o,H a=Z o->(¬ N a\/M a\/F3 o=O')->H' a=Z o
 nw:∀a,N' a->N a\/H a=J
theorem Step.trans{M N d f:Fb}{g i:Hp}(a:Step M N d H g)(b:Step M d f g i):Step M N f H i where
 kp:=λc o h z=>by
  refine b.kp c o (a.kp c o h z) ?_
  rcases z with z|z|z
  ·refine .inl λn1=>?_
   rcases a.nw c n1 with q|q
   ·exact z q
   ·rw[h]at q;cases q
  ·exact .inr (.inl z)
  ·exact .inr (.inr z)
 nw:=λc n2=>by
  rcases b.nw c n2 with q|q
  ·exact a.nw c q
  ·cases e:H c with
   |none=>exact .inr rfl
   |some o=>
    refine .inl (Classical.byContradiction λz=>?_)
    rw[a.kp c o e (.inl z)]at q
    cases q
theorem Step.of_same{M N:Fb}(s:Ai H H'):Step M N N H H':=#[λa o h _=>s a o h,λa h=>.inl h]
theorem Step.refl{M N:Fb}:Step M N N H H:=Step.of_same (Ai.refl H)
theorem Rd.step{M N b:Fb}{u:HO}(s:Step M N b H H')(h:Rd H a u)(z:¬ N a\/M a\/F3 u=O'):Rd H' a u:=by
 rcases h with h|⟨o,h⟩
 ·exact .inl (s.kp a u h z)
 ·exact .inr #[o,s.kp a _ h (.inr (.inr rfl))]
theorem Rd.same{u:HO}(s:Ai H H')(h:Rd H a u):Rd H' a u:=by
 rcases h with h|⟨o,h⟩
 ·exact .inl (s a u h)
 ·exact .inr #[o,s a _ h]
theorem B1.step{K:Am}{M N b:Fb}{xs:U V}(s:Step M N b H H')(h:B1 K H a xs):B1 K H' a xs:=by
 rcases h with h|h
 ·exact .inl (h.step s (.inr (.inr rfl)))
 ·exact .inr h
theorem B1.same{K:Am}{xs:U V}(s:Ai H H')(h:B1 K H a xs):B1 K H' a xs:=B1.step (M:=λ_=>False) (N:=λ_=>False) (Step.of_same s) h
theorem Rd.has{u:HO}(h:Rd H a u):H a≠J:=by
 rcases h with h|⟨o,h⟩<;>rw[h]<;>exact λe=>nomatch e
mutual
theorem As.step{K:Am}{M N f:Fb}{H H':Hp}(s:Step M N f H H'):∀(d:D)(v:V),As K N H d v->As K f H' d v
 |.non,_,h=>h
 |.bl _,_,h=>h
 |.int _,_,h=>h
 |.str _,_,h=>h
 |.ty _,_,h=>h
 |.tup c,v,h=>by
  erw[As]at h ⊢
  obtain⟨a,b,e,q,r⟩:=h
  exact#[a,b,e,q.step s,Ad.step s c b r]
 |.lst c i,v,h=>by
  erw[As]at h ⊢
  obtain⟨a,b,e,q,r⟩:=h
  refine#[a,b,e,?_,Ad.step s c b r]
  rcases q with⟨n,q⟩|q
  ·refine .inl #[λg=>?_,q.step s (.inl n)]
   rcases s.nw a g with z|z
   ·exact n z
   ·exact q.has z
  ·exact .inr q
theorem Ad.step{K:Am}{M N a:Fb}{H H':Hp}(s:Step M N a H H'):∀(xs:U D)(vs:U V),Ad K N H xs vs->Ad K a H' xs vs
 |[],_,h=>h
 |x::xs,vs,h=>by
  erw[Ad]at h ⊢
  obtain⟨v,r,e,q,t⟩:=h
  exact#[v,r,e,As.step s x v q,Ad.step s xs r t]
end
section
variable{K:Am}{M N N':Fb}{d:D}{v:V}{ys:U D}{ws:U V}
theorem As.same(h:As K N H d v)(s:Ai H H'):As K N H' d v:=As.step (M:=N) (Step.of_same s) d v h
theorem Ad.same(h:Ad K N H xs vs)(s:Ai H H'):Ad K N H' xs vs:=Ad.step (M:=N) (Step.of_same s) xs vs h
theorem As.nw(h:As K N H d v)(z:∀a,N' a->N a\/H a=J):As K N' H d v:=As.step (M:=N) (H':=H) #[λ_ _ h _=>h,z] d v h
theorem Ad.nw(h:Ad K N H xs vs)(z:∀a,N' a->N a\/H a=J):Ad K N' H xs vs:=Ad.step (M:=N) (H':=H) #[λ_ _ h _=>h,z] xs vs h
theorem Ad.length:∀{xs:U D}{vs:U V},Ad K N H xs vs->xs.length=vs.length
 |[],_,h=>by erw[Ad]at h;subst h;rfl
 |_::xs,_,h=>by erw[Ad]at h;obtain⟨v,r,e,_,t⟩:=h;subst e;simp[Ad.length t]
theorem Ad.get:∀{xs:U D}{vs:U V}{i:Nat}{d:D},Ad K N H xs vs->xs[i]?=Z d->∃v,vs[i]?=Z v/\As K N H d v
 |[],_,i,d,_,e=>by simp at e
 |x::xs,_,0,d,h,e=>by
  erw[Ad]at h;obtain⟨v,r,a,q,_⟩:=h;subst a
  simp at e;subst e;exact#[v,rfl,q]
 |x::xs,_,i+1,d,h,e=>by
  erw[Ad]at h;obtain⟨v,r,a,_,t⟩:=h;subst a
  obtain⟨w,b,c⟩:=Ad.get (i:=i) t (by simpa using e)
  exact#[w,by simpa using b,c]
theorem Ad.get':∀{xs:U D}{vs:U V}{i:Nat}{v:V},Ad K N H xs vs->vs[i]?=Z v->∃d,xs[i]?=Z d/\As K N H d v:=by
 intro xs vs i v h e
 have f:=h.length
 have g:i<vs.length:=(Cm.mp e).1
 have a:xs[i]?=Z xs[i]:=B8 (by lia)
 obtain⟨w,b,c⟩:=h.get a
 rw[e]at b;cases b
 exact#[_,a,c]
theorem Ad.append:∀{xs ys:U D}{vs ws:U V},Ad K N H xs vs->Ad K N H ys ws->Ad K N H (xs++ys) (vs++ws)
 |[],_,_,_,h,a=>by erw[Ad]at h;subst h;exact a
 |x::xs,ys,_,ws,h,a=>by
  erw[Ad]at h;obtain⟨v,r,e,q,t⟩:=h;subst e
  erw[G0,Ad]
  exact#[v,r++ws,rfl,q,Ad.append t a]
theorem Ad.nil:Ad K N H [] []:=by erw[Ad]
theorem Ad.cons(h:As K N H d v)(t:Ad K N H xs vs):Ad K N H (d::xs) (v::vs):=by erw[Ad];exact#[v,vs,rfl,h,t]
theorem Ad.take:∀{xs:U D}{vs:U V}(n:Nat),Ad K N H xs vs->Ad K N H (xs.take n) (vs.take n)
 |_,_,0,_=>by simpa using Ad.nil
 |[],_,n+1,h=>by erw[Ad]at h;subst h;simpa using Ad.nil
 |x::xs,_,n+1,h=>by
  erw[Ad]at h;obtain⟨v,r,e,q,t⟩:=h;subst e
  simpa using Ad.cons q (Ad.take n t)
theorem Ad.drop:∀{xs:U D}{vs:U V}(n:Nat),Ad K N H xs vs->Ad K N H (xs.drop n) (vs.drop n)
 |_,_,0,h=>by simpa using h
 |[],_,n+1,h=>by erw[Ad]at h;subst h;simpa using Ad.nil
 |x::xs,_,n+1,h=>by
  erw[Ad]at h;obtain⟨v,r,e,q,t⟩:=h;subst e
  simpa using Ad.drop n t
theorem Ad.set:∀{xs:U D}{vs:U V}(i:Nat),Ad K N H xs vs->As K N H d v->Ad K N H (xs.set i d) (vs.set i v)
 |[],_,_,h,_=>by erw[Ad]at h;subst h;simpa using Ad.nil
 |x::xs,_,0,h,q=>by
  erw[Ad]at h;obtain⟨v,r,e,_,t⟩:=h;subst e
  simpa using Ad.cons q t
 |x::xs,_,i+1,h,q=>by
  erw[Ad]at h;obtain⟨v,r,e,a,t⟩:=h;subst e
  simpa using Ad.cons a (Ad.set i t q)
theorem Ad.ints:∀(ns:U Int),Ad K N H (ns.map D.int) (ns.map V.int)
 |[]=>Ad.nil
 |n::ns=>Ad.cons (by erw[As]) (Ad.ints ns)
end
inductive Sl where
 |no|val (d:D)|own (xs:List D) (b:Kd:=.l) (oa:Option Ac:=J)|lent (xs:List D) (b:Kd:=.l)|exc (c:Ae)
def E1(e C:Ac)(h:Ak):Prop:=∃o a,h.get? e=Z o/\o.cls=.ref C/\o.data=.fields a/\a[2]?=Z .none
abbrev VE:=U Sl
variable{ρ:VE}{fx:VE->O (D×VE)}{fo:VE->O Sl}{lo:VE->O (O Int)}{ff:VE->O (U D)}
abbrev Do:=VE->O (U Sl)
variable{fa:Do}
abbrev AB:=VE->O D
def Nf(M:Fb)(ρ:VE)(I:St):Fb:=λa=>M a\/∃(i:Nat)(c:U D)(b:Kd)(d:O Ac),ρ[i]?=Z (Sl.own c b d)/\I[i]?=Z (Z (V.ref a))
def Xf(K:Am)(M N:Fb)(H0 H:Hp):Sl->O V->Prop
 |.no,_=>True
 |.val d,o=>∃v,o=Z v/\As K N H d v
 |.own e b g,o=>∃a f,o=Z (.ref a)/\(H0 a=J/\∀c,g=Z c->c=a)/\¬ M a/\H a=Z (CO K b a e f)/\Ad K N H e f
 |.lent e b,o=>∃a f,o=Z (.ref a)/\(M a/\H0 a≠J)/\Rd H a (CO K b a e f)/\Ad K N H e f
 |.exc c,o=>∃a C,o=Z (.ref a)/\PySem.W.nsIn K BN c=Z (Z (.ref C))/\H a=Z (.ext (E1 a C))
structure Bn(K:Am)(M:Fb)(H0:Hp)(ρ:VE)(I:St)(H:Hp):Prop where
 len:ρ.length=I.length
 same:Ai H0 H
 mh:∀a,M a->H a≠J
 slot:∀(i:Nat) (s:Sl),ρ[i]?=Z s->Xf K M (Nf M ρ I) H0 H s (I[i]?.join)
 inj:∀(i j:Nat) (xs ys:List D) (b b':Kd) (oa oa':Option Ac) (a:Ac),ρ[i]?=Z (Sl.own xs b oa)->ρ[j]?=Z (Sl.own ys b' oa')->I[i]?=Z (Z (V.ref a))->I[j]?=Z (Z (V.ref a))->i=j
section
variable{K:Am}{M:Fb}
theorem Bn.nh(R:Bn K M H0 ρ I H):∀a,Nf M ρ I a->H a≠J:=by
 rintro a (h|⟨i,f,g,j,c,d⟩)
 ·exact R.mh a h
 ·obtain⟨b,k,e,_,_,q,_⟩:=R.slot i _ c
  rw[d]at e
  rw[<- (show b=a by simpa using e.symm),q];exact λz=>nomatch z
theorem Bn.st(R:Bn K M H0 ρ I H)(s:Ai H H'):Bn K M H0 ρ I H' where
 len:=R.len
 same:=R.same.trans s
 mh:=λa h z=>R.mh a h (s.free z)
 slot:=λi k e=>by
  have q:=R.slot i k e
  cases k with
  |no=>trivial
  |val d=>obtain⟨v,e,h⟩:=q;exact#[v,e,h.same s]
  |own l m o=>obtain⟨a,g,e,b,f,j,n⟩:=q;exact#[a,g,e,b,f,s _ _ j,n.same s]
  |lent l m=>obtain⟨a,g,e,b,f,j⟩:=q;exact#[a,g,e,b,f.same s,j.same s]
  |exc c=>obtain⟨a,C,e,b,f⟩:=q;exact#[a,C,e,b,s _ _ f]
 inj:=R.inj
theorem Bn.fresh(R:Bn K M H0 ρ I H){p:Ac}(h:H p=J):¬ Nf M ρ I p:=λn=>R.nh p n h
end
def tD(K:Am)(M:Fb)(H0:Hp)(f:AB):TE:=λc H Q=>∃a d,Bn K M H0 a c H/\f a=Z d/\∀v b,Ai H b->As K (Nf M a c) b d v->Q v b
def Aw(K:Am)(N:Fb)(H:Hp)(d:D)(v:V):Prop:=match d with
 |.lst e=>∃a c,v=.ref a/\BF K H a c/\Ad K N H e c
 |.lst e b=>∃a c,v=.ref a/\Rd H a (CO K b a e c)/\Ad K N H e c
 |d=>As K N H d v
theorem As.p{K:Am}{N:Fb}{d:D}{v:V}(h:As K N H d v):Aw K N H d v:=by
 cases d with
 |lst f c=>
  obtain⟨a,b,e,q,r⟩:=h
  cases c with
  |l=>exact#[a,b,e,LstAt.sq q,r]
  |_=>
   rcases q with⟨_,q⟩|⟨g,z,_⟩
   ·exact#[a,b,e,q,r]
   ·cases z
 |_=>exact h
theorem Aw.same{K:Am}{N:Fb}{d:D}{v:V}(h:Aw K N H d v)(s:Ai H H'):Aw K N H' d v:=by
 cases d with
 |lst f c=>
  cases c with
  |l=>obtain⟨a,b,e,q,r⟩:=h;exact#[a,b,e,s.seq q,r.same s]
  |_=>obtain⟨a,b,e,q,r⟩:=h;exact#[a,b,e,q.same s,r.same s]
 |_=>exact As.same h s
theorem RM{K:Am}{N:Fb}(h:Rd H a (CO K fl a xs vs))(r:Ad K N H xs vs):Aw K N H (.lst xs fl) (.ref a):=by
 cases fl with
 |l=>exact#[a,vs,rfl,.inl h,r]
 |_=>exact#[a,vs,rfl,h,r]
def tP(K:Am)(M:Fb)(H0:Hp)(f:AB):TE:=λc H Q=>∃a d,Bn K M H0 a c H/\f a=Z d/\∀v b,Ai H b->Aw K (Nf M a c) b d v->Q v b
def ED(fl:Kd)(K:Am)(M:Fb)(H0:Hp)(f:VE->A2):TE:=λg H Q=>∃d e,Bn K M H0 d g H/\f d=Z e /\
 ∀a h c,Ai H c->H a=J->c a=Z (CO K fl a e h)->Ad K (λb=>Nf M d g b\/b=a) c e h->Q (.ref a) c
@[reducible] def tF(K:Am)(M:Fb)(H0:Hp)(f:VE->A2):TE:=ED .l K M H0 f
def BC(K:Am)(M:Fb)(H0:Hp)(f:VE->O Bool):TT:=λd H Q=>∃a b,Bn K M H0 a d H/\f a=Z b/\∀c,Ai H c->Q b c
structure JE(X:Cx)(e:Expr)(t:TE):Prop where h:PE X e t
structure JT(X:Cx)(e:Expr)(t:TT):Prop where h:PT X e t
structure JW(X:Cx)(e:Expr)(t:TT):Prop where h:PW X e t
structure JA(X:Cx)(e:List Expr)(t:TA):Prop where h:PA X e t
structure JS(X:Cx)(e:Au)(t:TS):Prop where h:PS X e t
structure JB(X:Cx)(e:List Au)(t:TS):Prop where h:Ez X e t
structure JI(X:Cx)(tg e:Expr)(t:TI):Prop where h:PI X tg e t
structure JG(X:Cx)(e:Expr)(t:TG):Prop where h:PG X e t
structure JK(X:Cx)(e:List Expr)(t:Hy):Prop where h:Mj X e t
structure JO(X:Cx)(e:Option Expr)(t:TO):Prop where h:PO X e t
structure JF(X:Cx)(e:List Expr)(t:TT):Prop where h:Gu X e t
theorem PE.mono{e:Expr}{t t':TE}(h:PE X e t)(m:∀I H Q,t' I H Q->t I H Q):PE X e t':=λa s I H Q b q=>h a s I H Q b (m I H Q q)
theorem PT.mono{e:Expr}{t t':TT}(h:PT X e t)(m:∀I H Q,t' I H Q->t I H Q):PT X e t':=λa s I H Q b q=>h a s I H Q b (m I H Q q)
theorem PW.mono{e:Expr}{t t':TT}(h:PW X e t)(m:∀I H Q,t' I H Q->t I H Q):PW X e t':=λwh a s I H Q b q=>h wh a s I H Q b (m I H Q q)
theorem PA.mono{e:U Expr}{t t':TA}(h:PA X e t)(m:∀I H Q,t' I H Q->t I H Q):PA X e t':=λb a s I H Q c q=>h b a s I H Q c (m I H Q q)
theorem PS.mono{e:Au}{t t':TS}(h:PS X e t)(m:∀D I H,t' D I H->t D I H):PS X e t':=λa s I H D b q=>h a s I H D b (m D I H q)
theorem Ez.mono{e:U Au}{t t':TS}(h:Ez X e t)(m:∀D I H,t' D I H->t D I H):Ez X e t':=λa s I H D b q=>h a s I H D b (m D I H q)
section
variable{K:Am}{M:Fb}{e a b:Expr}{f g:AB}
theorem PE.p(h:PE X e (tD K M H0 f)):PE X e (tP K M H0 f):=h.mono λc H Q ⟨a,d,R,e,q⟩=>#[a,d,R,e,λv b s z=>q v b s z.p]
theorem Xg(h:JE X e (tD K M H0 f)):JE X e (tP K M H0 f):=#[PE.p h.h]
@[simp] def Zr(o:A2):O D:=o.map D.lst
theorem PE.fd{f:VE->A2}(h:PE X e (tF K M H0 f)):PE X e (tD K M H0 λρ=>Zr (f ρ)):=h.mono λo H Q c=>by
 obtain⟨ρ,d,R,e,q⟩:=c
 obtain⟨g,i,e⟩:=BG.mp e
 cases e
 refine#[ρ,g,R,i,λa j p s k l m=>q _ _ s ?_]
 refine#[a,j,rfl,.of (R.fresh k) l,m.nw λb n=>.inl (.inl n)]
theorem mI{f:VE->A2}(h:JE X e (tF K M H0 f)):JE X e (tD K M H0 λρ=>Zr (f ρ)):=#[PE.fd h.h]
@[simp] def A1(ρ:VE)(i:Nat):O D:=match ρ[i]? with
  |some (.val d)=>Z d
  |_=>J
@[simp] noncomputable def Bd(ρ:VE)(i:Nat):O D:=match ρ[i]? with
  |some (.val d)=>Z d
  |some (.own a b _)=>Z (.lst a b)
  |some (.lent a b)=>Z (.lst a b)
  |_=>J
theorem mJ{i:Nat}{d:D}(h:A1 ρ i=Z d):ρ[i]?=Z (.val d):=by grind [A1]
theorem mK{i:Nat}{x:Ae}(a:NV X i x):PE X (.Name x pos) (tD K M H0 λρ=>A1 ρ i):=
 (Gs a).mono λc H Q b=>by
  obtain⟨ρ,d,R,e,q⟩:=b
  obtain⟨v,f,h⟩:=R.slot i _ (mJ e)
  refine#[v,?_,q v H (Ai.refl H) h]
  grind
theorem mL{i:Nat}{x:Ae}(j:NV X i x):PE X (.Name x pos) (tP K M H0 λρ=>Bd ρ i):=
 (Gs j).mono λc H Q k=>by
  obtain⟨ρ,d,R,e,q⟩:=k
  try dsimp only at e q
  have fin:∀v,c[i]?.join=Z v->Aw K (Nf M ρ c) H d v->∃v,c[i]?=Z (Z v)/\Q v H:=λv b h=>by
   grind [Ai.refl]
  unfold Bd at e
  split at e
  ·next h=>cases e;obtain⟨v,b,h⟩:=R.slot i _ h;exact fin v b h.p
  ·next h=>cases e;obtain⟨a,l,b,_,_,f,g⟩:=R.slot i _ h;exact fin _ b (RM (.inl f) g)
  ·next h=>cases e;obtain⟨a,l,b,_,f,g⟩:=R.slot i _ h;exact fin _ b (RM f g)
  ·cases e
theorem Le{d:D}{v:V}{e:Expr}(h:PE X e (tC v))(hd:∀N H,As K N H d v):PE X e (tD K M H0 λ_=>Z d):=
 h.mono λa H Q ⟨b,c,R,e,q⟩=>by(try dsimp only at e q);cases e;exact q v H (Ai.refl H) (hd _ _)
theorem Xh {i j pos}:JE X (.Constant (.int i) j pos) (tD K M H0 λ_=>Z (.int i)):=#[Le jM λ_ _=>by erw[As]]
theorem mM {i j pos}:JE X (.Constant (.bool i) j pos) (tD K M H0 λ_=>Z (.bl i)):=#[Le jN λ_ _=>by erw[As]]
theorem mO {j pos}:JE X (.Constant .none j pos) (tD K M H0 λ_=>Z .non):=#[Le jP λ_ _=>by erw[As]]
theorem mP {i j pos}:JE X (.Constant (.str i) j pos) (tD K M H0 λ_=>Z (.str i)):=#[Le jQ λ_ _=>by erw[As]]
def Dx(K:Am)(r:R2)(F:D->D->O D):Prop:=∀(N:Fb)(H:Hp)(x y:V)(c e d:D)(Q:VK),(∀a,N a->H a≠J)->Aw K N H c x->Aw K N H e y->F c e=Z d ->
 (∀v b,Ai H b->As K N b d v->Q v b)->r x y H Q
@[simp] def Za(F:D->D->O D)(f g:AB):AB:=λa=>(f a).bind λx=>(g a).bind λy=>F x y
theorem Xi{F:D->D->O D}{f g:AB}{d:D}(h:Za F f g ρ=Z d):∃x y,f ρ=Z x/\g ρ=Z y/\F x y=Z d:=by
 unfold Za at h
 cases a:f ρ with
 |none=>rw[a]at h;cases h
 |some x=>
  cases b:g ρ with
  |none=>rw[a,b]at h;cases h
  |some y=>rw[a,b]at h;exact#[x,y,rfl,rfl,h]
theorem OG{r:R2}{F:D->D->O D}(i:Dx K r F){Q:VK}(h:tD K M H0 (Za F f g) I H Q):JR r (tP K M H0 f) (tP K M H0 g) I H Q:=by
 obtain⟨a,d,R,e,q⟩:=h
 obtain⟨x,y,j,k,l⟩:=Xi e
 exact#[a,x,R,j,λv z b m=>#[a,y,R.st b,k,λu n c o=>i (Nf M a I) n v u x y d Q ((R.st b).st c).nh (m.same c) o l λw p s t=>q w p ((b.trans c).trans s) t]]
theorem Lf{op:Operator}{r:R2}{F:D->D->O D}(c:B2 X (Gj op) r)(d:Dx K r F)(e:PE X a (tP K M H0 f))(i:PE X b (tP K M H0 g)):PE X (.BinOp a op b pos) (tD K M H0 (Za F f g)):=
 (kJ c e i).mono λ_ _ _ h=>OG d h
theorem OH{op:CmpOp}{r:R2}{F:D->D->O D}(c:B2 X (C8 op) r)(d:Dx K r F)(e:PE X a (tP K M H0 f))(i:PE X b (tP K M H0 g))(j:FA op b=O'):PE X (.Compare a [op] [b] pos) (tD K M H0 (Za F f g)):=
 (kU c e i j).mono λ_ _ _ h=>OG d h
theorem Xj{r:R2}{F:D->D->O D}(c:Gq X r)(d:Dx K r F)(e:PE X a (tP K M H0 f))(i:PE X b (tP K M H0 g))(j:Lb b):PE X (.Subscript a b pos) (tD K M H0 (Za F f g)):=
 (WR c e i j).mono λ_ _ _ h=>OG d h
@[simp] def AR:O D->O Bool
  |some (.bl b)=>Z b
  |_=>J
theorem Lg{o:O D}{b:Bool}(h:AR o=Z b):o=Z (.bl b):=by
 unfold AR at h
 grind
theorem mQ{t:TE}{Q:Bool->Hp->Prop}(a:∀I H Q,tD K M H0 f I H Q->t I H Q)(h:BC K M H0 (λρ=>AR (f ρ)) I H Q):tB t I H Q:=by
 obtain⟨ρ,b,R,e,q⟩:=h
 refine a I H _ #[ρ,.bl b,R,Lg e,λv d s c=>?_]
 erw[As]at c
 simp_all
theorem HJ{op:CmpOp}{r:R2}{F:D->D->O D}(c:B2 X (C8 op) r)(d:Dx K r F)(e:PE X a (tP K M H0 f))(h:PE X b (tP K M H0 g))(i:FA op b=O'):PT X (.Compare a [op] [b] pos) (BC K M H0 λρ=>AR (Za F f g ρ)):=
 (Rp c e h i).mono λ_ _ _ q=>mQ (t:=JR r (tP K M H0 f) (tP K M H0 g)) (λ_ _ _ z=>OG d z) q
@[simp] def Z2(o:O Bool):O Bool:=o.map (!·)
@[simp] noncomputable def FH(o p:O Bool):O Bool:=match o with
  |some J'=>p
  |some O'=>Z O'
  |none=>J
@[simp] def Dy(o p:O Bool):O Bool:=match o with
  |some J'=>Z J'
  |some O'=>p
  |none=>J
section
variable{c c':VE->O Bool}{Ax:U Expr}
theorem mR(h:JT X a (BC K M H0 c)):JT X (.UnaryOp .Not a pos) (BC K M H0 λρ=>Z2 (c ρ)):=#[have h:=h.h;(jX h).mono λg H Q d=>by
 obtain⟨ρ,b,R,e,q⟩:=d
 obtain⟨k,f,e⟩:=BG.mp e
 cases e;exact#[ρ,k,R,f,q]]
theorem mS(h:JT X a (BC K M H0 c)):JW X (.BoolOp .And [a] pos) (BC K M H0 c):=#[have h:=h.h;jV h]
theorem mT(h:JT X a (BC K M H0 c)):JW X (.BoolOp .Or [a] pos) (BC K M H0 c):=#[have h:=h.h;V9 h]
theorem mU{Q:Bool->Hp->Prop}(h:BC K M H0 (λρ=>FH (c ρ) (c' ρ)) I H Q):V7 (BC K M H0 c) (BC K M H0 c') I H Q:=by
 obtain⟨ρ,b,R,e,q⟩:=h
 try dsimp only at e q
 cases a:c ρ with
 |none=>rw[a]at e;cases e
 |some k=>
  rw[a]at e
  refine#[ρ,k,R,a,λd s=>?_]
  cases k with
  |true=>exact#[ρ,b,R.st s,e,λf g=>q f (s.trans g)]
  |false=>cases e;exact q d s
theorem mV{Q:Bool->Hp->Prop}(h:BC K M H0 (λρ=>Dy (c ρ) (c' ρ)) I H Q):V8 (BC K M H0 c) (BC K M H0 c') I H Q:=by
 obtain⟨ρ,b,R,e,q⟩:=h
 try dsimp only at e q
 cases a:c ρ with
 |none=>rw[a]at e;cases e
 |some k=>
  rw[a]at e
  refine#[ρ,k,R,a,λd s=>?_]
  cases k with
  |false=>exact#[ρ,b,R.st s,e,λf g=>q f (s.trans g)]
  |true=>cases e;exact q d s
theorem mW(h:JT X a (BC K M H0 c))(h':JW X (.BoolOp .And (b::Ax) pos) (BC K M H0 c')):JW X (.BoolOp .And (a::b::Ax) pos) (BC K M H0 λρ=>FH (c ρ) (c' ρ)):=#[have h:=h.h;have h':=h'.h;(jW h h').mono λ_ _ _ q=>mU q]
theorem mX(h:JT X a (BC K M H0 c))(h':JW X (.BoolOp .Or (b::Ax) pos) (BC K M H0 c')):JW X (.BoolOp .Or (a::b::Ax) pos) (BC K M H0 λρ=>Dy (c ρ) (c' ρ)):=#[have h:=h.h;have h':=h'.h;(Wa h h').mono λ_ _ _ q=>mV q]
@[simp] def B9(o:O Bool):O D:=o.map D.bl
theorem Lh{Q:VK}(h:tD K M H0 (λρ=>B9 (c ρ)) I H Q):∃ρ b,Bn K M H0 ρ I H/\c ρ=Z b/\∀H',Ai H H'->Q (.bl b) H':=by
 obtain⟨ρ,d,R,e,q⟩:=h
 obtain⟨k,a,e⟩:=BG.mp e
 cases e;exact#[ρ,k,R,a,λH' s=>q _ H' s (by erw[As])]
theorem mY(h:JE X a (tD K M H0 f)):JE X (.UnaryOp .Not a pos) (tD K M H0 λρ=>B9 (Z2 (AR (f ρ)))):=#[have h:=h.h;(j4 h).mono λg H Q q=>by
 obtain⟨ρ,b,R,e,q⟩:=Lh q
 obtain⟨k,c,e⟩:=BG.mp e
 cases e
 refine#[ρ,.bl k,R,Lg c,λv i s d=>?_]
 erw[As]at d
 simp_all]
theorem mZ {op} (h:JE X a (tD K M H0 f)):JE X (.BoolOp op [a] pos) (tD K M H0 λρ=>B9 (AR (f ρ))):=#[have h:=h.h;(j1 h).mono λg H Q q=>by
 obtain⟨ρ,b,R,e,q⟩:=Lh q
 exact#[ρ,.bl b,R,Lg e,λv d s c=>by erw[As]at c;subst c;exact q d s]]
theorem m1(h:JE X a (tD K M H0 f))(h':JE X (.BoolOp .And (b::Ax) pos) (tD K M H0 λρ=>B9 (c' ρ))):JE X (.BoolOp .And (a::b::Ax) pos) (tD K M H0 λρ=>B9 (FH (AR (f ρ)) (c' ρ))):=#[have h:=h.h;have h':=h'.h;(j2 h h').mono λm H Q q=>by
 obtain⟨ρ,b,R,e,q⟩:=Lh q
 cases c:AR (f ρ)with
 |none=>rw[c]at e;cases e
 |some k=>
  refine#[ρ,.bl k,R,Lg c,λv g s i=>?_]
  refine#[k,i,?_]
  rw[c]at e
  cases k with
  |true=>exact#[ρ,.bl b,R.st s,by show B9 (c' ρ)=_;rw[show c' ρ=Z b from e];rfl,λw j l d=>by erw[As]at d;subst d;exact q j (s.trans l)]
  |false=>cases e;exact q g s]
theorem m2(h:JE X a (tD K M H0 f))(h':JE X (.BoolOp .Or (b::Ax) pos) (tD K M H0 λρ=>B9 (c' ρ))):JE X (.BoolOp .Or (a::b::Ax) pos) (tD K M H0 λρ=>B9 (Dy (AR (f ρ)) (c' ρ))):=#[have h:=h.h;have h':=h'.h;(j3 h h').mono λm H Q q=>by
 obtain⟨ρ,b,R,e,q⟩:=Lh q
 cases c:AR (f ρ)with
 |none=>rw[c]at e;cases e
 |some k=>
  refine#[ρ,.bl k,R,Lg c,λv g s i=>?_]
  refine#[k,i,?_]
  rw[c]at e
  cases k with
  |false=>exact#[ρ,.bl b,R.st s,by show B9 (c' ρ)=_;rw[show c' ρ=Z b from e];rfl,λw j l d=>by erw[As]at d;subst d;exact q j (s.trans l)]
  |true=>cases e;exact q g s]
@[simp] def J4{d:Type}(c:O Bool)(a b:O d):O d:=match c with
  |some J'=>a
  |some O'=>b
  |none=>J
theorem m3{k:Expr}(i:JT X k (BC K M H0 c))(j:JE X a (tD K M H0 f))(l:JE X b (tD K M H0 g)):JE X (.IfExp k a b pos) (tD K M H0 λρ=>J4 (c ρ) (f ρ) (g ρ)):=#[have i:=i.h;have j:=j.h;have l:=l.h;(j6 i j l).mono λr H Q p=>by
 obtain⟨ρ,d,R,e,q⟩:=p
 try dsimp only at e q
 cases i:c ρ with
 |none=>rw[i]at e;cases e
 |some k=>
  refine#[ρ,k,R,i,λt s=>?_]
  cases k with
  |true=>rw[i]at e;refine IN ?_;exact#[ρ,d,R.st s,e,λw m n o=>q w m (s.trans n) o]
  |false=>rw[i]at e;refine IP ?_;exact#[ρ,d,R.st s,e,λw m n o=>q w m (s.trans n) o]]
@[simp] def isN:D->Bool
  |.non=>J'
  |_=>O'
@[simp] def Dc(o:O D):O Bool:=o.map isN
theorem Aw.isN{K:Am}{N:Fb}{d:D}{v:V}(h:Aw K N H d v):decide (v=.non)=L2.isN d:=by
 cases d with
 |tup _=>erw[Aw,As]at h;obtain⟨a,b,e,_⟩:=h;subst e;rfl
 |lst _ c=>cases c<;>(obtain⟨a,b,e,_⟩:=h;subst e;rfl)
 |_=>erw[Aw,As]at h;subst h;rfl
theorem m4 {j c} (h:JE X a (tP K M H0 f)):JE X (.Compare a [.Is] [.Constant .none j c] pos) (tD K M H0 λρ=>B9 (Dc (f ρ))):=#[have h:=h.h;(V5 (V3 h)).mono λl H Q q=>by
 obtain⟨ρ,b,R,e,q⟩:=Lh q
 obtain⟨d,g,e⟩:=BG.mp e
 cases e;exact#[ρ,d,R,g,λv i s k=>by dsimp only;rw[k.isN];exact q i s]]
theorem m5 {j c} (h:JE X a (tP K M H0 f)):JE X (.Compare a [.IsNot] [.Constant .none j c] pos) (tD K M H0 λρ=>B9 (Z2 (Dc (f ρ)))):=#[have h:=h.h;(V5 (V4 h)).mono λl H Q q=>by
 obtain⟨ρ,b,R,e,q⟩:=Lh q
 cases g:f ρ with
 |none=>rw[g]at e;cases e
 |some d=>rw[g]at e;cases e;exact#[ρ,d,R,g,λv i s k=>by dsimp only;rw[k.isN];exact q i s]]
theorem na {j c} (h:JE X a (tP K M H0 f)):JT X (.Compare a [.Is] [.Constant .none j c] pos) (BC K M H0 λρ=>Dc (f ρ)):=#[have h:=h.h;(V6 (V3 h)).mono λm H Q g=>by
 obtain⟨ρ,b,R,e,q⟩:=g
 obtain⟨d,i,e⟩:=BG.mp e
 cases e;exact#[ρ,d,R,i,λv k s l=>#[_,rfl,l.isN ▸ q k s]]]
theorem nb {j c} (h:JE X a (tP K M H0 f)):JT X (.Compare a [.IsNot] [.Constant .none j c] pos) (BC K M H0 λρ=>Z2 (Dc (f ρ))):=#[have h:=h.h;(V6 (V4 h)).mono λm H Q i=>by
 obtain⟨ρ,b,R,e,q⟩:=i
 try dsimp only at e q
 cases g:f ρ with
 |none=>rw[g]at e;cases e
 |some d=>rw[g]at e;cases e;exact#[ρ,d,R,g,λv k s l=>#[_,rfl,l.isN ▸ q k s]]]
end
end
theorem ng{e:Expr}{env:Env}(h:∀x p,e≠.Starred x p):AE (e::es) env=(O',Ao e env)::AE es env:=by
 cases e with
 |Starred x p=>exact absurd rfl (h x p)
 |_=>rfl
def ni:Expr->Bool
 |.Starred _ _=>J'
 |_=>O'
theorem Z1{e:Expr}{env:Env}(h:ni e=O'):AE (e::es) env=(O',Ao e env)::AE es env:=ng λx p z=>by subst z;cases h
structure CA(X:Cx)(x:Ae)(e:Expr)(es:List Expr)(pos:Az):Prop where
 d:Cg x
 s:AE (e::es) X.env=(O',Ao e X.env)::AE es X.env
 p:(Ay pos (AE es X.env)).any (·.1)=O'
theorem Fj{x:Ae}{e:Expr}(d:Cg x:=by ext)(s:AE (e::es) X.env=(O',Ao e X.env)::AE es X.env:=by exact Z1 rfl)(p:(Ay pos (AE es X.env)).any (·.1)=O':=by rfl):CA X x e es pos:=#[d,s,p]
structure BA(X:Cx)(x:Ae)(vpos:Az)(m:Ae)(apos:Az)(e:Expr)(cpos:Az):Prop where
 b:Gk (.Name x vpos) m X.env (Ao (.Name x vpos) X.env)=Ao (.Name x vpos) X.env
 f:((Ay cpos (AE [e] X.env)).all (λx=>!x.1)&&(Gm cpos (Gn [] X.env)).all (λx=>x.1.isSome)&&decide ([e].length+([]:List Et).length+(if([]:List Et).isEmpty then 0 else 1)<30))=J'
 l:(apos.endLine==cpos.line)=J'
 s:AE [e] X.env=(O',Ao e X.env)::AE [] X.env
 p:(Ay cpos (AE [] X.env)).any (·.1)=O'
theorem Xk{x:Ae}{c:Az}{m:Ae}{d:Az}{e:Expr}{a:Az}(b:Gk (.Name x c) m X.env (Ao (.Name x c) X.env)=Ao (.Name x c) X.env:=by rfl)
  (f:((Ay a (AE [e] X.env)).all (λx=>!x.1)&&(Gm a (Gn [] X.env)).all (λx=>x.1.isSome)&&decide ([e].length+([]:U Et).length+(if([]:U Et).isEmpty then 0 else 1)<30))=J':=by rfl)
  (l:(d.endLine==a.line)=J':=by rfl) (s:AE [e] X.env=(O',Ao e X.env)::AE [] X.env:=by exact Z1 rfl) (p:(Ay a (AE [] X.env)).any (·.1)=O':=by rfl):BA X x c m d e a:=#[b,f,l,s,p]
def Cn(K:Am)(N:Fb)(H:Hp):Sl->V->Prop
 |.val d,v=>As K N H d v
 |.lent c b,v=>∃a e,v=.ref a/\N a/\Rd H a (CO K b a c e)/\Ad K N H c e
 |_,_=>False
def By(K:Am)(N:Fb)(H:Hp):U Sl->U V->Prop
 |[],a=>a=[]
 |s::b,a=>∃v r,a=v::r/\Cn K N H s v/\By K N H b r
@[simp] noncomputable def pk:Sl->O D
  |.val d=>Z d
  |.lent a b=>Z (.lst a b)
  |.own a b _=>Z (.lst a b)
  |.no=>J
  |.exc _=>J
theorem Cn.same{K:Am}{N:Fb}{s:Sl}{v:V}(h:Cn K N H s v)(sm:Ai H H'):Cn K N H' s v:=by
 cases s with
 |val d=>exact As.same h sm
 |lent b f=>obtain⟨a,g,e,n,q,r⟩:=h;exact#[a,g,e,n,q.same sm,r.same sm]
 |no=>exact h
 |own b f i=>exact h
 |exc c=>exact h
theorem Cn.p{K:Am}{N:Fb}{s:Sl}{v:V}(h:Cn K N H s v){d:D}(b:pk s=Z d):Aw K N H d v:=by
 cases s with
 |val d=>cases b;exact As.p h
 |lent f g=>cases b;obtain⟨a,i,e,n,q,r⟩:=h;subst e;exact RM q r
 |no=>exact BP h
 |own f g j=>exact BP h
 |exc c=>exact BP h
theorem By.length{K:Am}{N:Fb}{H:Hp}:∀{a:U Sl}{vs:U V},By K N H a vs->a.length=vs.length
 |[],_,h=>by cases h;rfl
 |s::a,_,⟨v,r,e,h,t⟩=>by subst e;simp[By.length t]
theorem By.get{K:Am}{N:Fb}{H:Hp}:∀{a:U Sl}{vs:U V}{i:Nat}{s:Sl},By K N H a vs->a[i]?=Z s->∃v,vs[i]?=Z v/\Cn K N H s v
 |[],_,i,s,h,e=>by simp at e
 |_::a,_,0,s,⟨v,r,b,h,t⟩,e=>by subst b;simp at e;subst e;exact#[v,rfl,h]
 |_::a,_,i+1,s,⟨v,r,b,h,t⟩,e=>by
  subst b
  obtain⟨w,c,d⟩:=By.get (i:=i) t (by simpa using e)
  exact#[w,by simpa using c,d]
def CL(K:Am)(M:Fb)(H0:Hp)(f:Do):TA:=λc H Q=>∃a d,Bn K M H0 a c H/\f a=Z d/\∀e b,Ai H b->By K (Nf M a c) b d e->Q e b
def Gv(K:Am)(M:Fb)(H0:Hp)(f:VE->O Sl):TE:=λc H Q=>∃a s,Bn K M H0 a c H/\f a=Z s/\∀v b,Ai H b->Cn K (Nf M a c) b s v->Q v b
@[simp] def Ec(ρ:VE)(i:Nat):O Sl:=match ρ[i]? with
  |some (.val d)=>Z (.val d)
  |some (.own a b _)=>Z (.lent a b)
  |some (.lent a b)=>Z (.lent a b)
  |_=>J
@[simp] def Ed(o:O D):O Sl:=o.map Sl.val
@[simp] noncomputable def Zs{c:Type}(a:O c)(b:O (U c)):O (U c):=a.bind λx=>b.bind λy=>Z (x::y)
theorem HK{c:Type}{a:O c}{b:O (U c)}{l:U c}(h:Zs a b=Z l):∃x y,a=Z x/\b=Z y/\l=x::y:=by
 cases a with
 |none=>cases h
 |some x=>
  cases b<;>simp_all
section
variable{K:Am}{M:Fb}{e a b:Expr}{f g:AB}{f1:VE->O Sl}
theorem nj{i:Nat}{x:Ae}(k:NV X i x):PE X (.Name x pos) (Gv K M H0 λρ=>Ec ρ i):=
 (Gs k).mono λc H Q l=>by
  obtain⟨ρ,d,R,e,q⟩:=l
  try dsimp only at e q
  have fin:∀v,c[i]?.join=Z v->Cn K (Nf M ρ c) H d v->∃v,c[i]?=Z (Z v)/\Q v H:=λv b h=>by
   grind [Ai.refl]
  unfold Ec at e
  split at e
  ·next h=>cases e;obtain⟨v,b,h⟩:=R.slot i _ h;exact fin v b h
  ·next h=>
   cases e
   obtain⟨a,f,b,_,_,g,j⟩:=R.slot i _ h
   refine fin _ b #[a,f,rfl,.inr #[i,_,_,_,h,?_],.inl g,j]
   cases z:c[i]? with
   |none=>rw[z]at b;cases b
   |some o=>rw[z]at b;cases b;rfl
  ·next h=>cases e;obtain⟨a,f,b,m,g,j⟩:=R.slot i _ h;exact fin _ b #[a,f,rfl,.inl m.1,g,j]
  ·cases e
theorem Xl(h:JE X e (tD K M H0 f)):JE X e (Gv K M H0 λρ=>Ed (f ρ)):=#[have h:=h.h;h.mono λi H Q a=>by
 obtain⟨ρ,s,R,e,q⟩:=a
 obtain⟨d,b,e⟩:=BG.mp e
 cases e;exact#[ρ,d,R,b,λv c s g=>q v c s g]]
theorem RN :JA X [] (CL K M H0 λ_=>Z []):=#[Bm.mono λb H Q a=>by
 obtain⟨c,d,R,e,q⟩:=a
 cases e;exact q [] H (Ai.refl H) rfl]
theorem OI(h:JE X e (Gv K M H0 f1))(a:JA X es (CL K M H0 fa))(f:AE (e::es) X.env=(O',Ao e X.env)::AE es X.env:=by exact Z1 rfl):JA X (e::es) (CL K M H0 λρ=>Zs (f1 ρ) (fa ρ)):=#[have h:=h.h;have a:=a.h;(Es h a f).mono λn H Q g=>by
 obtain⟨ρ,o,R,e,q⟩:=g
 obtain⟨s,r,i,j,rfl⟩:=HK e
 exact#[ρ,s,R,i,λv p b k=>#[ρ,r,R.st b,j,λc l d m=>q (v::c) l (b.trans d) #[v,c,rfl,k.same d,m]]]]
@[simp] def Zg:U Sl->A2
  |[]=>Z []
  |.val d::r=>Zs (Z d) (Zg r)
  |_=>J
theorem Li{K:Am}{N:Fb}{H:Hp}:∀{a:U Sl}{vs:U V}{b:U D},By K N H a vs->Zg a=Z b->Ad K N H b vs
 |[],_,_,h,e=>by cases e;cases h;exact Ad.nil
 |.val d::r,_,_,⟨v,t,c,h,f⟩,e=>by
  obtain⟨x,y,g,i,j⟩:=HK e
  cases g;subst c j
  exact Ad.cons h (Li f i)
 |.no::_,_,_,_,e=>nomatch e
 |.own _ _ _::_,_,_,_,e=>nomatch e
 |.lent _ _::_,_,_,_,e=>nomatch e
 |.exc _::_,_,_,_,e=>nomatch e
@[simp] def Zd{a:Type}(o:O (U a)):O (U a):=o.bind λl=>if l.length<=AA then Z l else J
theorem RO{a:Type}{o:O (U a)}{l:U a}(h:Zd o=Z l):o=Z l/\l.length<=AA:=by
 cases o with
 |none=>cases h
 |some x=>
  have b:(if x.length<=AA then Z x else J)=Z l:=h
  grind
theorem ZY{p:Ac}{o:HO}(h:H p=J):Ai H (AN H p o):=λb u e=>Zq (ZV e h) ▸ e
theorem MC{d:Hp}{Q:VK}{p:Ac}(s:Ai H d)(e:d p=J)(h:Ad K (Nf M ρ I) d xs vs)
  (q:∀a vs H',Ai H H'->H a=J->H' a=Z (CO K fl a xs vs)->Ad K (λb=>Nf M ρ I b\/b=a) H' xs vs->Q (.ref a) H'):Q (.ref p) (AN d p (CO K fl p xs vs)):=by
 refine q p vs _ (s.trans (ZY e)) (s.free e) ZZ ?_
 refine(h.nw λb c=>?_).same (ZY e)
 rcases c with c|c
 ·exact .inl c
 ·subst c;exact .inr e
theorem nk(h:JA X es (CL K M H0 fa)):JE X (.List es pos) (tF K M H0 λρ=>Zd ((fa ρ).bind Zg)):=#[have h:=h.h;(lA h).mono λj H Q b=>by
 obtain⟨ρ,k,R,e,q⟩:=b
 obtain⟨e,c⟩:=RO e
 obtain⟨d,f,e⟩:=BL.mp e
 exact#[ρ,d,R,f,λl m g a=>#[(Li a e).length ▸ c,λp i=>MC g i (Li a e) q]]]
theorem nl {c} (h:JA X es (CL K M H0 fa)):JE X (.Tuple es c pos) (tD K M H0 λρ=>(Zd ((fa ρ).bind Zg)).map D.tup):=#[have h:=h.h;(lz h).mono λm H Q f=>by
 obtain⟨ρ,d,R,e,q⟩:=f
 obtain⟨n,a,e⟩:=BG.mp e
 cases e
 obtain⟨e,a⟩:=RO a
 obtain⟨g,i,e⟩:=BL.mp e
 refine#[ρ,g,R,i,λj o k l=>?_]
 have hd:=Li l e
 exact#[hd.length ▸ a,λp b=>q _ _ (k.trans (ZY b)) #[p,j,rfl,B1.of ZZ,hd.same (ZY b)]]]
end
inductive Rv where
 |val (d:D)|own (xs:List D) (b:Kd:=.l)
def MD(K:Am)(N:Fb)(H0 H':Hp):Rv->V->Prop
 |.val d,v=>As K N H' d v
 |.own c b,v=>∃a e,v=.ref a/\H0 a=J/\H' a=Z (CO K b a c e)/\Ad K (λb=>N b\/b=a) H' c e
def AU(K:Am)(F:U Sl->O Rv):Sp:=λd H Q _=>∃N c r,(∀a,N a->H a≠J)/\By K N H c d/\F c=Z r/\∀v b,Ai H b->MD K N H b r v->Q v b
@[simp] noncomputable def Dd:Rv->D
  |.val d=>d
  |.own a b=>.lst a b
@[simp] def HL:Rv->A2
  |.own a=>Z a
  |_=>J
@[simp] def RP:Rv->A2
  |.own a .d=>Z a
  |_=>J
section
variable{K:Am}{M:Fb}{e:Expr}{F:U Sl->O Rv}{k:Nat}{fn:Ac}{fd:B6}{x:Ae}{p:Az}{E:XK}
@[simp] def Zh(F:U Sl->O Rv)(fa:Do):AB:=λa=>(fa a).bind λb=>(F b).map Dd
@[simp] def Dz(F:U Sl->O Rv)(fa:Do):VE->A2:=λa=>(fa a).bind λb=>(F b).bind HL
theorem nq{Q:VK}(h:tD K M H0 (Zh F fa) I H Q):Ou (AU K F) [] E (CL K M H0 fa) I H Q:=by
 obtain⟨f,d,R,e,q⟩:=h
 obtain⟨g,j,e⟩:=BL.mp e
 obtain⟨r,k,e⟩:=BG.mp e
 cases e
 refine#[f,g,R,j,λx y c l=>#[Nf M f I,g,r,(R.st c).nh,by rw[Eb];exact l,k,λv m n i=>q v m (c.trans n) ?_]]
 cases r with
 |val d=>exact i
 |own A B=>
  obtain⟨a,o,p,s,t,u⟩:=i
  exact#[a,o,p,.of (λz=>(R.st c).fresh s z) t,u.nw λb w=>.inl (.inl w)]
@[simp] def IR(F:U Sl->O Rv)(fa:Do):VE->A2:=λa=>(fa a).bind λb=>(F b).bind RP
theorem nr{Q:VK}(h:ED .d K M H0 (IR F fa) I H Q):Ou (AU K F) [] E (CL K M H0 fa) I H Q:=by
 obtain⟨g,d,R,e,q⟩:=h
 obtain⟨b,j,e⟩:=BL.mp e
 cases c:F b with
 |none=>erw[De,c]at e;cases e
 |some r=>
  erw[De,c]at e
  cases r with
  |val d=>cases e
  |own x k=>
   cases k with
   |l=>cases e
   |i _ _=>cases e
   |d=>
    cases e
    refine#[g,b,R,j,λy z f m=>#[Nf M g I,b,_,(R.st f).nh,by rw[Eb];exact m,c,λv n o p=>?_]]
    obtain⟨a,s,rfl,t,u,w⟩:=p
    exact q a s n (f.trans o) (f.free t) u w
theorem nt{Q:VK}(h:tF K M H0 (Dz F fa) I H Q):Ou (AU K F) [] E (CL K M H0 fa) I H Q:=by
 obtain⟨g,d,R,e,q⟩:=h
 obtain⟨b,j,e⟩:=BL.mp e
 cases c:F b with
 |none=>erw[De,c]at e;cases e
 |some r=>
  erw[De,c]at e
  cases r with
  |val d=>cases e
  |own x k=>
   cases k with
   |d=>cases e
   |i _ _=>cases e
   |l=>
    cases e
    refine#[g,b,R,j,λy z f m=>#[Nf M g I,b,_,(R.st f).nh,by rw[Eb];exact m,c,λv n o p=>?_]]
    obtain⟨a,s,rfl,t,u,w⟩:=p
    exact q a s n (f.trans o) (f.free t) u w
theorem nu(G:AQ X.prog X.w X.K X.mg X.base CX k fn fd ps (AU K F))(b:AF k X.A)(c:Gl X x)(f:X.mg x=Z (.ref fn))(g:Hz X.K (.ref fn)=J')(i:Binds X.K fd ps [])(j:EY CX X E)(a:JA X (e::es) (CL K M H0 fa))(hz:CA X x e es pos:=by exact Fj):JE X (.Call (.Name x p) (e::es) [] pos) (tD K M H0 (Zh F fa)):=#[have a:=a.h;(Ov G b c f g i .nil j a hz.d hz.s hz.p).mono λ_ _ _ h=>nq h]
theorem nv(G:AQ X.prog X.w X.K X.mg X.base CX k fn fd ps (AU K F))(b:AF k X.A)(c:Gl X x)(f:X.mg x=Z (.ref fn))(g:Hz X.K (.ref fn)=J')(i:Binds X.K fd ps [])(j:EY CX X E)(a:JA X (e::es) (CL K M H0 fa))(hz:CA X x e es pos:=by exact Fj):JE X (.Call (.Name x p) (e::es) [] pos) (tF K M H0 (Dz F fa)):=#[have a:=a.h;(Ov G b c f g i .nil j a hz.d hz.s hz.p).mono λ_ _ _ h=>nt h]
end
def FJ(K:Am)(r:U V->Hp->VK->Prop)(F:D3):Prop:=∀(N:Fb)(H:Hp)(c:U V)(e:U D)(d:D)(Q:VK),(∀a,N a->H a≠J)->Paired (Aw K N H) e c->F e=Z d ->
 (∀v b,Ai H b->As K N b d v->Q v b)->r c H Q
def OJ(K:Am)(r:U V->Hp->VK->Prop)(F:U D->A2):Prop:=∀(N:Fb)(H:Hp)(b:U V)(c:U D)(d:U D)(Q:VK),(∀a,N a->H a≠J)->Paired (Aw K N H) c b->F c=Z d ->
 (∀e p,H p=J->Ad K N H d e->Q (.ref p) (AN H p (.lst e)))->r b H Q
@[simp] noncomputable def Gw:U Sl->A2
  |[]=>Z []
  |s::r=>Zs (pk s) (Gw r)
theorem OL{K:Am}{N:Fb}{H:Hp}:∀{a:U Sl}{vs:U V}{b:U D},By K N H a vs->Gw a=Z b->Paired (Aw K N H) b vs
 |[],_,_,h,e=>by cases e;cases h;exact .nil
 |s::r,_,_,⟨v,t,c,h,d⟩,e=>by
  obtain⟨x,y,f,g,i⟩:=HK e
  subst c i
  exact .cons (h.p f) (OL d g)
section
variable{K:Am}{M:Fb}{e:Expr}{x:Ae}{p:Az}{r:U V->Hp->VK->Prop}{F:D3}{G:U D->A2}{id:String}
@[simp] def Zl(F:D3)(fa:Do):AB:=λa=>((fa a).bind Gw).bind F
@[simp] def EE(F:U D->A2)(fa:Do):VE->A2:=λa=>((fa a).bind Gw).bind F
theorem Xm(f:FJ K r F){Q:VK}(h:tD K M H0 (Zl F fa) I H Q):Ow r (CL K M H0 fa) I H Q:=by
 obtain⟨a,d,R,e,q⟩:=h
 unfold Zl at e
 cases b:fa a with
 |none=>rw[b]at e;cases e
 |some g=>
  rw[b]at e
  obtain⟨i,j,e⟩:=BL.mp e
  exact#[a,g,R,b,λk l c m=>f (Nf M a I) l k i d Q (R.st c).nh (OL m j) e λv n s o=>q v n (c.trans s) o]
theorem ny(g:OJ K r G){Q:VK}(h:tF K M H0 (EE G fa) I H Q):Ow r (CL K M H0 fa) I H Q:=by
 obtain⟨a,d,R,e,q⟩:=h
 unfold EE at e
 cases b:fa a with
 |none=>rw[b]at e;cases e
 |some i=>
  rw[b]at e
  obtain⟨j,c,e⟩:=BL.mp e
  exact#[a,i,R,b,λk l f m=>g (Nf M a I) l k j d Q (R.st f).nh (OL m c) e λo p c n=>MC f c n q]
theorem Gx(b:Ea X (.builtin id) r)(c:FJ K r F)(f:Gl X x)(g:X.mg x=J)(i:DO x=Z (.builtin id))(a:JA X (e::es) (CL K M H0 fa))(j:x≠"__name__":=by ext)(hz:CA X x e es pos:=by exact Fj):JE X (.Call (.Name x p) (e::es) [] pos) (tD K M H0 (Zl F fa)):=#[have a:=a.h;(WI b f g i a j hz.d hz.s hz.p).mono λ_ _ _ h=>Xm c h]
theorem Xn(b:Ea X (.type id) r)(c:FJ K r F)(f:Gl X x)(g:X.mg x=J)(i:DO x=Z (.type id))(a:JA X (e::es) (CL K M H0 fa))(j:x≠"__name__":=by ext)(hz:CA X x e es pos:=by exact Fj):JE X (.Call (.Name x p) (e::es) [] pos) (tD K M H0 (Zl F fa)):=#[have a:=a.h;(WJ b f g i a j hz.d hz.s hz.p).mono λ_ _ _ h=>Xm c h]
theorem Xo(b:Ea X (.type id) r)(c:OJ K r G)(f:Gl X x)(g:X.mg x=J)(i:DO x=Z (.type id))(a:JA X (e::es) (CL K M H0 fa))(j:x≠"__name__":=by ext)(hz:CA X x e es pos:=by exact Fj):JE X (.Call (.Name x p) (e::es) [] pos) (tF K M H0 (EE G fa)):=#[have a:=a.h;(WJ b f g i a j hz.d hz.s hz.p).mono λ_ _ _ h=>ny c h]
end
inductive DA where
 |fail|next(ρ:VE)|brk (ρ:VE)|cont (ρ:VE)|ret (r:Rv)
abbrev Ar:=VE->DA
def HM(K:Am)(M:Fb)(H0:Hp)(ρ:VE)(I:St)(H:Hp)(b:VE)(Q:St->Hp->Prop):Prop:=∀a c,Bn K M H0 b a c->Step M (Nf M ρ I) (Nf M b a) H c->Q a c
def BU(K:Am)(M:Fb)(H0:Hp)(ρ:VE)(I:St)(H:Hp)(D:Ends):DA->Prop
 |.fail=>False
 |.next a=>HM K M H0 ρ I H a D.nx
 |.brk a=>HM K M H0 ρ I H a D.bk
 |.cont a=>HM K M H0 ρ I H a D.ct
 |.ret r=>∀v b,Ai H0 b->MD K M H0 b r v->D.rt v b
def tS(K:Am)(M:Fb)(H0:Hp)(g:Ar):TS:=λD b H=>∃a,Bn K M H0 a b H/\BU K M H0 a b H D (g a)
@[simp] def Ze(a:DA)(g:Ar):DA:=match a with
  |.next b=>g b
  |r=>r
theorem HM.from{K:Am}{M:Fb}{a b:VE}{c:St}{e:Hp}{Q:St->Hp->Prop}(s:Step M (Nf M ρ I) (Nf M a c) H e)(h:HM K M H0 ρ I H b Q):HM K M H0 a c e b Q:=
 λd f R g=>h d f R (s.trans g)
theorem BU.from{K:Am}{M:Fb}{a:VE}{b:St}{d:Hp}{D:Ends}{r:DA}(s:Step M (Nf M ρ I) (Nf M a b) H d)(h:BU K M H0 ρ I H D r):BU K M H0 a b d D r:=by
 cases r with
 |fail=>exact h
 |next c=>exact HM.from s h
 |brk c=>exact HM.from s h
 |cont c=>exact HM.from s h
 |ret r=>exact h
section
variable{K:Am}{M:Fb}{st:Au}{Ax:U Au}{g g1 g2:Ar}{e:Expr}{f:AB}
theorem nz :JB X [] (tS K M H0 λρ=>.next ρ):=#[Fd.mono λD a H ⟨ρ,R,q⟩=>q a H R Step.refl]
theorem Xp(c:JS X st (tS K M H0 g1))(d:JB X Ax (tS K M H0 g2)):JB X (st::Ax) (tS K M H0 λρ=>Ze (g1 ρ) g2):=#[have c:=c.h;have d:=d.h;(Wb c d).mono λD j H e=>by
 obtain⟨ρ,R,q⟩:=e
 try dsimp only at q
 refine#[ρ,R,?_]
 cases b:g1 ρ with
 |fail=>rw[b]at q;exact q
 |next a=>rw[b]at q;exact λf k g i=>#[a,g,q.from i]
 |brk a=>rw[b]at q;exact q
 |cont a=>rw[b]at q;exact q
 |ret r=>rw[b]at q;exact q]
@[simp] def Zy(o:O D):DA:=match o with
  |some d=>.ret (.val d)
  |none=>.fail
theorem nA(h:JE X e (tD K M H0 f)):JS X (.Return (Z e) pos) (tS K M H0 λρ=>Zy (f ρ)):=#[have h:=h.h;(Ol h).mono λD k H c=>by
 obtain⟨ρ,R,q⟩:=c
 try dsimp only at q
 cases b:f ρ with
 |none=>rw[b]at q;exact BP q
 |some d=>
  rw[b]at q
  exact#[ρ,d,R,b,λv g s i=>q v g (R.same.trans s) (i.nw λa j=>.inl (.inl j))]]
@[simp] noncomputable def ZK(o:A2):DA:=match o with
  |some a=>.ret (.own a)
  |none=>.fail
@[simp] def G4(o:A2):DA:=match o with
  |some a=>.ret (.own a .d)
  |none=>.fail
theorem Xq{k:Kd}{f:VE->A2}{r:A2->DA}(g:r J=.fail)(i:∀xs,r (Z xs)=.ret (.own xs k))(h:PE X e (ED k K M H0 f)):PS X (.Return (Z e) pos) (tS K M H0 λρ=>r (f ρ)):=(Ol h).mono λD t H j=>by
 obtain⟨ρ,R,q⟩:=j
 try dsimp only at q
 cases d:f ρ with
 |none=>rw[d,g]at q;exact BP q
 |some xs=>
  rw[d,i]at q
  exact#[ρ,xs,R,d,λa l m s n o p=>q (.ref a) m (R.same.trans s) #[a,l,rfl,R.same.free n,o,p.nw λb c=>by
   rcases c with c|c
   ·exact .inl (.inl (.inl c))
   ·exact .inl (.inr c)]]
theorem nB{f:VE->A2}(h:JE X e (ED .d K M H0 f)):JS X (.Return (Z e) pos) (tS K M H0 λρ=>G4 (f ρ)):=#[Xq rfl (λ_=>rfl) h.h]
theorem nC{f:VE->A2}(h:JE X e (tF K M H0 f)):JS X (.Return (Z e) pos) (tS K M H0 λρ=>ZK (f ρ)):=#[Xq rfl (λ_=>rfl) h.h]
@[simp] noncomputable def DH(ρ:VE)(i:Nat):A2:=match ρ[i]? with
  |some (.own a)=>Z a
  |_=>J
theorem MF{i:Nat}(h:DH ρ i=Z xs):ρ[i]?=Z (.own xs):=by grind [DH]
@[simp] def E2(ρ:VE)(i:Nat):A2:=match ρ[i]? with
  |some (.own a .d)=>Z a
  |_=>J
theorem MG{i:Nat}(h:E2 ρ i=Z xs):ρ[i]?=Z (.own xs .d):=by grind [E2]
theorem ZP{i:Nat}{v:V}(a:I[i]?.join=Z v):I[i]?=Z (Z v):=by
 grind
theorem Xr{k:Kd}{f:VE->Nat->A2}{r:A2->DA}(j:r J=.fail)(l:∀xs,r (Z xs)=.ret (.own xs k))(g:∀{ρ i xs},f ρ i=Z xs->ρ[i]?=Z (.own xs k)){i:Nat}{x:Ae}{c:Az}(m:NV X i x):
  PS X (.Return (Z (.Name x c)) pos) (tS K M H0 λρ=>r (f ρ i)):=(Ol (Gs m)).mono λD u H n=>by
 obtain⟨ρ,R,q⟩:=n
 try dsimp only at q
 cases e:f ρ i with
 |none=>rw[e,j]at q;exact BP q
 |some xs=>
  rw[e,l]at q
  obtain⟨a,o,h,⟨p,_⟩,v,s,t⟩:=R.slot i _ (g e)
  refine#[.ref a,ZP h,q (.ref a) H R.same #[a,o,rfl,p,s,t.nw λb d=>.inl ?_]]
  rcases d with d|d
  ·exact .inl d
  ·subst d;exact .inr #[i,xs,_,_,g e,ZP h]
@[simp] def ZG(c:O Bool)(a b:DA):DA:=match c with
  |some J'=>a
  |some O'=>b
  |none=>.fail
theorem nE{c:Expr}{a b:U Au}{t:VE->O Bool}(d:JT X c (BC K M H0 t))(e:JB X a (tS K M H0 g1))(f:JB X b (tS K M H0 g2)):JS X (.If c a b pos) (tS K M H0 λρ=>ZG (t ρ) (g1 ρ) (g2 ρ)):=#[have d:=d.h;have e:=e.h;have f:=f.h;(Om d e f).mono λD j H i=>by
 obtain⟨ρ,R,q⟩:=i
 try dsimp only at q
 cases g:t ρ with
 |none=>rw[g]at q;exact BP q
 |some k=>
  rw[g]at q
  refine#[ρ,k,R,g,λl s=>?_]
  cases k with
  |true=>refine IN ?_;exact#[ρ,R.st s,BU.from (Step.of_same s) q]
  |false=>refine IP ?_;exact#[ρ,R.st s,BU.from (Step.of_same s) q]]
theorem IT{a:Type}{l:U a}{i:Nat}{x y:a}(h:(l.set i x)[i]?=Z y):i<l.length/\x=y:=by
 grind
theorem MH{M:Fb}{i:Nat}{s:Sl}{v:V}{b:Ac}(f:ρ.length=I.length)(h:Nf M (ρ.set i s) (I.set i (Z v)) b):Nf M ρ I b\/∃xs fl a,s=.own xs fl a/\v=.ref b:=by
 rcases h with h|⟨j,xs,fl,a,c,d⟩
 ·exact .inl (.inl h)
 ·by_cases e:i=j
  ·subst e
   cases((IT c).2);cases((IT d).2);exact .inr #[xs,fl,a,rfl,rfl]
  ·rw[Ep e]at c d
   exact .inl (.inr #[j,xs,fl,a,c,d])
theorem Bn.put{i:Nat}{s:Sl}{v:V}(R:Bn K M H0 ρ I H)(S:Step M (Nf M ρ I) (Nf M (ρ.set i s) (I.set i (Z v))) H H')(sm:Ai H0 H')
  (E:∀j a vs xs fl m,j≠i->ρ[j]?=Z (.own xs fl m)->I[j]?=Z (Z (.ref a))->H a=Z (CO K fl a xs vs)->H' a=Z (CO K fl a xs vs))
  (G:i<ρ.length->Xf K M (Nf M (ρ.set i s) (I.set i (Z v))) H0 H' s (Z v))
  (n:∀xs fl m a j ys b f,s=.own xs fl m->v=.ref a->j≠i->ρ[j]?=Z (.own ys b f)->I[j]?≠Z (Z (.ref a))):Bn K M H0 (ρ.set i s) (I.set i (Z v)) H' where
 len:=by rw[List.length_set,List.length_set];exact R.len
 same:=sm
 mh:=λa h z=>by
  cases e:H a with
  |none=>exact R.mh a h e
  |some o=>rw[S.kp a o e (.inr (.inl h))]at z;cases z
 slot:=λj A e=>by
  by_cases t:i=j
  ·subst t
   obtain⟨B,e⟩:=IT e
   subst e
   rw[Hx (R.len ▸ B)]
   exact G B
  ·rw[Ep t]at e ⊢
   have q:=R.slot j A e
   cases A with
   |no=>trivial
   |val d=>obtain⟨u,p,h⟩:=q;exact#[u,p,As.step S d u h]
   |own xs fl m=>obtain⟨a,vs,p,g,l,r,w⟩:=q;exact#[a,vs,p,g,l,E j a vs xs fl m (B0 t) e (ZP p) r,Ad.step S xs vs w]
   |lent xs fl=>obtain⟨a,vs,p,g,l,r⟩:=q;exact#[a,vs,p,g,l.step S (.inr (.inl g.1)),Ad.step S xs vs r]
   |exc c=>obtain⟨a,C,p,g,l⟩:=q;exact#[a,C,p,g,S.kp _ _ l (.inr (.inr rfl))]
 inj:=λj k xs ys fl b m f a g l r w=>by
  by_cases y:i=j
  ·by_cases x:i=k
   ·rw[<- y,x]
   ·subst y
    rw[Ep x]at l w
    cases((IT g).2);cases((IT r).2);exact absurd w (n xs fl m a k ys b f rfl rfl (B0 x) l)
  ·rw[Ep y]at g r
   by_cases x:i=k
   ·subst x
    cases((IT l).2);cases((IT w).2);exact absurd r (n ys b f a j xs fl m rfl rfl (B0 y) g)
   ·rw[Ep x]at l w
    exact R.inj j k xs ys fl b m f a g l r w
theorem Bn.setV{i:Nat}{d:D}{v:V}(R:Bn K M H0 ρ I H)(s:Ai H H')(h:As K (Nf M ρ I) H' d v):
  Bn K M H0 (ρ.set i (.val d)) (I.set i (Z v)) H'/\Step M (Nf M ρ I) (Nf M (ρ.set i (.val d)) (I.set i (Z v))) H H':=by
 have S:Step M (Nf M ρ I) (Nf M (ρ.set i (.val d)) (I.set i (Z v))) H H':=#[λa o e _=>s a o e,λb c=>by
  rcases MH R.len c with q|⟨f,_,_,e,_⟩
  ·exact .inl q
  ·cases e]
 refine#[R.put S (R.same.trans s) (λj a l f g _ _ _ _ e=>s _ _ e) (λ_=>#[v,rfl,h.nw λb c=>?_]) (λf g _ a j m k _ e=>nomatch e),S]
 rcases MH R.len c with q|⟨f,_,_,e,_⟩
 ·exact .inl q
 ·cases e
theorem Bn.setO{i:Nat}(R:Bn K M H0 ρ I H)(s:Ai H H')(d:H a=J)(l:H' a=Z (CO K fl a xs vs))(h:Ad K (λb=>Nf M ρ I b\/b=a) H' xs vs):
  Bn K M H0 (ρ.set i (.own xs fl)) (I.set i (Z (.ref a))) H'/\Step M (Nf M ρ I) (Nf M (ρ.set i (.own xs fl)) (I.set i (Z (.ref a)))) H H':=by
 have nf:∀b,Nf M (ρ.set i (.own xs fl)) (I.set i (Z (.ref a))) b->Nf M ρ I b\/b=a:=λb c=>by
  rcases MH R.len c with q|⟨xs,fl,_,e,f⟩
  ·exact .inl q
  ·cases f;exact .inr rfl
 have S:Step M (Nf M ρ I) (Nf M (ρ.set i (.own xs fl)) (I.set i (Z (.ref a)))) H H':=#[λa o e _=>s a o e,λb c=>by
  grind]
 refine#[R.put S (R.same.trans s) (λj a vs xs fl _ _ _ _ e=>s _ _ e) (λ_=>#[a,vs,rfl,#[R.same.free d,λ_ z=>nomatch z],λm=>R.fresh d (.inl m),l,h.nw λb c=>.inl (nf b c)]) (λn p _ v j r g k e f w t u=>?_),S]
 cases f
 exact R.fresh d (.inr #[j,r,g,k,t,u])
theorem Bn.chg{fl2:Kd}{c:O Ac}{i:Nat}{ys:U D}{ws:U V}(R:Bn K M H0 ρ I H)(m:ρ[i]?=Z (.own xs fl c))(g:I[i]?=Z (Z (.ref a)))(h:Ad K (Nf M ρ I) H ys ws):
  Bn K M H0 (ρ.set i (.own ys fl2 c)) I (AN H a (CO K fl2 a ys ws))/\Step M (Nf M ρ I) (Nf M (ρ.set i (.own ys fl2 c)) I) H (AN H a (CO K fl2 a ys ws)):=by
 obtain⟨B,L,w,⟨x,C⟩,y,E,N⟩:=R.slot i _ m
 rw[g]at w
 have G:a=B:=by simpa using w
 subst G
 have n:I.set i (Z (.ref a))=I:=by
  apply J5
  intro j
  by_cases e:i=j
  ·subst e
   rw[Hx (Cm.mp g).1,g]
  ·rw[Ep e]
 have A:Nf M ρ I a:=.inr #[i,xs,fl,c,m,g]
 have nf:∀b,Nf M (ρ.set i (.own ys fl2 c)) (I.set i (Z (.ref a))) b->Nf M ρ I b:=λb p=>by
  rcases MH R.len p with q|⟨xs,_,_,e,r⟩
  ·exact q
  ·cases r;exact A
 have S:Step M (Nf M ρ I) (Nf M (ρ.set i (.own ys fl2 c)) (I.set i (Z (.ref a)))) H (AN H a (CO K fl2 a ys ws)):=#[λb o e z=>by
   have ne:b≠a:=by
    rintro rfl
    rcases z with z|z|z
    ·exact z A
    ·exact y z
    ·rw[E]at e;cases e;rw[Xe]at z;cases z
   rw[Zq ne];exact e,λb p=>.inl (nf b p)]
 have k:Bn K M H0 (ρ.set i (.own ys fl2 c)) (I.set i (Z (.ref a))) (AN H a (CO K fl2 a ys ws)):=by
  refine R.put S (λb o e=>?_) (λj b P l d f s t u Q=>?_) (λ_=>#[a,ws,rfl,#[x,C],y,ZZ,Ad.step S ys ws h]) (λl F _ b j v d f e r s t u=>?_)
  ·have ne:b≠a:=by
    rintro rfl
    rw[x]at e;cases e
   rw[Zq ne];exact R.same b o e
  ·have ne:b≠a:=by
    rintro rfl
    exact s (R.inj j i l xs d fl f c b t m u g)
   rw[Zq ne];exact Q
  ·cases r
   exact s (R.inj j i v xs d fl f c _ t m u g)
 rw[n]at k S
 exact#[k,S]
theorem Bn.frz{o:O Ac}{i:Nat}(R:Bn K M H0 ρ I H)(l:ρ[i]?=Z (.own xs fl o)):
  Bn K M H0 (ρ.set i (.val (.lst xs fl))) I H/\Step M (Nf M ρ I) (Nf M (ρ.set i (.val (.lst xs fl))) I) H H:=by
 obtain⟨a,m,p,z,r,s,t⟩:=R.slot i _ l
 have d:I.set i (Z (.ref a))=I:=by
  apply J5
  grind
 have nf:∀b,Nf M (ρ.set i (.val (.lst xs fl))) (I.set i (Z (.ref a))) b->Nf M ρ I b:=λb f=>by
  rcases MH R.len f with q|⟨xs,_,_,e,A⟩
  ·exact q
  ·cases e
 have g:¬ Nf M (ρ.set i (.val (.lst xs fl))) (I.set i (Z (.ref a))) a:=by
  rintro(h|⟨j,u,v,w,k,n⟩)
  ·exact r h
  ·by_cases e:i=j
   ·subst e
    cases((IT k).2)
   ·rw[Ep e]at k n
    exact e (R.inj i j xs u _ _ _ _ a l k (ZP p) n)
 have S:Step M (Nf M ρ I) (Nf M (ρ.set i (.val (.lst xs fl))) (I.set i (Z (.ref a)))) H H:=#[λ_ _ e _=>e,λb f=>.inl (nf b f)]
 have c:Bn K M H0 (ρ.set i (.val (.lst xs fl))) (I.set i (Z (.ref a))) H:=by
  exact R.put S R.same (λ_ _ _ _ _ _ _ _ _ h=>h) (λ_=>#[.ref a,rfl,#[a,m,rfl,.of g s,Ad.step S xs m t]]) (λx _ _ b j y _ _ e=>nomatch e)
 rw[d]at c S
 exact#[c,S]
@[simp] def ZF(i:Nat)(o:O D)(ρ:VE):DA:=match o with
  |some d=>.next (ρ.set i (.val d))
  |none=>.fail
@[simp] def ZS(i:Nat)(o:A2)(ρ:VE):DA:=match o with
  |some a=>.next (ρ.set i (.own a))
  |none=>.fail
@[simp] def Ee(i:Nat)(o:A2)(ρ:VE):DA:=match o with
  |some a=>.next (ρ.set i (.own a .d))
  |none=>.fail
theorem nG{f:VE->A2}{i:Nat}{c:Ends}(h:tS K M H0 (λρ=>Ee i (f ρ) ρ) c I H):K2 (ED .d K M H0 f) (JP i) c I H:=by
 obtain⟨ρ,R,q⟩:=h
 cases b:f ρ with
 |none=>erw[b,Ee]at q;exact BP q
 |some d=>
  erw[b,Ee]at q
  refine#[ρ,d,R,b,λa m n s e g j=>?_]
  obtain⟨k,l⟩:=R.setO (i:=i) s e g j
  exact q _ _ k l
theorem nH{f:VE->A2}{i:Nat}{x:Ae}{a:Az}(c:X.N.Nodup)(g:X.N[i]?=Z x)(j:Loc X.env.scope x)(b:JE X e (ED .d K M H0 f))(k:Dv e (Z (.Name x a)) pos.line X.env=AC O':=by rfl)(l:X.fn x=J'\/X.env.scope.names.lookup x=Z .local:=by first|exact .inl rfl|exact .inr rfl|assumption):JS X (.Assign [.Name x a] e pos) (tS K M H0 λρ=>Ee i (f ρ) ρ):=#[have b:=b.h;(K3 c g j b k l).mono λ_ _ _ q=>nG q]
theorem Xs{i:Nat}{b:Ends}(h:tS K M H0 (λρ=>ZF i (f ρ) ρ) b I H):K2 (tD K M H0 f) (JP i) b I H:=by
 obtain⟨ρ,R,q⟩:=h
 cases a:f ρ with
 |none=>erw[a,ZF]at q;exact BP q
 |some d=>
  erw[a,ZF]at q
  refine#[ρ,d,R,a,λv j s c=>?_]
  obtain⟨e,g⟩:=R.setV (i:=i) s c
  exact q _ _ e g
theorem RQ{f:VE->A2}{i:Nat}{c:Ends}(h:tS K M H0 (λρ=>ZS i (f ρ) ρ) c I H):K2 (tF K M H0 f) (JP i) c I H:=by
 obtain⟨ρ,R,q⟩:=h
 cases b:f ρ with
 |none=>erw[b,ZS]at q;exact BP q
 |some d=>
  erw[b,ZS]at q
  refine#[ρ,d,R,b,λa m n s e g j=>?_]
  obtain⟨k,l⟩:=R.setO (i:=i) s e g j
  exact q _ _ k l
theorem nI{i:Nat}{x:Ae}{a:Az}(c:X.N.Nodup)(d:X.N[i]?=Z x)(g:Loc X.env.scope x)(b:JE X e (tD K M H0 f))(j:Dv e (Z (.Name x a)) pos.line X.env=AC O':=by rfl)(k:X.fn x=J'\/X.env.scope.names.lookup x=Z .local:=by first|exact .inl rfl|exact .inr rfl|assumption):JS X (.Assign [.Name x a] e pos) (tS K M H0 λρ=>ZF i (f ρ) ρ):=#[have b:=b.h;(K3 c d g b j k).mono λ_ _ _ q=>Xs q]
theorem nJ{f:VE->A2}{i:Nat}{x:Ae}{a:Az}(c:X.N.Nodup)(d:X.N[i]?=Z x)(g:Loc X.env.scope x)(b:JE X e (tF K M H0 f))(j:Dv e (Z (.Name x a)) pos.line X.env=AC O':=by rfl)(k:X.fn x=J'\/X.env.scope.names.lookup x=Z .local:=by first|exact .inl rfl|exact .inr rfl|assumption):JS X (.Assign [.Name x a] e pos) (tS K M H0 λρ=>ZS i (f ρ) ρ):=#[have b:=b.h;(K3 c d g b j k).mono λ_ _ _ q=>RQ q]
@[simp] noncomputable def J6(i:Nat)(ρ:VE):VE:=match ρ[i]? with
  |some (.own a b _)=>ρ.set i (.val (.lst a b))
  |_=>ρ
set_option tactic.hygienic true in
theorem nK(i:Nat)(h:JS X st (tS K M H0 g)):JS X st (tS K M H0 λρ=>g (J6 i ρ)):=#[have h:=h.h;h.mono λe f H a=>by
 obtain⟨ρ,R,q⟩:=a
 try dsimp only at q
 unfold J6 at q
 split at q
 ·next j b=>
  obtain⟨c,d⟩:=R.frz b
  exact#[_,c,q.from d]
 ·exact#[ρ,R,q]]
@[simp] noncomputable def Ef(i:Nat)(o:O D)(ρ:VE):DA:=match ρ[i]?,o with
  |some (.own a .l b),Z d=>if a.length<AA then .next (ρ.set i (.own (a++[d]) .l b))else .fail
  |_,_=>.fail
set_option tactic.hygienic true in
theorem nM{i:Nat}{x:Ae}{c g j:Az}(u:NV X i x)(k:JE X e (tD K M H0 f))(w:Dv (.Call (.Attribute (.Name x c) "append" g) [e] [] j) J pos.line X.env=AC O':=by rfl)(hz:BA X x c "append" g e j:=by exact Xk):JS X (.Expr (.Call (.Attribute (.Name x c) "append" g) [e] [] j) pos) (tS K M H0 λρ=>Ef i (f ρ) ρ):=#[have k:=k.h;(Rf (J0 RS PySem.F.slot_list_append PySem.F.type_list_append W0 (Gs u) (Es k Bm hz.s) hz.b hz.f hz.l hz.s hz.p) w).mono λG Q H y=>by
  obtain⟨ρ,R,q⟩:=y
  try dsimp only at q
  unfold Ef at q
  split at q
  ·next z E d n A=>
   split at q
   ·next hz=>
    obtain⟨a,m,o,L,N,r,t⟩:=R.slot i _ n
    refine#[.ref a,(ZP o),.inl #[rfl,m,.inl (.inl r)],ρ,d,R,A,λv P s B=>?_]
    obtain⟨R2,C⟩:=(R.st s).chg (ys:=z++[d]) (ws:=m++[v]) (fl2:=.l) n (ZP o) ((t.same s).append (Ad.cons B Ad.nil))
    exact#[a,m,v,rfl,rfl,s _ _ r,t.length ▸ hz,q _ _ R2 ((Step.of_same s).trans C)]
   ·exact BP q
  ·exact BP q]
end
def Lj(K:Am)(M N:Fb)(f:Hp)(g:It)(c:U D):Prop:=∀e a,Step M N e f a->∀i,(∀d,c[i]?=Z d->g.go i a/\∀x b,g.yld i a x b->Ai a b/\As K e b d x)/\(i=c.length->g.stop i a)
def tI(K:Am)(M:Fb)(H0:Hp)(f:VE->A2):TI:=λc H R=>∃a d,Bn K M H0 a c H/\f a=Z d/\∀e b,Ai H b->Lj K M (Nf M a c) b e d->R e b
def tG(K:Am)(M:Fb)(H0:Hp)(ws:U Nat)(b:D->VE->O VE):TG:=λv e H Q=>∃f d c,Bn K M H0 f e H/\As K (Nf M f e) H d v/\b d f=Z c/\∀a ,Bn K M H0 c a H->Step M (Nf M f e) (Nf M c a) H H->(∀j,j∉ws->a[j]?=e[j]?)->Q a H
@[simp] def Zc(i:Nat)(d:D)(ρ:VE):O VE:=Z (ρ.set i (.val d))
noncomputable def ZB(b:D->VE->O VE)(g:Ar):U D->Ar
 |[],c=>.next c
 |d::f,c=>match b d c with
  |none=>.fail
  |some e=>match g e with
   |.next a=>ZB b g f a
   |.cont a=>ZB b g f a
   |.brk a=>.next a
   |r=>r
@[simp] def Cu(f:VE->A2)(b:D->VE->O VE)(g:Ar):Ar:=λa=>match f a with
  |some c=>ZB b g c a
  |none=>.fail
section
variable{K:Am}{M:Fb}{e:Expr}{f:VE->A2}{b:D->VE->O VE}{g:Ar}{body:U Au}
theorem nN{i:Nat}{x:Ae}(b:X.N.Nodup)(c:X.N[i]?=Z x)(f:Loc X.env.scope x)(g:X.fn x=J'\/X.env.scope.names.lookup x=Z .local:=by first|exact .inl rfl|exact .inr rfl|assumption):JG X (.Name x pos) (tG K M H0 [i] (Zc i)):=#[by
 intro a s h H v u Q p r #[o,d,k,R,hd,e,q]
 cases e
 obtain⟨l,m⟩:=R.setV (i:=i) (Ai.refl H) hd
 exact Wc b c f g a s h H v u Q p r (q _ l m λj n=>by rw[Ep (λe=>n (by rw[e];simp))])]
theorem nO{E:Ends}{B:TG}{S:TS}(hi:∀I H R,tI K M H0 f I H R->wi I H R)(hg:∀v I H Q,tG K M H0 ws b v I H Q->B v I H Q)(hb:∀D I H,tS K M H0 g D I H->S D I H)
  (h:tS K M H0 (Cu f b g) E I H):Wj wi B S E I H:=by
 obtain⟨C,R,q⟩:=h
 unfold Cu at q
 cases G:f C with
 |none=>rw[G]at q;exact BP q
 |some d=>
  rw[G]at q
  refine hi _ _ _ #[C,d,R,G,λF Y s1 ok=>?_]
  refine#[λi m e A=>m=d.length-i/\i<=d.length/\∃a,Bn K M H0 a e A/\Step M (Nf M C I) (Nf M a e) Y A/\BU K M H0 a e A E (ZB b g (d.drop i) a),#[d.length,by simp,F2 _,C,R.st s1,Step.refl,?_],?_]
  ·exact BU.from (Step.of_same s1) q
  ·rintro i m e A ⟨rfl,hle,a,Ri,W,c⟩
   obtain⟨L,N⟩:=ok _ _ W i
   by_cases l:i<d.length
   ·obtain⟨go,y⟩:=L d[i] (B8 l)
    rw[OD l]at c
    erw[ZB]at c
    refine .inr #[go,λn s=>i+1<=d.length/\∃a,Bn K M H0 a n s/\Step M (Nf M C I) (Nf M a n) Y s/\BU K M H0 a n s E (ZB b g (d.drop (i+1)) a),λn s z=>#[d.length-(i+1),by lia,rfl,z],λx s yl=>?_]
    obtain⟨s3,hd⟩:=y x s yl
    cases t:b d[i] a with
    |none=>rw[t]at c;exact BP c
    |some o=>
     rw[t]at c
     simp only at c
     refine hg _ _ _ _ #[a,d[i],o,Ri.st s3,hd,t,λP R1 S1 _=>hb _ _ _ #[o,R1,?_]]
     have j:Step M (Nf M a e) (Nf M o P) A s:=(Step.of_same s3).trans S1
     cases k:g o with
     |fail=>rw[k]at c;exact c
     |next p=>rw[k]at c;exact λu T R2 w=>#[l,p,R2,W.trans (j.trans w),BU.from (j.trans w) c]
     |cont p=>rw[k]at c;exact λu T R2 w=>#[l,p,R2,W.trans (j.trans w),BU.from (j.trans w) c]
     |brk p=>rw[k]at c;exact λu T R2 w=>c u T R2 (j.trans w)
     |ret r=>rw[k]at c;exact c
   ·rw[OC (by lia)]at c
    exact .inl #[N (show i=d.length by lia),c e A Ri Step.refl]
theorem nP(e:PassesOwn (Af X.prog X.w) X.A X.env X.xe)(i:X.calm=J')(a:JI X tg iter (tI K M H0 f))(c:JG X tg (tG K M H0 ws b))(d:JB X body (tS K M H0 g))(j:∀x,EU iter X.env x=AC x:=by intro _;rfl):JS X (.For tg iter body [] pos) (tS K M H0 (Cu f b g)):=#[have a:=a.h;have c:=c.h;have d:=d.h;(Wl e i a c d j).mono λ_ _ _ q=>nO (λ_ _ _ z=>z) (λ_ _ _ _ z=>z) (λ_ _ _ z=>z) q]
theorem PI.mono{a:TI}(h:PI X tg iter wi)(m:∀I H R,a I H R->wi I H R):PI X tg iter a:=λb s I H R c q=>h b s I H R c (m I H R q)
def ON(K:Am)(M N:Fb)(H:Hp)(d:D)(v:V):Prop:=match d with
 |.lst e=>∃a c,v=.ref a/\(((¬ N a\/M a)/\Rd H a (.lst c))\/KL K a c)/\Ad K N H e c
 |.lst e b=>∃a c,v=.ref a/\(¬ N a\/M a)/\Rd H a (CO K b a e c)/\Ad K N H e c
 |d=>As K N H d v
def tQ(K:Am)(M:Fb)(H0:Hp)(f:AB):TE:=λc H Q=>∃a d,Bn K M H0 a c H/\f a=Z d/\∀v b,Ai H b->ON K M (Nf M a c) b d v->Q v b
theorem As.q{M N:Fb}{H:Hp}{d:D}{v:V}(h:As K N H d v):ON K M N H d v:=by
 cases d with
 |lst g c=>
  obtain⟨a,b,e,q,r⟩:=h
  cases c with
  |l=>
   refine#[a,b,e,?_,r]
   rcases q with⟨n,q⟩|⟨f,z,q⟩
   ·exact .inl #[.inl n,q]
   ·cases z;exact .inr q
  |_=>
   rcases q with⟨n,q⟩|⟨f,z,_⟩
   ·exact#[a,b,e,.inl n,q,r]
   ·cases z
 |_=>exact h
theorem PE.q{f:AB}(h:PE X e (tD K M H0 f)):PE X e (tQ K M H0 f):=h.mono λc H Q ⟨a,d,R,e,q⟩=>#[a,d,R,e,λv b s z=>q v b s z.q]
theorem nQ{f:AB}(h:JE X e (tD K M H0 f)):JE X e (tQ K M H0 f):=#[PE.q h.h]
theorem nR{M N:Fb}(m:M a)(h:Rd H a (CO K fl a xs vs))(r:Ad K N H xs vs):ON K M N H (.lst xs fl) (.ref a):=by
 cases fl with
 |l=>exact#[a,vs,rfl,.inl #[.inr m,h],r]
 |_=>exact#[a,vs,rfl,.inr m,h,r]
@[simp] noncomputable def BB(ρ:VE)(i:Nat):O D:=match ρ[i]? with
  |some (.val d)=>Z d
  |some (.lent a b)=>Z (.lst a b)
  |_=>J
theorem nS{i:Nat}{x:Ae}(c:NV X i x):PE X (.Name x pos) (tQ K M H0 λρ=>BB ρ i):=
 (Gs c).mono λl H Q f=>by
  obtain⟨ρ,d,R,e,q⟩:=f
  try dsimp only at e q
  unfold BB at e
  split at e
  ·next h=>cases e;obtain⟨v,b,h⟩:=R.slot i _ h;exact#[v,ZP b,q v H (Ai.refl H) h.q]
  ·next h=>cases e;obtain⟨a,m,b,g,j,k⟩:=R.slot i _ h;exact#[_,ZP b,q _ H (Ai.refl H) (nR g.1 j k)]
  ·cases e
def Xt:D->A2
 |.lst a=>Z a
 |_=>J
def nT:D->A2
 |.tup a=>Z a
 |_=>J
def nU:D->A2
 |.str x=>Z (x.cps.toList.map λc=>D.str #[(T' [c])])
 |_=>J
theorem nV{l:Expr}{f:AB}(h:PE X l (tQ X.K M H0 f)):PI X tg l (tI X.K M H0 λρ=>(f ρ).bind Xt):=(Wg h).mono λs H P t=>by
 obtain⟨ρ,F,R,e,q⟩:=t
 obtain⟨d,u,e⟩:=BL.mp e
 cases d with
 |lst L A=>
  cases A with
  |d=>cases e
  |i _ _=>cases e
  |l=>
  cases e
  refine#[ρ,.lst _,R,u,λv o B C=>?_]
  obtain⟨a,c,E,g,hd⟩:=C
  have p:∀k j,Step M (Nf M ρ s) k o j->BF X.K j a c:=λk j S=>by
   rcases g with⟨G,g⟩|g
   ·exact .inl (g.step S (by rcases G with z|z;exact .inl z;exact .inr (.inl z)))
   ·exact g.sq
  refine#[a,E,#[c,p _ _ Step.refl],q _ o B λk j S i=>?_]
  have b:=p _ _ S
  refine#[λd m=>?_,λm=>#[c,b,by rw[m,hd.length];exact A5 _]]
  obtain⟨w,r,n⟩:=(Ad.step S _ _ hd).get m
  refine#[#[c,w,b,r],λx N y=>?_]
  obtain⟨rfl,y⟩:=y
  have:=y c b
  rw[r]at this;cases this
  exact#[Ai.refl _,n]
 |_=>cases e
theorem nW{l:Expr}{f:AB}(h:PE X l (tQ X.K M H0 f)):PI X tg l (tI X.K M H0 λρ=>(f ρ).bind nT):=(kA h).mono λt H u m=>by
 obtain⟨ρ,z,R,e,q⟩:=m
 obtain⟨d,n,e⟩:=BL.mp e
 cases d with
 |tup A=>
  cases e
  refine#[ρ,.tup _,R,n,λv o p r=>?_]
  obtain⟨a,b,s,c,hd⟩:=r
  refine#[a,s,#[b,c],q _ o p λB C S i=>?_]
  refine#[λd g=>?_,λg=>#[b,(c.step S),by rw[g,hd.length];exact A5 _]]
  obtain⟨w,k,j⟩:=(Ad.step S _ _ hd).get g
  refine#[#[b,w,(c.step S),k],λx E y=>?_]
  obtain⟨rfl,y⟩:=y
  have:=y b (c.step S)
  rw[k]at this;cases this
  exact#[Ai.refl _,j]
 |_=>cases e
theorem nX{l:Expr}{f:AB}(h:PE X l (tQ K M H0 f)):PI X tg l (tI K M H0 λρ=>(f ρ).bind nU):=(mu h).mono λs H t j=>by
 obtain⟨ρ,u,R,e,q⟩:=j
 obtain⟨d,k,e⟩:=BL.mp e
 cases d with
 |str x=>
  cases e
  refine#[ρ,.str x,R,k,λv m n o=>?_]
  refine#[x,o,q _ m n λw z S i=>#[λd a=>?_,λa=>?_]]
  ·rw[DQ]at a
   obtain⟨c,g,a⟩:=BG.mp a
   cases a
   have p:i<x.cps.size:=by
    have:=(Cm.mp g).1
    simpa using this
   refine#[p,λv A y=>?_]
   obtain⟨r,B,b,y⟩:=y
   subst r y
   rw[<- Array.getElem?_toList,g]at b;cases b
   exact#[Ai.refl _,by erw[As]]
  ·have:i=x.cps.size:=by simpa using a
   exact Nat.le_of_eq this.symm
 |_=>cases e
def HN(lo:Int)(n:Nat):U D:=(Bf n).map (λ(k:Nat)=>D.int (lo+(k:Int)))
theorem RU{M N:Fb}{c:Hp}{lo:Int}{n:Nat}:Lj K M N c (Ml lo n) (HN lo n):=λg h S i=>by
 refine#[λd a=>?_,λa=>?_]
 ·have b:i<n:=by
   have:=(Cm.mp a).1
   simpa[HN]using this
  have e:d=D.int (lo+i):=by
   erw[HN,DQ,List.getElem?_range b,J2,Option.some.injEq]at a
   exact a.symm
  subst e
  refine#[b,λx j y=>?_]
  obtain⟨f,y⟩:=y
  subst f y
  exact#[Ai.refl _,by erw[As]]
 ·have:i=n:=by simpa[HN]using a
  exact Nat.le_of_eq this.symm
def gd{a:Type}(p:Prop)(o:O a):O a:=@ite _ p (OO p) o J
theorem MJ{a:Type}{p:Prop}{o:O a}(h:p):gd p o=o:=by grind [gd]
theorem RV{a:Type}{p:Prop}{o:O a}{x:a}(h:gd p o=Z x):p/\o=Z x:=by grind [MJ,gd]
def DR:U D->A2
 |[.int j]=>gd (-1000000000<=j/\j<1000000000) (Z (HN 0 j.toNat))
 |_=>J
def MK:U D->A2
 |[.int i,.int j]=>gd (-1000000000<=i/\i<1000000000 /\ -1000000000<=j/\j<1000000000) (Z (HN i (j-i).toNat))
 |_=>J
set_option tactic.hygienic true in
theorem nY{a:Expr}{b:Do}{p:Az}(f:Gl X "range")(g:X.mg "range"=J)(c:JA X [a] (CL K M H0 b))(i:AE [a] X.env=[(O',Ao a X.env)]:=by rfl):JI X tg (.Call (.Name "range" p) [a] [] pos) (tI K M H0 λρ=>((b ρ).bind Zg).bind DR):=#[have c:=c.h;(Wi f g c i).mono λy H z k=>by
  obtain⟨ρ,A,R,e,q⟩:=k
  try dsimp only at e q
  cases d:b ρ with
  |none=>rw[d]at e;cases e
  |some m=>
   rw[d]at e
   obtain⟨l,n,e⟩:=BL.mp e
   unfold DR at e
   split at e
   ·next j=>
    obtain⟨B,e⟩:=RV e
    cases e
    refine#[ρ,m,R,d,λC o s t=>?_]
    obtain⟨v,r,u,w,x⟩:=(Li t n)
    subst u w x
    exact#[j,rfl,by lia,by lia,q _ o s RU]
   ·cases e]
set_option tactic.hygienic true in
theorem nZ{a b:Expr}{c:Do}{p:Az}(k:Gl X "range")(m:X.mg "range"=J)(d:JA X [a,b] (CL K M H0 c))(n:AE [a,b] X.env=[(O',Ao a X.env),(O',Ao b X.env)]:=by rfl)(f:AE [b] X.env=[(O',Ao b X.env)]:=by rfl):JI X tg (.Call (.Name "range" p) [a,b] [] pos) (tI K M H0 λρ=>((c ρ).bind Zg).bind MK):=#[have d:=d.h;(kG k m d n f).mono λE H G o=>by
  obtain⟨ρ,Q,R,e,q⟩:=o
  try dsimp only at e q
  cases g:c ρ with
  |none=>rw[g]at e;cases e
  |some s=>
   rw[g]at e
   obtain⟨l,t,e⟩:=BL.mp e
   unfold MK at e
   split at e
   ·next i j=>
    obtain⟨F,e⟩:=RV e
    cases e
    refine#[ρ,s,R,g,λL u w x=>?_]
    obtain⟨v,r,y,z,N,P,A,B,C⟩:=(Li x t)
    subst z B C A y
    exact#[i,j,rfl,#[by lia,by lia,by lia,by lia],q _ u w RU]
   ·cases e]
end
def OP(K:Am)(M:Fb)(H0:Hp)(ws:U Nat)(b:U D->VE->O VE):Hy:=λg d H Q=>∃e f c,Bn K M H0 e d H/\Ad K (Nf M e d) H f g/\b f e=Z c/\∀a ,Bn K M H0 c a H->Step M (Nf M e d) (Nf M c a) H H->(∀j,j∉ws->a[j]?=d[j]?)->Q a H
@[simp] def ZU:U D->VE->O VE
  |[],a=>Z a
  |_,_=>J
@[simp] def Zm(b:D->VE->O VE)(c:U D->VE->O VE):U D->VE->O VE
  |d::r,a=>(b d a).bind (c r)
  |_,_=>J
@[simp] def ZW(n:Nat)(b:U D->VE->O VE):D->VE->O VE
  |.tup a,c=>if a.length=n then b a c else J
  |_,_=>J
section
variable{K:Am}{M:Fb}{e:Expr}{ws':U Nat}{b:D->VE->O VE}{c:U D->VE->O VE}
theorem n0 :JK X [] (OP K M H0 [] ZU):=#[by
 intro a s b H c d Q i r #[h,f,g,R,hd,e,q]
 cases f with
 |nil=>
  cases e
  exact kj a s b H c d Q i r #[hd,q b R Step.refl λ_ _=>rfl]
 |cons=>cases e]
theorem og(g:JG X e (tG K M H0 ws b))(i:JK X es (OP K M H0 ws' c))(p:(F1 (e::es) X.env).map (·.2)=assign e X.env::(F1 es X.env).map (·.2):=by rfl):JK X (e::es) (OP K M H0 (ws++ws') (Zm b c)):=#[have g:=g.h;have i:=i.h;by
 intro a s t H L u Q N r #[w,k,l,R,hd,e,q]
 cases k with
 |nil=>cases e
 |cons d k=>
  obtain⟨v,x,rfl,y,z⟩:=hd
  obtain⟨f,A,e⟩:=BL.mp e
  refine km g i p a s t H _ u Q N r #[v,x,rfl,w,d,f,R,y,A,λB C o E=>#[f,k,l,C,Ad.step o _ _ z,e,λm R2 G F=>q m R2 (o.trans G) λj n=>?_]]
  rw[Dn,not_or]at n
  rw[F j n.2,E j n.1]]
theorem oh{k n:Nat}(i:X.calm=J')(h:JK X es (OP X.K M H0 ws c))(j:(F1 es X.env).length=n:=by rfl)(f:(F1 es X.env).findIdx? (·.1)=J:=by rfl):JG X (.Tuple es k pos) (tG X.K M H0 ws (ZW n c)):=#[have h:=h.h;by
 intro b s l H v u Q y r #[m,d,g,R,hd,e,q]
 cases d with
 |tup o=>
  obtain⟨p,e⟩:=ZX e
  obtain⟨a,t,w,x,hd⟩:=hd
  exact kq i h j f b s l H v u Q y r #[a,t,w,x,hd.length ▸ p,m,o,g,R,hd,e,q]
 |_=>cases e]
end
@[simp] def IU:O Sl->Sl
  |some (.val d)=>.val d
  |some (.own a b _)=>.lent a b
  |some (.lent a b)=>.lent a b
  |_=>.no
@[simp] def Zn(k:Nat)(oix:U Nat)(ρ:VE):VE:=C9 k .no++oix.map λj=>IU ρ[j]?
noncomputable def ZH(b:D->VE->O VE)(t:VE->O Bool)(e:AB)(ρ:VE):U D->A2
 |[]=>Z []
 |d::c=>match b d ρ with
  |none=>J
  |some a=>match t a with
   |some J'=>Zs (e a) (ZH b t e ρ c)
   |some O'=>ZH b t e ρ c
   |none=>J
@[simp] def Zi(k:Nat)(oix:U Nat)(f:VE->A2)(b:D->VE->O VE)(t:VE->O Bool)(e:AB):VE->A2:=λa=>(Zd (f a)).bind (ZH b t e (Zn k oix a))
section
variable{K:Am}{M:Fb}{f:VE->A2}{b:D->VE->O VE}{t:VE->O Bool}{e:AB}{k:Nat}{oix:U Nat}
set_option tactic.hygienic true in
theorem Bn.comp(R:Bn K M H0 ρ I H)(k:Nat)(oix:U Nat):Bn K (Nf M ρ I) H (Zn k oix ρ) (EC k oix I) H/\∀a,Nf (Nf M ρ I) (Zn k oix ρ) (EC k oix I) a->Nf M ρ I a:=by
 have b:∀(j:Nat) (c:U D) (e:Kd) (f:O Ac),(Zn k oix ρ)[j]?≠Z (Sl.own c e f):=λj c e f h=>by
  unfold Zn at h
  rw[J7]at h
  split at h
  ·rw[ID]at h
   split at h<;>cases h
  ·rw[DQ]at h
   cases l:oix[j-(C9 k Sl.no).length]? with
   |none=>rw[l]at h;cases h
   |some o=>
    rw[l]at h
    erw[J2,Option.some.injEq]at h
    unfold IU at h
    split at h<;>cases h
 have nf:∀a,Nf (Nf M ρ I) (Zn k oix ρ) (EC k oix I) a->Nf M ρ I a:=λa h=>by
  rcases h with h|⟨j,c,e,f,h,_⟩
  ·exact h
  ·exact absurd h (b j c e f)
 refine#[#[by simp[Zn,EC],Ai.refl H,R.nh,λj s h=>?_,λi j c B e w f x a h=>absurd h (b i c e f)],nf]
 unfold Zn at h
 rw[J7]at h
 split at h
 ·rw[ID]at h
  obtain⟨_,h⟩:=ZX h
  cases h;trivial
 ·next y=>
  rw[DQ]at h
  have p:(EC k oix I)[j]?=(oix[j-k]?).map λi=>(I[i]?).join:=by
   unfold EC
   grind
  rw[p]
  erw[K8]at h
  cases l:oix[j-k]? with
  |none=>rw[l]at h;cases h
  |some o=>
   rw[l]at h
   erw[J2,Option.some.injEq]at h
   unfold IU at h
   split at h
   ·next d hd=>subst h;obtain⟨v,g,q⟩:=R.slot o _ hd;exact#[v,g,q.nw λa m=>.inl (nf a m)]
   ·next c e f hd=>
    subst h
    obtain⟨a,r,g,t,u,n,A⟩:=R.slot o _ hd
    exact#[a,r,g,#[.inr #[o,c,e,f,hd,ZP g],λz=>by rw[n]at z;cases z],.inl n,A.nw λa m=>.inl (nf a m)]
   ·next c hd=>
    subst h
    obtain⟨a,r,g,t,u,n⟩:=R.slot o _ hd
    exact#[a,r,g,#[.inl t.1,R.mh a t.1],u,n.nw λa m=>.inl (nf a m)]
   ·subst h;trivial
def ML(K:Am)(ws:U Nat)(b:D->VE->O VE):TG:=λv a H Q=>∃M H0,tG K M H0 ws b v a H Q
def MM(K:Am)(t:VE->O Bool):TT:=λa H Q=>∃M H0,BC K M H0 t a H Q
def MN(K:Am)(e:AB):TE:=λa H Q=>∃M H0,tD K M H0 e a H Q
theorem MO(hw:∀j∈ws,j<k)(hi:∀I H R,tI K M H0 f I H R->wi I H R){Q:VK}(h:tF K M H0 (Zi k oix f b t e) I H Q):OA k oix wi (ML K ws b) (MM K t) (MN K e) I H Q:=by
 obtain⟨l,G,R,ex,q⟩:=h
 obtain⟨m,W,ex⟩:=BL.mp ex
 obtain⟨W,hz⟩:=RO W
 refine hi _ _ _ #[l,m,R,W,λF H1 s1 ok=>?_]
 refine#[m.length,λi L B=>i<=m.length/\L.length<=i/\Ai H1 B/\∃c Ax,Ad K (Nf M l I) B c L/\ZH b t e (Zn k oix l) (m.drop i)=Z Ax/\c++Ax=G,#[F2 _,A5 _,Ai.refl _,[],G,Ad.nil,ex,rfl],?_]
 rintro i L B ⟨hle,hy,u,c,Ax,g,d,C⟩
 obtain⟨N,P⟩:=ok _ B (Step.of_same u) i
 by_cases n:i<m.length
 ·obtain⟨go,y⟩:=N m[i] (B8 n)
  rw[OD n]at d
  erw[ZH]at d
  refine .inr #[go,n,by lia,λr T=>r.length<=i+1/\Ai H1 T/\∃c Ax,Ad K (Nf M l I) T c r/\ZH b t e (Zn k oix l) (m.drop (i+1))=Z Ax/\c++Ax=G,λr T z=>#[n,z],λx E yl=>?_]
  obtain⟨w,hd⟩:=y x E yl
  obtain⟨Rc,nf⟩:=(((R.st s1).st u).st w).comp k oix
  cases S:b m[i] (Zn k oix l)with
  |none=>rw[S]at d;cases d
  |some o=>
   rw[S]at d
   simp only at d
   refine#[Nf M l I,E,Zn k oix l,m[i],o,Rc,hd.nw λa Y=>.inl (nf a Y),S,λσ4 R4 S4 w4=>#[?_,?_]]
   ·apply J5
    intro j
    rw[List.getElem?_drop,List.getElem?_drop]
    exact w4 _ λhj=>absurd (hw _ hj) (by lia)
   ·cases ht:t o with
    |none=>rw[ht]at d;cases d
    |some bb=>
     rw[ht]at d
     refine#[Nf M l I,E,o,bb,R4,ht,λH5 A=>?_]
     cases bb with
     |true=>
      obtain⟨yd,s,e1,e2,e3⟩:=HK d
      refine IN ?_
      refine#[Nf M l I,E,o,yd,R4.st A,e1,λv H6 s6 hv=>#[?_,((u.trans w).trans A).trans s6,c++[yd],s,(g.same ((w.trans A).trans s6)).append (Ad.cons (hv.nw λa Y=>.inl (.inl Y)) Ad.nil),e2,?_]]
      ·erw[FG,Rz];lia
      ·subst e3;rw[<- C];simp
     |false=>
      exact IP #[by lia,(u.trans w).trans A,c,Ax,g.same (w.trans A),d,C]
 ·rw[OC (by lia)]at d
  cases d
  rw[Eb]at C
  subst C
  exact .inl #[P (show i=m.length by lia),by lia,λp hp=>MC (s1.trans u) hp g q]
theorem PG.all(h:∀M H0,PG Y tg (tG K M H0 ws b)):PG Y tg (ML K ws b):=λa s c H v u Q d r ⟨M,H0,z⟩=>h M H0 a s c H v u Q d r z
theorem Gu.all(h:∀M H0,Gu Y ifs (BC K M H0 t)):Gu Y ifs (MM K t):=λa s b H Q c ⟨M,H0,z⟩=>h M H0 a s b H Q c z
theorem PE.all(h:∀M H0,PE Y elt (tD K M H0 e)):PE Y elt (MN K e):=λa s b H Q c ⟨M,H0,z⟩=>h M H0 a s b H Q c z
theorem oi:JF Y [] (BC K M H0 λ_=>Z J'):=#[λa s c H Q f ⟨d,b,R,e,q⟩=>mq a s c H Q f (by cases e;exact q H (Ai.refl H))]
theorem oj{c:Expr}(h:JT Y c (BC K M H0 t)):JF Y [c] (BC K M H0 t):=#[have h:=h.h;mr h]
structure CB(K:Am)(X:Cx)(own outs:List Ae)(scope:Scope)(tg:Expr)(ifs:List Expr)(elt:Expr)(ws:List Nat)(b:D->VE->Option VE)(t:VE->Option Bool)(e:AB):Prop where
 g:∀C s2 H2 fp pins,PG (C2 X own outs scope C s2 H2 fp pins) tg (ML K ws b)
 t:∀C s2 H2 fp pins,Gu (C2 X own outs scope C s2 H2 fp pins) ifs (MM K t)
 e:∀C s2 H2 fp pins,PE (C2 X own outs scope C s2 H2 fp pins) elt (MN K e)
theorem ol{own c:U Ae}(j:∀{C d f g a i H'},JG (C2 X own c scope C d f g a) tg (tG K i H' ws b))(k:∀{C d f g a i H'},JF (C2 X own c scope C d f g a) ifs (BC K i H' t))(l:∀{C d f g a i H'},JE (C2 X own c scope C d f g a) elt (tD K i H' e)):CB K X own c scope tg ifs elt ws b t e:=
 #[λ_ _ _ _ _=>PG.all λ_ _=>j.h,λ_ _ _ _ _=>Gu.all λ_ _=>k.h,λ_ _ _ _ _=>PE.all λ_ _=>l.h]
theorem om(own a:U Ae)(oix:U Nat)(S:HF own a scope X.env.scope)(c:oix.map (λj=>X.N[j]?)=a.map Z)(i:X.calm=J')(k:JI X tg iter (tI K M H0 f))(d:CB K X own a scope tg ifs elt ws b t e)(l:∀j∈ws,j<own.length)(m:∀x,EU iter X.env x=AC x:=by intro _;rfl):JE X (.ListComp elt [#[tg,iter,ifs,0]] scope pos) (tF K M H0 (Zi own.length oix f b t e)):=
 #[(W8 own a oix S c i k.h d.g d.t d.e m).mono λ_ _ _ z=>MO l (λ_ _ _ z=>z) z]
theorem on(own a:U Ae)(oix:U Nat){i:Nat}{x:Ae}{c d:Az}(S:HF own a scope X.env.scope)(k:oix.map (λj=>X.N[j]?)=a.map Z)(o:X.calm=J')(p:X.N.Nodup)(l:X.N[i]?=Z x)(q:X.env.scope.names.lookup x=Z .local)(r:JI X tg iter (tI K M H0 f))(m:CB K X own a scope tg ifs elt ws b t e)(s:∀j∈ws,j<own.length)(n:Dv (.ListComp elt [#[tg,iter,ifs,0]] scope pos) (Z (.Name x c)) d.line X.env=AC J':=by rfl)(u:∀x,EU iter X.env x=AC x:=by intro _;rfl):JS X (.Assign [.Name x c] (.ListComp elt [#[tg,iter,ifs,0]] scope pos) d) (tS K M H0 λρ=>ZS i (Zi own.length oix f b t e ρ) ρ):=
 #[(OB own a oix S k o p l q r.h m.g m.t m.e n u).mono λv w H z=>MO s (λ_ _ _ z=>z) (RQ z)]
theorem oq(own c:U Ae)(oix:U Nat){i:Nat}{x:Ae}{k l:Az}(S:HF own c scope X.env.scope)(n:oix.map (λj=>X.N[j]?)=c.map Z)(u:X.calm=J')(v:X.N.Nodup)(o:X.N[i]?=Z x)(w:X.env.scope.names.lookup x=Z .local)(y:JI X tg iter (tI K M H0 f))(m:CB K X own c scope tg ifs elt ws b t e)(A:∀j∈ws,j<own.length)(p:Dv (.ListComp elt [#[tg,iter,ifs,0]] scope pos) (Z (.Name x k)) l.line X.env=AC J':=by rfl)(B:∀x,EU iter X.env x=AC x:=by intro _;rfl):JS X (.Assign [.Name x k] (.ListComp elt [#[tg,iter,ifs,0]] scope pos) l) (tS K M H0 λρ=>ZF i (Zr (Zi own.length oix f b t e ρ)) ρ):=
 #[(OB own c oix S n u v o w y.h m.g m.t m.e p B).mono λP Q H z=>by
   obtain⟨ρ,d,R,r,q⟩:=(Xs z)
   obtain⟨C,E,r⟩:=BG.mp r
   cases r
   exact MO A (λ_ _ _ z=>z) #[ρ,C,R,E,λa G T s W F L=>q _ _ s #[a,G,rfl,.of (R.fresh W) F,L.nw λb m=>.inl (.inl m)]]]
end
noncomputable def AL(a n:Nat)(g:Ar):U Sl->O Rv:=λb=>if b.length=a then
  match g (b++C9 (n-a) .no)with
  |.ret r=>Z r
  |.next _=>Z (.val .non)
  |_=>J
 else J
theorem ot{K:Am}{N:Fb}{l:U Sl}(o:∀a,N a->H a≠J)(h:By K N H l vs)(n:Nat):Bn K N H (l++C9 n .no) (vs.map Z++C9 n J) H:=by
 have b:∀(j:Nat) (f:U D) (g:Kd) (k:O Ac),(l++C9 n Sl.no)[j]?≠Z (Sl.own f g k):=λj f g k e=>by
  rw[J7]at e
  split at e
  ·obtain⟨v,_,q⟩:=h.get e;exact q
  ·rw[ID]at e
   split at e<;>cases e
 have nf:∀a,Nf N (l++C9 n Sl.no) (vs.map Z++C9 n J) a->N a:=λa z=>by
  rcases z with z|⟨j,f,g,k,z,_⟩
  ·exact z
  ·exact absurd z (b j f g k)
 refine#[by simp[h.length],Ai.refl H,o,λj s e=>?_,λi j f C g r k t a z=>absurd z (b i f g k)]
 rw[J7]at e
 split at e
 ·next u=>
  obtain⟨v,w,q⟩:=h.get e
  rw[HA (by simpa[<- h.length]using u),DQ,w]
  cases s with
  |val d=>exact#[v,rfl,As.nw q λa m=>.inl (nf a m)]
  |lent f g=>obtain⟨a,x,y,p,A,B⟩:=q;exact#[a,x,by rw[y];rfl,#[p,o a p],A,B.nw λa m=>.inl (nf a m)]
  |no=>trivial
  |own f g k=>exact BP q
  |exc c=>exact BP q
 ·rw[ID]at e
  obtain⟨_,e⟩:=ZX e
  cases e;trivial
theorem ou{P:AI}{w:Ah}{K:Am}{mg:Bl}{base:Ak}{x b:Ae}{st:Au}{f:Ac}{fd:B6}{N d:U Ae}{k:Nat}{g:Ar}(F:HE K x b st f fd)(S:Z8 N d (Zf st))(u:d.length<=N.length)
  (y:∀(c:Aa) (A:Ag) (outer:U Env) (s:Ab) (H:Hp) (E:XK) (M:Fb) (H0:Hp),AF k (A.deeper (A0 b (Zf st) s.heap.objs.size f c)) ->
   Ez (CK Bg P w K mg base N b (Zf st) f c A outer s H E).nox (ZI st) (tS K M H0 g)):AQ P w K mg base Bg (k+1) f fd d (AU K (AL d.length N.length g)):=by
 refine F.ok S (λl H Q E h=>?_) (λc A outer s H l Q E z h=>?_)
 ·obtain⟨o,p,r,t,j,a,q⟩:=h
  obtain⟨m,a⟩:=ZX a
  rw[<- j.length];exact m
 ·obtain⟨o,p,r,t,j,a,q⟩:=h
  refine#[_,y c A outer s H E o H z,?_]
  obtain⟨m,a⟩:=ZX a
  rw[show FE N l=l.map Z++C9 (N.length-d.length) J by unfold FE;rw[<- j.length,m]]
  refine#[_,ot t j (N.length-d.length),?_]
  cases e:g (p++C9 (N.length-d.length) .no)with
  |fail=>rw[e]at a;cases a
  |next i=>rw[e]at a;cases a;exact λB n C R=>q .non n C.same (by erw[MD,As])
  |brk i=>rw[e]at a;cases a
  |cont i=>rw[e]at a;cases a
  |ret L=>rw[e]at a;cases a;exact λv n s G=>q v n s G
theorem Xu{P:AI}{w:Ah}{K:Am}{mg:Bl}{base:Ak}{x a:Ae}{st:Au}{f:Ac}{fd:B6}{N c:U Ae}{k:Nat}{g:Ar}(F:HE K x a st f fd)(S:Z8 N c (Zf st))(d:c.length<=N.length)
  (e:∀(b:Aa) (A:Ag) (outer:U Env) (s:Ab) (H:Hp) (E:XK) (M:Fb) (H0:Hp),AF k (A.deeper (A0 a (Zf st) s.heap.objs.size f b)) ->
   JB (CK Bg P w K mg base N a (Zf st) f b A outer s H E).nox (ZI st) (tS K M H0 g)):AQ P w K mg base Bg (k+1) f fd c (AU K (AL c.length N.length g)):=
 ou F S d λb A outer s H E M H0 i=>(e b A outer s H E M H0 i).h
section
variable{K:Am}
@[simp] noncomputable def i2(g:Int->Int->O D):D->D->O D
  |.int i,.int j=>g i j
  |_,_=>J
theorem RW{g:Int->Int->O D}{x y d:D}(h:i2 g x y=Z d):∃i j,x=.int i/\y=.int j/\g i j=Z d:=by
 unfold i2 at h
 grind
theorem Aw.int{N:Fb}{i:Int}{v:V}(h:Aw K N H (.int i) v):v=.int i:=by simpa only[Aw,As]using h
theorem Aw.str{N:Fb}{i:Ae}{v:V}(h:Aw K N H (.str i) v):v=.str i:=by simpa only[Aw,As]using h
theorem Aw.bl{N:Fb}{i:Bool}{v:V}(h:Aw K N H (.bl i) v):v=.bl i:=by simpa only[Aw,As]using h
theorem Aw.non{N:Fb}{v:V}(h:Aw K N H .non v):v=.non:=by simpa only[Aw,As]using h
theorem Aw.ty{N:Fb}{i:String}{v:V}(h:Aw K N H (.ty i) v):v=.ty i:=by simpa only[Aw,As]using h
theorem Aw.tup{N:Fb}{v:V}(h:Aw K N H (.tup xs) v):∃a vs,v=.ref a/\B1 K H a vs/\Ad K N H xs vs:=by simpa only[Aw,As]using h
theorem Fk{N:Fb}{i:Int}:As K N H (.int i) (.int i):=by erw[As]
theorem Gy{N:Fb}{i:Bool}:As K N H (.bl i) (.bl i):=by erw[As]
theorem OQ{N:Fb}{i:Ae}:As K N H (.str i) (.str i):=by erw[As]
theorem ov(g:Int->Int->Int):Dx K (GV λi j=>.int (g i j)) (i2 λi j=>Z (.int (g i j))):=by
 intro N H x y c f d Q h a b e q
 obtain⟨i,j,rfl,rfl,e⟩:=RW e
 cases e
 exact#[i,j,a.int,b.int,q _ H (Ai.refl H) Fk]
theorem Lk(g:Int->Int->Bool):Dx K (GV λi j=>.bl (g i j)) (i2 λi j=>Z (.bl (g i j))):=by
 intro N H x y c f d Q h a b e q
 obtain⟨i,j,rfl,rfl,e⟩:=RW e
 cases e
 exact#[i,j,a.int,b.int,q _ H (Ai.refl H) Gy]
theorem OR{C:Int->Int->Prop}[∀i j,Decidable (C i j)](g:Int->Int->Int):Dx K (rI C λi j=>.int (g i j)) (i2 λi j=>if C i j then Z (.int (g i j))else J):=by
 intro N H x y h k d Q l b c e q
 obtain⟨i,j,rfl,rfl,a⟩:=RW e
 split at a
 ·next f=>cases a;exact#[i,j,b.int,c.int,f,q _ H (Ai.refl H) Fk]
 ·cases a
instance (i j:Int):Decidable (Mo i j):=by unfold Mo;exact inferInstance
instance (i j:Int):Decidable (DF i j):=by unfold DF;exact inferInstance
instance (i j:Int):Decidable (K4 i j):=by unfold K4;exact inferInstance
@[simp] def Ll:D->D->O D:=i2 λi j=>Z (.int (i-j))
@[simp] def DB:D->D->O D:=i2 λi j=>if DF i j then Z (.int (i*j))else J
@[simp] def Fl:D->D->O D:=i2 λi j=>if Mo i j then Z (.int (i/j))else J
@[simp] def ZJ:D->D->O D:=i2 λi j=>if 0<j then Z (.int (i%j))else J
@[simp] def HP:D->D->O D:=i2 λi j=>if K4 i j then Z (.int (i^j.toNat))else J
@[simp] def Lm:D->D->O D:=i2 λi j=>Z (.bl (decide (i<=j)))
@[simp] def E3:D->D->O D:=i2 λi j=>Z (.bl (decide (j<i)))
@[simp] def MP:D->D->O D:=i2 λi j=>Z (.bl (decide (j<=i)))
section
variable{M:Fb}{a b:Expr}{f g:AB}
theorem ow(c:JE X a (tP K M H0 f))(d:JE X b (tP K M H0 g)):JE X (.BinOp a .Sub b pos) (tD K M H0 (Za Ll f g)):=#[have c:=c.h;have d:=d.h;Lf kL (ov _) c d]
theorem oz(c:JE X a (tP K M H0 f))(d:JE X b (tP K M H0 g)):JE X (.BinOp a .Mult b pos) (tD K M H0 (Za DB f g)):=#[have c:=c.h;have d:=d.h;Lf kM (OR _) c d]
theorem oA(c:JE X a (tP K M H0 f))(d:JE X b (tP K M H0 g)):JE X (.BinOp a .FloorDiv b pos) (tD K M H0 (Za Fl f g)):=#[have c:=c.h;have d:=d.h;Lf kN (OR _) c d]
theorem oB(c:JE X a (tP K M H0 f))(d:JE X b (tP K M H0 g)):JE X (.BinOp a .Mod b pos) (tD K M H0 (Za ZJ f g)):=#[have c:=c.h;have d:=d.h;Lf kO (OR _) c d]
theorem oC(c:JE X a (tP K M H0 f))(d:JE X b (tP K M H0 g)):JE X (.BinOp a .Pow b pos) (tD K M H0 (Za HP f g)):=#[have c:=c.h;have d:=d.h;Lf kP (OR _) c d]
@[simp] noncomputable def Gz:O D->O D
  |some (.int i)=>Z (.int (-i))
  |_=>J
set_option tactic.hygienic true in
theorem oD(b:JE X a (tP K M H0 f)):JE X (.UnaryOp .USub a pos) (tD K M H0 λρ=>Gz (f ρ)):=#[have b:=b.h;(kK kR b).mono λl H Q c=>by
 obtain⟨ρ,d,R,e,q⟩:=c
 try dsimp only at e q
 unfold Gz at e
 split at e
 ·next i g=>cases e;exact#[ρ,.int i,R,g,λv j s k=>#[i,k.int,q _ j s Fk]]
 ·cases e]
end
end
section
def Xv(K:Am):R2:=λx y H Q=>∃l b a c,x=.ref l/\y=.ref b/\BF K H l a/\BF K H b c/\a.length+c.length<=AA/\∀p,H p=J->Q (.ref p) (AN H p (.lst (a++c)))
theorem HQ:B2 X (Gj .Add) (Xv X.K):=by
 rintro i s P H x y v u Q S o p ⟨l,b,L,M,rfl,rfl,t,w,z,q⟩
 cases o
 cases p
 obtain⟨c,r,p1,N⟩:=S.list t
 obtain⟨a,j,A,R⟩:=S.list w
 have T:=r.length
 have B:=j.length
 obtain⟨⟨cls,C,data,E⟩,k,G,n,hd⟩:=p1.isList
 obtain⟨⟨m,e,data2,f⟩,d,g,n2,h⟩:=A.isList
 subst G hd g h
 refine concat_meets #[_,k,rfl] #[_,d,rfl] noFill_list_add seq_list_add PySem.F.slot_list_add PySem.F.entry_list_add (PySem.F.args_list_add_2 _ _) (list_addW l b c.toArray a.toArray n n2 C e E f (by rw[BR,BR];lia)) #[k,d,?_]
 rw[show c.toArray++a.toArray=(c++a).toArray by simp]
 exact#[.ref _,_,S.lnew (t':=s.toks) (r.append j) (FG ▸ W.kdl_size z),rfl,q _ S.fresh]
def Xw(K:Am):R2:=λx y H Q=>∃l b a c,x=.ref l/\y=.ref b/\B1 K H l a/\B1 K H b c/\a.length+c.length<=AA /\
 (a=[]->Q (.ref b) H)/\(c=[]->Q (.ref l) H)/\∀p,H p=J->Q (.ref p) (AN H p (.tup (a++c)))
theorem oE:B2 X (Gj .Add) (Xw X.K):=by
 rintro B s I H x y v u Q zA M N ⟨l,b,C,E,rfl,rfl,R,T,S,Y,qz,q⟩
 cases M
 cases N
 obtain⟨c,r,p1,z1⟩:=zA.tuple R
 obtain⟨a,G,p2,z2⟩:=zA.tuple T
 have P:=r.length
 have j:=G.length
 obtain⟨⟨cls,m,data,o⟩,i,hc,n,hd⟩:=id p1
 obtain⟨⟨L,f,data2,g⟩,d,p,n2,t⟩:=id p2
 subst hc hd p t
 by_cases w:C=[]
 ·have k:c.toArray.isEmpty=J':=by
   subst w
   have:c=[]:=OS.mp P.symm
   subst this;rfl
  exact concat_meets #[_,i,rfl] #[_,d,rfl] noFill_tuple_add seq_tuple_add PySem.F.slot_tuple_add Xx (Xy _ _) (tuple_addW0 l b c.toArray a.toArray n n2 m f o g k) #[i,d,#[.ref b,H,zA,rfl,Y w]]
 ·have k:¬ c.toArray.isEmpty=J':=by
   intro z
   have:c=[]:=by simpa using z
   subst this
   exact w (OS.mp P)
  by_cases A:E=[]
  ·have h:a.toArray.isEmpty=J':=by
    subst A
    have:a=[]:=OS.mp j.symm
    subst this;rfl
   exact concat_meets #[_,i,rfl] #[_,d,rfl] noFill_tuple_add seq_tuple_add PySem.F.slot_tuple_add Xx (Xy _ _) (tuple_addW1 l b c.toArray a.toArray n n2 m f o g k h) #[i,d,#[.ref l,H,zA,rfl,qz A]]
  ·have h:¬ a.toArray.isEmpty=J':=by
    intro z
    have:a=[]:=by simpa using z
    subst this
    exact A (OS.mp j)
   have e:c.toArray++a.toArray=(c++a).toArray:=by simp
   refine concat_meets #[_,i,rfl] #[_,d,rfl] noFill_tuple_add seq_tuple_add PySem.F.slot_tuple_add Xx (Xy _ _) (tuple_addW2 l b c.toArray a.toArray n n2 m f o g k h (by rw[BR,BR];lia)) #[i,d,?_]
   rw[e]
   refine#[.ref s.heap.objs.size,AN H s.heap.objs.size (.tup (C++E)),zA.laid (t':=s.toks) (λb u e=>Bp _ e) (A5 _) ?_,rfl,q _ zA.fresh]
   exact#[FG ▸ W.kdl_size S,c++a,r.append G,IsTup.new _ _]
end
@[simp] noncomputable def Zw:D->D->O D
  |.int i,.int j=>Z (.int (i+j))
  |.str x,.str y=>if x.length+y.length<=AA then Z (.str (x++y))else J
  |.lst a,.lst b=>if a.length+b.length<=AA then Z (.lst (a++b))else J
  |.tup a,.tup b=>if a.length+b.length<=AA then Z (.tup (a++b))else J
  |_,_=>J
def Xz(K:Am):R2:=λx y H Q=>GV (λi j=>.int (i+j)) x y H Q\/(∃i j,x=.str i/\y=.str j/\i.length+j.length<=AA/\Q (.str (i++j)) H)\/Xv K x y H Q\/Xw K x y H Q
theorem oF:B2 X (Gj .Add) (Xz X.K):=JU.or (EV.or (HQ.or oE))
theorem XA{K:Am}{N:Fb}{p:Ac}(c:∀a,N a->H a≠J)(b:H p=J)(h:Ad K N H xs vs):As K N (AN H p (.lst vs)) (.lst xs) (.ref p):=by
 exact#[p,vs,rfl,.of (λz=>c p z b) ZZ,h.same (ZY b)]
theorem MQ{K:Am}{N:Fb}{p:Ac}(a:H p=J)(h:Ad K N H xs vs):As K N (AN H p (.tup vs)) (.tup xs) (.ref p):=by
 exact#[p,vs,rfl,B1.of ZZ,h.same (ZY a)]
theorem oG{K:Am}:Dx K (Xz K) Zw:=by
 intro N H x y t u d Q s k l e q
 unfold Zw at e
 split at e
 ·cases e;exact .inl #[_,_,k.int,l.int,q _ H (Ai.refl H) Fk]
 ·obtain⟨g,e⟩:=ZX e
  cases e;exact .inr (.inl #[_,_,k.str,l.str,g,q _ H (Ai.refl H) OQ])
 ·obtain⟨g,e⟩:=ZX e
  cases e
  obtain⟨a,h,o,m,c⟩:=k
  obtain⟨b,i,r,n,f⟩:=l
  exact .inr (.inr (.inl #[a,b,h,i,o,r,m,n,by rw[<- c.length,<- f.length];exact g,λp j=>q _ _ (ZY j) (XA s j (c.append f))]))
 ·obtain⟨g,e⟩:=ZX e
  cases e
  obtain⟨a,h,o,m,c⟩:=k.tup
  obtain⟨b,i,r,n,f⟩:=l.tup
  refine .inr (.inr (.inr #[a,b,h,i,o,r,m,n,by rw[<- c.length,<- f.length];exact g,λz=>?_,λz=>?_,λp j=>q _ _ (ZY j) (MQ j (c.append f))]))
  ·exact q _ H (Ai.refl H) #[b,h++i,rfl,z ▸ n,c.append f]
  ·exact q _ H (Ai.refl H) #[a,h++i,rfl,by rw[z,Eb];exact m,c.append f]
 ·cases e
theorem oH{M:Fb}{a b:Expr}{f g:AB}(c:JE X a (tP X.K M H0 f))(d:JE X b (tP X.K M H0 g)):JE X (.BinOp a .Add b pos) (tD X.K M H0 (Za Zw f g)):=#[have c:=c.h;have d:=d.h;Lf oF oG c d]
def oI(K:Am):V->O Int->O Int->Hp->VK->Prop:=λx lo c H Q=>∃a b,x=.ref a/\B1 K H a b/\(HB b lo c=b->Q (.ref a) H)/\∀p,H p=J->Q (.ref p) (AN H p (.tup (HB b lo c)))
theorem HR:II X (oI X.K):=by
 rintro h s u H x v w y lo e z Q A k l m n ⟨a,d,rfl,p,t,q⟩
 cases k
 obtain⟨f,r,i,j⟩:=A.tuple p
 have c:f.toArray.size=d.length:=BR ▸ r.length.symm
 refine#["tuple",_,PyProof.Rows.slot_tuple_getitem.lookup,i.typeIs,HT.getItem_tuple_cut i l m n (λg=>#[.ref a,H,A,rfl,t ?_]) (λ_=>?_) (c ▸ j)]
 ·rw[c]at g
  unfold HB
  rw[g.1,g.2,List.drop_zero,Nat.sub_zero,List.take_length]
 ·rw[c]
  refine#[.ref s.heap.objs.size,_,A.laid (t':=s.toks) (o:=.tup (HB d lo e)) (λb ob q=>Bp _ q) (A5 _) ?_,rfl,q _ (A.hok.fresh (A5 _))]
  exact#[BJ (WN d lo e) j,_,(r.drop (HT.sIx d.length 0 lo)).take (HT.sIx d.length d.length e-HT.sIx d.length 0 lo),IsTup.new _ _]
@[simp] def Ap:D->D->O D
  |.lst a,.int i=>atI a i
  |.tup a,.int i=>atI a i
  |.str x,.int i=>if x.length<=AA then(atI x.cps.toList i).map λc=>.str #[(T' [c])]else J
  |_,_=>J
theorem Ad.atI{K:Am}{N:Fb}{i:Int}{d:D}(h:Ad K N H xs vs)(e:L2.atI xs i=Z d):∃v,L2.atI vs i=Z v/\As K N H d v:=by
 unfold L2.atI at e ⊢
 rw[<- h.length]
 cases a:DG xs.length i with
 |none=>rw[a]at e;cases e
 |some j=>rw[a]at e;exact h.get e
set_option tactic.hygienic true in
theorem XB{K:Am}:Dx K (WV K) Ap:=by
 intro N H x y p r d Q s b f e q
 unfold Ap at e
 split at e
 ·obtain⟨a,g,h,j,k⟩:=b
  obtain⟨v,l,m⟩:=k.atI e
  exact .inl #[a,g,_,v,h,f.int,j,l,q v H (Ai.refl H) m]
 ·obtain⟨a,g,h,j,k⟩:=b.tup
  obtain⟨v,l,m⟩:=k.atI e
  exact .inr (.inl #[a,g,_,v,h,f.int,j,l,q v H (Ai.refl H) m])
 ·split at e
  ·next z i n=>
   obtain⟨c,o,e⟩:=BG.mp e
   cases e;exact .inr (.inr #[z,i,c,b.str,f.int,n,o,q _ H (Ai.refl H) OQ])
  ·cases e
 ·cases e
section
variable{K:Am}{M:Fb}{a b e:Expr}{f g:AB}
theorem oJ(c:JE X a (tP X.K M H0 f))(d:JE X b (tP X.K M H0 g))(e:Lb b):JE X (.Subscript a b pos) (tD X.K M H0 (Za Ap f g)):=#[have c:=c.h;have d:=d.h;Xj WW XB c d e]
def tO(K:Am)(M:Fb)(H0:Hp)(o:VE->O (O Int)):TO:=λc H Q=>∃a i,Bn K M H0 a c H/\o a=Z i/\∀b,Ai H b->Q i b
@[simp] def DS:O D->O (O Int)
  |some (.int i)=>Z (Z i)
  |_=>J
theorem PO.mono{e:O Expr}{t t':TO}(h:PO X e t)(m:∀I H Q,t' I H Q->t I H Q):PO X e t':=by
 intro a s I H Q b q
 exact h a s I H Q b (m I H Q q)
theorem oK :JO X J (tO K M H0 λ_=>Z J):=#[PO.mono lO λa H Q ⟨b,i,R,e,q⟩=>by(try dsimp only at e q);cases e;exact q H (Ai.refl H)]
set_option tactic.hygienic true in
theorem oM(h:JE X e (tP K M H0 f)):JO X (Z e) (tO K M H0 λρ=>DS (f ρ)):=#[have h:=h.h;PO.mono (lP h) λg H Q a=>by
 obtain⟨ρ,i,R,e,q⟩:=a
 try dsimp only at e q
 unfold DS at e
 split at e
 ·next j b=>cases e;exact#[ρ,.int j,R,b,λv c s d=>#[j,d.int,q c s]]
 ·cases e]
def E4{a:Type}(xs:U a)(lo b:O Int):U a:=(xs.drop (HT.sIx xs.length 0 lo)).take (HT.sIx xs.length xs.length b-HT.sIx xs.length 0 lo)
@[simp] def DT(x:D)(lo a:O Int):O D:=match x with
  |.lst b=>Z (.lst (E4 b lo a))
  |.tup b=>Z (.tup (E4 b lo a))
  |.str x=>if x.length<=AA then Z (.str (Txt.slice x lo a))else J
  |_=>J
theorem Ad.cut{K:Am}{N:Fb}(h:Ad K N H xs vs)(lo a:O Int):Ad K N H (E4 xs lo a) (HB vs lo a):=by
 unfold E4 HB
 rw[h.length]
 exact(h.drop _).take _
@[simp] noncomputable def DJ{b:Type}(f:AB)(lo c:VE->O (O Int))(F:D->O Int->O Int->O b):VE->O b:=λa=>(f a).bind λx=>(lo a).bind λl=>(c a).bind λh=>F x l h
theorem oO{e:Type}{f:AB}{b:VE->O (O Int)}{F:D->O Int->O Int->O e}{d:e}(h:DJ f lo b F ρ=Z d):∃x l u,f ρ=Z x/\lo ρ=Z l/\b ρ=Z u/\F x l u=Z d:=by
 unfold DJ at h
 cases a:f ρ with
 |none=>rw[a]at h;cases h
 |some x=>
  cases c:lo ρ with
  |none=>rw[a,c]at h;cases h
  |some l=>
   cases g:b ρ with
   |none=>rw[a,c,g]at h;cases h
   |some u=>rw[a,c,g]at h;exact#[x,l,u,rfl,rfl,rfl,h]
theorem oP{A B:O Expr}{C:VE->O (O Int)}(m:JE X e (tP X.K M H0 f))(n:JO X A (tO X.K M H0 lo))(o:JO X B (tO X.K M H0 C)):JE X (.Subscript e (.Slice A B J p2) pos) (tD X.K M H0 (DJ f lo C DT)):=#[have m:=m.h;have n:=n.h;have o:=o.h;(lR (HD.or (HR.or mw)) m n o).mono λP H Q G=>by
 obtain⟨r,d,R,ex,q⟩:=G
 obtain⟨x,l,u,W,F,L,b⟩:=oO ex
 refine#[r,x,R,W,λv T t c=>#[r,l,R.st t,F,λS w=>#[r,u,(R.st t).st w,L,λY E=>?_]]]
 have c:=(c.same w).same E
 have s:=(t.trans w).trans E
 unfold DT at b
 split at b
 ·cases b
  obtain⟨a,i,y,j,k⟩:=c
  exact .inl #[a,i,y,j,λp g=>q _ _ (s.trans (ZY g)) (XA (R.st s).nh g (k.cut l u))]
 ·cases b
  obtain⟨a,i,y,j,k⟩:=c.tup
  exact .inr (.inl #[a,i,y,j,λz=>q _ _ s #[a,i,rfl,j,z ▸ k.cut l u],λp g=>q _ _ (s.trans (ZY g)) (MQ g (k.cut l u))])
 ·obtain⟨N,b⟩:=ZX b
  cases b;exact .inr (.inr #[_,c.str,N,q _ _ s OQ])
 ·cases b]
end
mutual
noncomputable def AG:D->D->Bool
 |.non,.non=>J'
 |.bl a,.bl b=>a==b
 |.bl a,.int b=>(if a then 1 else 0)==b
 |.int a,.bl b=>a==(if b then 1 else 0)
 |.int a,.int b=>a==b
 |.str a,.str b=>a==b
 |.tup c,.tup d=>Cw c d
 |.lst c,.lst d=>Cw c d
 |_,_=>O'
noncomputable def Cw:U D->U D->Bool
 |[],[]=>J'
 |x::a,y::b=>AG x y&&Cw a b
 |_,_=>O'
end
@[simp] noncomputable def AT:Nat->D->Bool
  |_,.non=>J'
  |_,.bl _=>J'
  |_,.int _=>J'
  |_,.str _=>J'
  |n+1,.tup a=>a.all (AT n)
  |n+1,.lst a=>a.all (AT n)
  |_,_=>O'
mutual
theorem MR:∀(n:Nat)(d:D),AT n d=J'->AG d d=J'
 |_,.non,_=>by erw[AG]
 |_,.bl _,_=>by erw[AG,beq_self_eq_true]
 |_,.int _,_=>by erw[AG,beq_self_eq_true]
 |_,.str _,_=>by erw[AG,beq_self_eq_true]
 |0,.ty _,h=>by simp[AT]at h
 |_+1,.ty _,h=>by simp[AT]at h
 |0,.tup a,h=>by simp[AT]at h
 |0,.lst a _,h=>by simp[AT]at h
 |n+1,.tup a,h=>by erw[AT]at h;erw[AG];exact MS n a h
 |n+1,.lst a .l,h=>by erw[AT]at h;erw[AG];exact MS n a h
 |n+1,.lst a .d,h=>by simp[AT]at h
 |n+1,.lst a (.i _ _),h=>by simp[AT]at h
theorem MS:∀(n:Nat)(xs:U D),xs.all (AT n)=J'->Cw xs xs=J'
 |_,[],_=>by erw[Cw]
 |n,x::xs,h=>by
  erw[J8,Co]at h
  erw[Cw,Co]
  exact#[MR n x h.1,MS n xs h.2]
end
theorem RX:∀{xs ys:U D},xs.length≠ys.length->Cw xs ys=O'
 |[],[],h=>absurd rfl h
 |[],_::_,_=>by erw[Cw]
 |_::_,[],_=>by erw[Cw]
 |x::xs,y::ys,h=>by
  erw[Cw]
  rw[RX (xs:=xs) (ys:=ys) (by simpa using h),Bool.and_false]
theorem RY:∀{xs ys:U D},xs.length=ys.length->Cw xs ys=(Bf xs.length).all λj=>AG (xs.getD j .non) (ys.getD j .non)
 |[],[],_=>by simp[Cw]
 |[],_::_,h=>by simp at h
 |_::_,[],h=>by simp at h
 |x::xs,y::ys,h=>by
  simp only[Cw,Ce,List.range_succ_eq_map,J8,List.getD_cons_zero,J9,RY (xs:=xs) (ys:=ys) (by simpa using h)]
  rfl
section
variable{s:Ab}
theorem Inv.apart(k:Inv X pins I H s){xs:U V}(h:BF X.K H a xs)(h':B1 X.K H a ys):False:=by
 obtain⟨d,r,⟨o,n,e,c,_⟩,_⟩:=k.list h
 obtain⟨b,f,⟨g,i,j,_⟩,_⟩:=k.tuple h'
 simp_all
theorem Inv.apartDL(l:Inv X pins I H s){d:U KT}{xs:U V}(h:Rd H a (.dct d xs))(h':BF X.K H a ys):False:=by
 obtain⟨_,_,_,o,_,_,e,c,_⟩:=h.ok l.hok
 obtain⟨b,f,⟨g,i,j,k,_⟩,_⟩:=l.list h'
 simp_all
theorem Inv.apartDT(k:Inv X pins I H s){d:U KT}{xs:U V}(h:Rd H a (.dct d xs))(h':B1 X.K H a ys):False:=by
 obtain⟨_,_,_,o,_,_,e,c,_⟩:=h.ok k.hok
 obtain⟨b,f,⟨g,i,j,_⟩,_⟩:=k.tuple h'
 simp_all
theorem Inv.apartIL(k:Inv X pins I H s){b:Ac}{fs:U (Ae×V)}(h:Rd H a (.ins C b fs))(h':BF X.K H a ys):False:=by
 obtain⟨_,_,_,e,_⟩:=(show AY X.prog X.w H s.heap a (.ins C b fs)from h.ok k.hok)
 obtain⟨c,d,⟨f,g,i,j,_⟩,_⟩:=k.list h'
 simp_all
theorem Inv.apartIT(j:Inv X pins I H s){b:Ac}{fs:U (Ae×V)}(h:Rd H a (.ins C b fs))(h':B1 X.K H a ys):False:=by
 obtain⟨_,_,_,e,_⟩:=(show AY X.prog X.w H s.heap a (.ins C b fs)from h.ok j.hok)
 obtain⟨c,d,⟨f,g,i,_⟩,_⟩:=j.tuple h'
 simp_all
noncomputable def Ka:D->O V
 |.non=>Z .non
 |.bl b=>Z (.bl b)
 |.int i=>Z (.int i)
 |.str x=>Z (.str x)
 |.ty n=>Z (.ty n)
 |_=>J
theorem oQ{d d':D}{w:V}(h:Ka d=Z w)(h':Ka d'=Z w):d=d':=by
 cases d<;>cases h<;>cases d'<;>cases h'<;>rfl
theorem Aw.av{K:Am}{N:Fb}{d:D}{v:V}(h:Aw K N H d v):match Ka d with
  |some w=>v=w
  |none=>∃a,v=.ref a:=by
 cases d with
 |lst b c=>cases c<;>(obtain⟨a,_,e,_⟩:=h;exact#[a,e])
 |tup b=>obtain⟨a,_,e,_⟩:=h.tup;exact#[a,e]
 |non=>exact h.non
 |bl _=>exact h.bl
 |int _=>exact h.int
 |str _=>exact h.str
 |ty _=>exact h.ty
theorem Aw.at{K:Am}{N c:Fb}{d d':D}{v w:V}(e:Ka d=Z w)(h:Aw K N H d v)(h':Aw K c H d' v):d=d':=by
 have h:=h.av
 have h':=h'.av
 rw[e]at h
 subst h
 cases b:Ka d' with
 |some u=>rw[b]at h';subst h';exact oQ e b
 |none=>rw[b]at h';obtain⟨a,z⟩:=h';subst z;cases d<;>cases e
theorem Aw.at'{K:Am}{N:Fb}{d':D}(h':Aw K N H d' (.ref a)):Ka d'=J:=by
 have h:=h'.av
 cases e:Ka d' with
 |none=>rfl
 |some w=>rw[e]at h;subst h;cases d'<;>cases e
mutual
/-- what an address denotes is one thing -/
theorem XC(w:Inv X pins I H s){N u:Fb}:∀(n:Nat)(d d':D)(v:V),AT n d=J'->Aw X.K N H d v->Aw X.K u H d' v->d=d'
 |_,.non,d',v,_,h,c=>Aw.at rfl h c
 |_,.bl _,d',v,_,h,c=>Aw.at rfl h c
 |_,.int _,d',v,_,h,c=>Aw.at rfl h c
 |_,.str _,d',v,_,h,c=>Aw.at rfl h c
 |_,.ty _,d',v,_,h,c=>Aw.at rfl h c
 |0,.tup g,d',v,o,h,c=>by simp[AT]at o
 |0,.lst g _,d',v,o,h,c=>by simp[AT]at o
 |n+1,.tup g,d',v,o,h,c=>by
  obtain⟨a,p,e,q,r⟩:=h.tup
  subst e
  have z:=c.at'
  cases d' with
  |tup m=>
   obtain⟨b,j,e,f,k⟩:=c.tup
   cases e
   have:=w.tuple_inj q f
   subst this
   rw[MU w n g m p o r k]
  |lst _ t=>
   cases t with
   |l=>obtain⟨b,j,e,f,_⟩:=c;cases e;exact(w.apart f q).elim
   |d=>obtain⟨b,j,e,f,_⟩:=c;cases e;exact(w.apartDT f q).elim
   |i=>obtain⟨b,j,e,f,_⟩:=c;cases e;exact(w.apartIT f q).elim
  |_=>cases z
 |n+1,.lst g .d,d',v,o,h,c=>by simp[AT]at o
 |n+1,.lst g (.i _ _),d',v,o,h,c=>by simp[AT]at o
 |n+1,.lst g .l,d',v,o,h,c=>by
  obtain⟨a,p,e,q,r⟩:=h
  subst e
  have z:=c.at'
  cases d' with
  |tup m=>obtain⟨b,j,e,f,k⟩:=c.tup;cases e;exact(w.apart q f).elim
  |lst m t=>
   cases t with
   |d=>obtain⟨b,j,e,f,k⟩:=c;cases e;exact(w.apartDL f q).elim
   |i=>obtain⟨b,j,e,f,k⟩:=c;cases e;exact(w.apartIL f q).elim
   |l=>
    obtain⟨b,j,e,f,k⟩:=c
    cases e
    have:=w.list_inj q f
    subst this
    rw[MU w n g m p o r k]
  |_=>cases z
theorem MU(i:Inv X pins I H s){N b:Fb}:∀(n:Nat)(xs ys:U D)(vs:U V),xs.all (AT n)=J'->Ad X.K N H xs vs->Ad X.K b H ys vs->xs=ys
 |_,[],ys,vs,_,h,a=>by
  erw[Ad]at h;subst h
  cases ys with
  |nil=>rfl
  |cons y ys=>erw[Ad]at a;obtain⟨_,_,e,_⟩:=a;cases e
 |n,x::xs,ys,vs,o,h,a=>by
  erw[J8,Co]at o
  erw[Ad]at h
  obtain⟨v,r,e,q,t⟩:=h
  subst e
  cases ys with
  |nil=>erw[Ad]at a;cases a
  |cons y ys=>
   erw[Ad]at a
   obtain⟨f,g,e,c,d⟩:=a
   cases e
   rw[XC i n x y v o.1 q.p c.p,MU i n xs ys r o.2 t d]
end
open SeqAt
theorem DU{a:Type}{xs:U a}{d e:a}(h:xs[j]?=Z e):xs.getD j d=e:=by simp[List.getD_eq_getElem?_getD,h]
theorem XD{a:U Aa}(b:j<a.toArray.size)(e:a[j]?=Z u):a.toArray[j]=u:=by
 obtain⟨_,e⟩:=Cm.mp e
 simpa using e
def Kb(A:Ag)(s:Ab)(u v:Aa)(b:Bool):Prop:=RcAt A s u v b/\EqAt A s u v b/\RcNeAt A s u v (!b)
theorem MV(A:Ag):A.in1.units=A.units+1:=rfl
theorem Lo{N:Fb}{x:D}{v:V}(h:Aw X.K N H x v)(r:RelV v u)(o:AT 0 x=J'):(x=.non/\u=.none)\/(∃b,x=.bl b/\u=.bool b)\/(∃i t,x=.int i/\u=.int i t)\/∃c t,x=.str c/\u=.str c t:=by
 cases x with
 |non=>cases h.non;exact .inl #[rfl,r]
 |bl b=>cases h.bl;exact .inr (.inl #[b,rfl,r])
 |int i=>cases h.int;obtain⟨t,r⟩:=r;exact .inr (.inr (.inl #[i,t,rfl,r]))
 |str c=>cases h.str;obtain⟨t,r⟩:=r;exact .inr (.inr (.inr #[c,t,rfl,r]))
 |_=>simp[AT]at o
theorem XE(q:Inv X pins I H s){N:Fb}(A:Ag)(x y:D)(a d:V)(u v:Aa)(m:A.units+0<Aq)(e:AT 0 x=J')(f:AT 0 y=J')(g:Aw X.K N H x a)(h:Aw X.K N H y d)(j:RelV a u)(k:RelV d v):Kb A s u v (AG x y):=by
 rcases Lo g j e with⟨rfl,rfl⟩|⟨b,rfl,rfl⟩|⟨i,t,rfl,rfl⟩|⟨c,t,rfl,rfl⟩<;>rcases Lo h k f with⟨rfl,rfl⟩|⟨n,rfl,rfl⟩|⟨o,l,rfl,rfl⟩|⟨p,l,rfl,rfl⟩<;>erw[AG,Kb,MW,IW]<;>refine⟨?_,?_,?_⟩ <;>
  with_reducible first|exact .none_none|exact .same _|exact .none_bool _|exact .none_int _ _|exact .none_str _ _|exact .bool_none _|exact .bool_bool _ _|exact .bool_int _ _ _|exact .bool_str _ _ _|exact .int_none _ _|exact .int_bool _ _ _|exact .int_int _ _ _ _|exact .int_str _ _ _ _|exact .str_none _ _|exact .str_bool _ _ _|exact .str_int _ _ _ _|exact .str_str _ _ _ _
theorem MY(S:Inv X pins I H s){N:Fb}:∀(n:Nat)(A:Ag)(x y:D)(vx vy:V)(u v:Aa),A.units+n<Aq->AT n x=J'->AT n y=J'->Aw X.K N H x vx->Aw X.K N H y vy->RelV vx u->RelV vy v->Kb A s u v (AG x y):=by
 intro n
 induction n with
 |zero=>exact XE S
 |succ n ih=>
  intro A x y vx vy u v hu ox oy hx hy rx ry
  have h:A.units<Aq:=Df hu
  have P:∀{g k:U D} {B ws:U V} {m F:U Aa},g.all (AT n)=J'->k.all (AT n)=J'->Ad X.K N H g B->Ad X.K N H k ws->An B m->An ws F->m.length=g.length/\F.length=k.length/\∀j (h1:j<m.toArray.size) (h2:j<F.toArray.size),EqAt A.in1 s m.toArray[j] F.toArray[j] (AG (g.getD j .non) (k.getD j .non)):=λox oy Q T Y r2=>by
   have l1:=Q.length.trans Y.length
   have l2:=T.length.trans r2.length
   refine#[l1.symm,l2.symm,λj h1 h2=>?_]
   have C:=h1
   have G:=h2
   rw[BR]at C G
   rw[<- l1]at C
   rw[<- l2]at G
   obtain⟨w1,hw1,dw1⟩:=Q.get (B8 C)
   obtain⟨w2,hw2,dw2⟩:=T.get (B8 G)
   obtain⟨u1,hu1,ru1⟩:=Y.get hw1
   obtain⟨u2,hu2,ru2⟩:=r2.get hw2
   rw[XD h1 hu1,XD h2 hu2,DU (B8 C),DU (B8 G)]
   exact(ih A.in1 _ _ _ _ _ _ (by rw[MV];lia) (CZ.mp ox _ (FL C)) (CZ.mp oy _ (FL G)) dw1.p dw2.p ru1 ru2).2.1
  have con:∀{x:D} {v:V} {u:Aa},AT (n+1) x=J'->Aw X.K N H x v->RelV v u->AT 0 x=J'\/(∃g a B m,x=.tup g/\u=.ref a/\g.all (AT n)=J'/\B1 X.K H a B/\Ad X.K N H g B/\An B m/\s.heap.IsTuple a m.toArray)\/∃g a B m,x=.lst g/\u=.ref a/\g.all (AT n)=J'/\BF X.K H a B/\Ad X.K N H g B/\An B m/\s.heap.IsList a m.toArray:=λ{x v u} o h r=>by
   cases x with
   |tup g=>obtain⟨a,B,rfl,q,d⟩:=h.tup;obtain⟨m,z,p,_⟩:=S.tuple q;exact .inr (.inl #[g,a,B,m,rfl,r,o,q,d,z,p])
   |lst g f=>
    cases f with
    |l=>obtain⟨a,B,rfl,q,d⟩:=h;obtain⟨m,z,p,_⟩:=S.list q;exact .inr (.inr #[g,a,B,m,rfl,r,o,q,d,z,p.isList])
    |_=>simp[AT]at o
   |ty _=>simp[AT]at o
   |_=>exact .inl rfl
  rcases con ox hx rx with L|⟨g,a1,B,m,rfl,rfl,L,q1,Q,Y,p1⟩|⟨g,a1,B,m,rfl,rfl,L,q1,Q,Y,p1⟩<;>rcases con oy hy ry with M|⟨k,a2,ws,F,rfl,rfl,M,q2,T,r2,w⟩|⟨k,a2,ws,F,rfl,rfl,M,q2,T,r2,w⟩
  ·exact XE S A x y vx vy u v h L M hx hy rx ry
  ·rcases Lo hx rx L with⟨rfl,rfl⟩|⟨b,rfl,rfl⟩|⟨i,t,rfl,rfl⟩|⟨c,t,rfl,rfl⟩<;>erw[AG,Kb,IW]<;>refine⟨?_,?_,?_⟩<;>with_reducible first|exact .none_tuple w h|exact .bool_tuple _ w h|exact .int_tuple _ _ w h|exact .str_tuple _ _ w h
  ·rcases Lo hx rx L with⟨rfl,rfl⟩|⟨b,rfl,rfl⟩|⟨i,t,rfl,rfl⟩|⟨c,t,rfl,rfl⟩<;>erw[AG,Kb,IW]<;>refine⟨?_,?_,?_⟩<;>with_reducible first|exact .none_list w h|exact .bool_list _ w h|exact .int_list _ _ w h|exact .str_list _ _ w h
  ·rcases Lo hy ry M with⟨rfl,rfl⟩|⟨b,rfl,rfl⟩|⟨i,t,rfl,rfl⟩|⟨c,t,rfl,rfl⟩<;>erw[AG,Kb,IW]<;>refine⟨?_,?_,?_⟩<;>with_reducible first|exact .tuple_none p1 h|exact .tuple_bool _ p1 h|exact .tuple_int _ _ p1 h|exact .tuple_str _ _ p1 h
  ·obtain⟨l1,l2,E⟩:=P L M Q T Y r2
   have k1:=RcAt.tuples (e:=λj=>AG (g.getD j .non) (k.getD j .non)) p1 w h E
   have k2:=RcNeAt.tuples (e:=λj=>AG (g.getD j .non) (k.getD j .non)) p1 w h E
   have e:((Bf (min m.toArray.size F.toArray.size)).all (λj=>AG (g.getD j .non) (k.getD j .non))&&m.toArray.size==F.toArray.size)=Cw g k:=by
    rw[BR,BR,l1,l2]
    by_cases R:g.length=k.length
    ·rw[RY R,R,Nat.min_self];simp
    ·rw[RX R,show(g.length==k.length)=O' by simp;exact W.neN R,Bool.and_false]
   rw[e]at k1 k2
   erw[AG]
   refine#[k1,?_,k2]
   by_cases ea:a1=a2
   ·subst ea
    cases S.tuple_inj q1 q2
    rw[MU S n g k _ L Q T,MS n k M]
    exact .same _
   ·exact .of_refs ea k1
  ·erw[AG];refine#[?_,?_,?_]<;>exact .tuple_list p1 w h
  ·rcases Lo hy ry M with⟨rfl,rfl⟩|⟨b,rfl,rfl⟩|⟨i,t,rfl,rfl⟩|⟨c,t,rfl,rfl⟩<;>erw[AG,Kb,IW]<;>refine⟨?_,?_,?_⟩<;>with_reducible first|exact .list_none p1 h|exact .list_bool _ p1 h|exact .list_int _ _ p1 h|exact .list_str _ _ p1 h
  ·erw[AG];refine#[?_,?_,?_]<;>exact .list_tuple p1 w h
  ·obtain⟨l1,l2,E⟩:=P L M Q T Y r2
   erw[AG]
   have rc:RcAt A s (.ref a1) (.ref a2) (Cw g k)/\RcNeAt A s (.ref a1) (.ref a2) (!Cw g k):=by
    by_cases R:g.length=k.length
    ·have hs:m.toArray.size=F.toArray.size:=by rw[BR,BR,l1,l2,R]
     have k1:=RcAt.lists (e:=λj=>AG (g.getD j .non) (k.getD j .non)) p1 w hs h E
     have k2:=RcNeAt.lists (e:=λj=>AG (g.getD j .non) (k.getD j .non)) p1 w hs h E
     rw[BR,l1,<- RY R]at k1 k2
     exact#[k1,k2]
    ·rw[RX R]
     have hne:(m.toArray.size != F.toArray.size)=J':=by rw[BR,BR];simp;lia
     exact#[.lists_lengths p1 w hne h,.lists_lengths p1 w hne h]
   refine#[rc.1,?_,rc.2]
   by_cases ea:a1=a2
   ·subst ea
    cases S.list_inj q1 q2
    rw[MU S n g k _ L Q T,MS n k M]
    exact .same _
   ·exact .of_refs ea rc.1
end
def ZT:Nat:=12
@[simp] def BY(x y:D):O D:=if AT ZT x&&AT ZT y then Z (.bl (AG x y))else J
@[simp] def Cp(x y:D):O D:=if AT ZT x&&AT ZT y then Z (.bl (!AG x y))else J
def OT(K:Am)(neg:Bool):R2:=λx y H Q=>∃N a b,Aw K N H a x/\Aw K N H b y/\AT ZT a=J'/\AT ZT b=J'/\Q (.bl (if neg then !AG a b else AG a b)) H
section
variable{K:Am}{M:Fb}{a b:Expr}{f g:AB}
theorem XF(j:X.A.units+64<Aq):B2 X (C8 .Eq) (OT X.K O'):=by
 rintro a s k H x y v u Q l b c ⟨N,d,e,f,g,h,i,q⟩
 exact(MY l ZT X.A d e x y v u (by unfold ZT;lia) h i f g b c).1 X.prog X.w X.xe _ #[.bl _,H,l,rfl,q]
theorem RZ(j:X.A.units+64<Aq):B2 X (C8 .NotEq) (OT X.K J'):=by
 rintro a s k H x y v u Q l b c ⟨N,d,e,f,g,h,i,q⟩
 exact(MY l ZT X.A d e x y v u (by unfold ZT;lia) h i f g b c).2.2 X.prog X.w X.xe _ #[.bl _,H,l,rfl,q]
theorem XG:Dx K (OT K O') BY:=by
 intro N H x y b c d Q h f g e q
 obtain⟨a,e⟩:=ZX e
 rw[Co]at a;cases e;exact#[N,b,c,f,g,a.1,a.2,q _ H (Ai.refl H) Gy]
theorem R0:Dx K (OT K J') Cp:=by
 intro N H x y b c d Q h f g e q
 obtain⟨a,e⟩:=ZX e
 rw[Co]at a;cases e;exact#[N,b,c,f,g,a.1,a.2,q _ H (Ai.refl H) Gy]
def G5(x:D)(ys:U D):Bool:=ys.any λy=>AG y x
@[simp] def DC(neg:Bool)(x y:D):O D:=match y with
  |.lst a=>if AT ZT x&&a.all (AT ZT)then Z (.bl (if neg then !G5 x a else G5 x a))else J
  |.tup a=>if AT ZT x&&a.all (AT ZT)then Z (.bl (if neg then !G5 x a else G5 x a))else J
  |.str z=>match x with
   |.str w=>Z (.bl (if neg then !(!(Mp z w 0 z.length 1).isEmpty)else !(Mp z w 0 z.length 1).isEmpty))
   |_=>J
  |_=>J
def XH(K:Am)(neg:Bool):R2:=λx y H Q=>∃N a b c p,Aw K N H a x/\y=.ref p/\(BF K H p c\/B1 K H p c)/\Ad K N H b c/\AT ZT a=J'/\b.all (AT ZT)=J'/\Q (.bl (if neg then !G5 a b else G5 a b)) H
open Classical in
def FM(K:Am)(N:Fb)(H:Hp)(x:D)(u:Aa):Bool:=decide (∃d w,Aw K N H d w/\RelV w u/\AG d x=J')
theorem R5{a:AS}{s:Ab}(j:Inv X a I H s){N:Fb}{x d:D}{w:V}(hd:Aw X.K N H d w)(r:RelV w u){n:Nat}(c:AT n d=J'):FM X.K N H x u=AG d x:=by
 classical
 cases e:AG d x with
 |true=>exact @decide_eq_true _ (OO _) #[d,w,hd,r,e]
 |false=>
  refine @decide_eq_false _ (OO _) ?_
  rintro⟨f,h,b,g,i⟩
  have:=g.inj r
  subst this
  have:=XC j n d f _ c hd b
  simp_all
theorem R6{a:AS}{I:St}{H:Hp}{s:Ab}(f:Inv X a I H s){N:Fb}{x:D}:∀{ys:U D}{vs:U V}{us:U Aa},Ad X.K N H ys vs->An vs us->ys.all (AT ZT)=J'->us.any (FM X.K N H x)=G5 x ys
 |[],_,_,h,r,_=>by erw[Ad]at h;subst h;cases r;rfl
 |y::ys,_,_,h,r,o=>by
  erw[J8,Co]at o
  obtain⟨v,t,rfl,b,c⟩:=h
  cases r with
  |cons d e=>
   rw[List.any_cons,R5 f b.p d o.1,R6 f c e o.2]
   rfl
theorem R7{a:AS}{s:Ab}(z:Inv X a I H s){N:Fb}{A:Ag}{x:D}{c:V}{v:Aa}(l:A.units+ZT<Aq)(m:AT ZT x=J')(n:Aw X.K N H x c)(o:RelV c v){ys:U D}{us:U Aa}(h:Ad X.K N H ys vs)(r:An vs us)(d:ys.all (AT ZT)=J'):
  ∀u∈us,SeqAt.EqAt A s u v (FM X.K N H x u):=by
 intro u b
 obtain⟨j,q⟩:=List.getElem?_of_mem b
 have t:=r.length
 have e:=B8 (show j<vs.length by grind)
 obtain⟨w,f,g⟩:=r.get e
 rw[q]at f;cases f
 obtain⟨y,i,k⟩:=h.get' e
 rw[R5 z k.p g (CZ.mp d y (GY i))]
 exact(MY z ZT A y x _ _ _ _ l (CZ.mp d y (GY i)) m k.p n g o).2.1
theorem R8(b:Bool)(t:X.A.units+64<Aq):B2 X (C8 (bif b then .NotIn else .In)) (XH X.K b):=by
 rintro j s z H x y v u Q E k n ⟨N,c,B,C,p,l,rfl,d,hd,m,h,q⟩
 cases n
 have e:X.A.in1.units+ZT<Aq:=by rw[MV];unfold ZT;lia
 rcases d with d|d
 ·obtain⟨a,r,g,o⟩:=E.list d
  have f:∀w∈a.toArray,_:=λw i=>R7 E e m l k hd r h w (by simpa using i)
  cases b
  all_goals
   first|refine SeqAt.in_listAt (FM X.K N H c) g.isList f ⟨.bl _,H,E,rfl,?_⟩|refine SeqAt.notIn_listAt (FM X.K N H c) g.isList f ⟨.bl _,H,E,rfl,?_⟩
   rw[show a.toArray.any (FM X.K N H c)=a.any (FM X.K N H c) by simp,R6 E hd r h]
   exact q
 ·obtain⟨a,r,g,o⟩:=E.tuple d
  have f:∀w∈a.toArray,_:=λw i=>R7 E e m l k hd r h w (by simpa using i)
  cases b
  all_goals
   first|refine SeqAt.in_tupleAt (FM X.K N H c) g f ⟨.bl _,H,E,rfl,?_⟩|refine SeqAt.notIn_tupleAt (FM X.K N H c) g f ⟨.bl _,H,E,rfl,?_⟩
   rw[show a.toArray.any (FM X.K N H c)=a.any (FM X.K N H c) by simp,R6 E hd r h]
   exact q
theorem R9(b:Bool):Dx K (λx y H Q=>XH K b x y H Q\/∃i j,x=.str i/\y=.str j/\Q (.bl (if b then !(!(Mp j i 0 j.length 1).isEmpty)else !(Mp j i 0 j.length 1).isEmpty)) H) (DC b):=by
 intro N H x y n o d Q p f g e q
 unfold DC at e
 split at e
 ·obtain⟨c,e⟩:=ZX e
  rw[Co]at c;cases e;obtain⟨a,h,k,l,m⟩:=g;exact .inl #[N,n,_,h,a,f,k,.inl l,m,c.1,c.2,q _ H (Ai.refl H) Gy]
 ·obtain⟨c,e⟩:=ZX e
  rw[Co]at c;cases e;obtain⟨a,h,k,l,m⟩:=g.tup;exact .inl #[N,n,_,h,a,f,k,.inr l,m,c.1,c.2,q _ H (Ai.refl H) Gy]
 ·split at e
  ·cases e;exact .inr #[_,_,f.str,g.str,q _ H (Ai.refl H) Gy]
  ·cases e
 ·cases e
@[simp] noncomputable def Fm(lt:D->D->O Bool):U D->U D->O Bool
  |[],[]=>Z O'
  |[],_::_=>Z J'
  |_::_,[]=>Z O'
  |x::a,y::b=>if AT ZT x&&AT ZT y then(if AG x y then Fm lt a b else lt x y)else J
@[simp] noncomputable def ltN:Nat->D->D->O Bool
  |_,.int i,.int j=>Z (decide (i<j))
  |_,.str a,.str b=>Z (decide (a.cps.toList<b.cps.toList))
  |n+1,.tup c,.tup d=>Fm (ltN n) c d
  |n+1,.lst c .l,.lst d .l=>Fm (ltN n) c d
  |_,_,_=>J
@[simp] def F4(x y:D):O D:=(ltN 6 x y).map D.bl
def XJ(K:Am):R2:=λx y H Q=>∃N a c b,Aw K N H a x/\Aw K N H c y/\ltN 6 a c=Z b/\Q (.bl b) H
abbrev XM(X:Cx)(N:Fb)(H:Hp)(s:Ab)(n:Nat):Prop:=∀(A:Ag)(x y:D)(a c:V)(u v:Aa)(b:Bool),A.units+n+ZT<Aq->ltN n x y=Z b->Aw X.K N H x a->Aw X.K N H y c->RelV a u->RelV c v ->
  ∀(prog:AI) (d:Ah) (E Q:AJ),Q (.bool b) s->wpAny (Af prog d) A (richCompare .Lt u v) Q E s
theorem XN{i:AS}{s:Ab}(S:Inv X i I H s){N:Fb}(n:Nat)(M:XM X N H s n)(A:Ag)(Y:A.units+n+1+ZT<Aq){b:Bool}:∀(xs ys:U D)(a c:U V)(d f:U Aa),Fm (ltN n) xs ys=Z b->Ad X.K N H xs a->Ad X.K N H ys c->An a d->An c f->Fh A.in1 s d f b:=by
 intro xs
 induction xs with
 |nil=>
  intro ys a c d f h j g v k
  erw[Ad]at j;subst j;cases v
  cases ys with
  |nil=>erw[Ad]at g;subst g;cases k;cases h;exact .nn
  |cons y ys=>erw[Ad]at g;obtain⟨w,t,e,_,_⟩:=g;subst e;cases k;cases h;exact .nc
 |cons x xs z=>
  intro ys a c d f h j g v k
  erw[Ad]at j;obtain⟨w1,t1,P,l,B⟩:=j;subst P
  cases v with
  |cons m C=>
   cases ys with
   |nil=>erw[Ad]at g;subst g;cases k;cases h;exact .cn
   |cons y ys=>
    erw[Ad]at g;obtain⟨w2,t2,T,o,G⟩:=g;subst T
    cases k with
    |cons r F=>
     obtain⟨L,h⟩:=ZX h
     rw[Co]at L
     have u:=(MY S ZT A.in1 x y _ _ _ _ (by rw[MV];lia) L.1 L.2 l.p o.p m r).2.1
     split at h
     ·next e=>rw[e]at u;exact .eq u (z ys _ _ _ _ h B G C F)
     ·next e=>
      rw[Bool.not_eq_true]at e
      rw[e]at u
      exact .ne u λprog R E Q q=>M A.in1 x y _ _ _ _ b (by rw[MV];lia) h l.p o.p m r prog R E Q q
set_option tactic.hygienic true in
theorem Sa{g:AS}{s:Ab}(R:Inv X g I H s){N:Fb}(n:Nat):XM X N H s n:=by
 induction n with
 |zero=>
  intro A x y vx vy u v b hu h e f a c prog i E Q q
  unfold ltN at h
  split at h
  ·cases h;rw[e.int]at a;rw[f.int]at c;obtain⟨t,rfl⟩:=a;obtain⟨l,rfl⟩:=c;exact HT.rcLt_int A s _ _ _ _ prog i E Q q
  ·cases h;rw[e.str]at a;rw[f.str]at c;obtain⟨t,rfl⟩:=a;obtain⟨l,rfl⟩:=c;exact(PyProof.Rows.lt_str q:wpAny (Af prog i) A (C8 .Lt _ _) Q E s)
  ·next o=>cases o
  ·next o=>cases o
  ·cases h
 |succ n ih=>
  intro A x y vx vy u v b hu h e f a c prog i E Q q
  have d:=XN (N:=N) R n ih A (by lia) (b:=b)
  unfold ltN at h
  split at h
  ·cases h;rw[e.int]at a;rw[f.int]at c;obtain⟨t,rfl⟩:=a;obtain⟨l,rfl⟩:=c;exact HT.rcLt_int A s _ _ _ _ prog i E Q q
  ·cases h;rw[e.str]at a;rw[f.str]at c;obtain⟨t,rfl⟩:=a;obtain⟨l,rfl⟩:=c;exact(PyProof.Rows.lt_str q:wpAny (Af prog i) A (C8 .Lt _ _) Q E s)
  ·next m p r w=>
   cases w
   obtain⟨a1,z,B,C,G⟩:=e.tup
   obtain⟨a2,F,L,M,K⟩:=f.tup
   subst B L
   cases a
   cases c
   obtain⟨j,T,p1,_⟩:=R.tuple C
   obtain⟨k,P,p2,_⟩:=R.tuple M
   exact mF p1 p2 (by simpa using d p r _ _ _ _ h G K T P) (by lia) q
  ·next m p r w=>
   cases w
   obtain⟨a1,z,B,C,G⟩:=e
   obtain⟨a2,F,L,M,K⟩:=f
   subst B L
   cases a
   cases c
   obtain⟨j,T,⟨⟨cls,dd,data,sl⟩,n1,Y,hc1,hdd1,hd1⟩,_⟩:=R.list C
   obtain⟨k,P,⟨⟨cls2,dd2,data2,sl2⟩,n2,ho2,hc2,hdd2,hd2⟩,_⟩:=R.list M
   subst hc1 hd1 hc2 hd2
   exact mG Y ho2 (by simpa using d p r _ _ _ _ h G K T P) (by lia) q
  ·cases h
theorem XO(j:X.A.units+64<Aq):B2 X (C8 .Lt) (XJ X.K):=by
 rintro a s k H x y v u Q l c d ⟨N,e,f,b,g,h,i,q⟩
 exact Sa l 6 X.A e f x y v u b (by unfold ZT;lia) i g h c d X.prog X.w X.xe _ #[.bl b,H,l,rfl,q]
theorem XP:Dx K (XJ K) F4:=by
 intro N H x y a c d Q i f g e q
 obtain⟨b,h,e⟩:=BG.mp e
 cases e;exact#[N,a,c,b,f,g,h,q _ H (Ai.refl H) Gy]
end
section
variable{K:Am}{N:Fb}
theorem Paired.one'{a b:Type}{F:a->b->Prop}{x:a}{vs:U b}(h:Paired F [x] vs):∃v,vs=[v]/\F x v:=by
 cases h with
 |cons r t=>cases t;exact#[_,rfl,r]
theorem Paired.two'{a b:Type}{F:a->b->Prop}{x y:a}{vs:U b}(h:Paired F [x,y] vs):∃v w,vs=[v,w]/\F x v/\F y w:=by
 cases h with
 |cons r t=>
  obtain⟨w,e,q⟩:=Paired.one' t
  grind
@[simp] noncomputable def Zt:D3
  |[.lst a]=>Z (.int a.length)
  |[.tup a]=>Z (.int a.length)
  |[.str x]=>if x.length<=AA then Z (.int x.length)else J
  |_=>J
theorem XQ:FJ K (λxs H Q=>∃x n,xs=[x]/\Wt K x H n/\Q (.int n) H) Zt:=by
 intro N H j k d Q l h e q
 unfold Zt at e
 split at e
 ·cases e
  obtain⟨v,rfl,b⟩:=Paired.one' h
  obtain⟨a,c,rfl,f,g⟩:=b
  exact#[.ref a,_,rfl,.inl #[c,f,rfl],g.length ▸ q _ H (Ai.refl H) Fk]
 ·cases e
  obtain⟨v,rfl,b⟩:=Paired.one' h
  obtain⟨a,c,rfl,f,g⟩:=b.tup
  exact#[.ref a,_,rfl,.inr #[c,f,rfl],g.length ▸ q _ H (Ai.refl H) Fk]
 ·obtain⟨i,e⟩:=ZX e
  cases e
  obtain⟨v,rfl,b⟩:=Paired.one' h
  exact#[v,_,rfl,b.str ▸ #[i,rfl],q _ H (Ai.refl H) Fk]
 ·cases e
@[simp] noncomputable def G6:U D->A2
  |[.lst a]=>Z a
  |[.tup a]=>Z a
  |_=>J
theorem oR:OJ K (λxs H Q=>∃p ys,xs=[.ref p]/\(BF K H p ys\/B1 K H p ys)/\∀l,H l=J->Q (.ref l) (AN H l (.lst ys))) G6:=by
 intro N H i j xs Q k h e q
 unfold G6 at e
 split at e
 ·cases e
  obtain⟨v,rfl,c⟩:=Paired.one' h
  obtain⟨a,b,rfl,d,f⟩:=c
  exact#[a,b,rfl,.inl d,λl g=>q b l g f]
 ·cases e
  obtain⟨v,rfl,c⟩:=Paired.one' h
  obtain⟨a,b,rfl,d,f⟩:=c.tup
  exact#[a,b,rfl,.inr d,λl g=>q b l g f]
 ·cases e
@[simp] def Dp:D3
  |[.lst a]=>Z (.tup a)
  |[.tup a]=>Z (.tup a)
  |_=>J
theorem oS:FJ K (λxs H Q=>∃p ys,xs=[.ref p]/\((BF K H p ys/\∀l,H l=J->Q (.ref l) (AN H l (.tup ys)))\/(B1 K H p ys/\Q (.ref p) H))) Dp:=by
 intro N H j k d Q m h e q
 unfold Dp at e
 split at e
 ·cases e
  obtain⟨v,rfl,f⟩:=Paired.one' h
  obtain⟨a,b,rfl,c,g⟩:=f
  exact#[a,b,rfl,.inl #[c,λl i=>q _ _ (ZY i) (MQ i g)]]
 ·cases e
  obtain⟨v,rfl,f⟩:=Paired.one' h
  obtain⟨a,b,rfl,c,g⟩:=f.tup
  exact#[a,b,rfl,.inr #[c,q _ _ (Ai.refl H) (by erw[As];exact#[a,b,rfl,c,g])]]
 ·cases e
noncomputable def HS:U D->O (U Bool)
 |[]=>Z []
 |.bl b::r=>(HS r).map (b::·)
 |_=>J
theorem oU{bs:U Bool}(h:HS xs=Z bs):xs=bs.map D.bl:=by
 induction xs generalizing bs with
 |nil=>cases h;rfl
 |cons x r a=>cases x<;>first|cases h;done|(erw[HS,BG]at h;obtain⟨_,e,rfl⟩:=h;rw[a e];rfl)
theorem XR:∀{bs:U Bool}{vs:U V},Ad K N H (bs.map D.bl) vs->vs=bs.map V.bl
 |[],_,h=>by simpa only[Db,Ad]using h
 |b::bs,_,h=>by
  obtain⟨v,r,e,a,t⟩:=h
  subst e a
  rw[XR t];rfl
@[simp] def Dq:D3
  |[.lst a]=>(HS a).map λbs=>.bl (bs.all id)
  |_=>J
@[simp] def Sb:D3
  |[.lst a]=>(HS a).map λbs=>.bl (bs.any id)
  |_=>J
set_option tactic.hygienic true in
theorem oV{b:Bool}:FJ K (λxs H Q=>∃(a:Ac)(bs:U Bool),xs=[.ref a]/\BF K H a (bs.map V.bl)/\Q (.bl (bif b then bs.all id else bs.any id)) H) (bif b then Dq else Sb):=by
 intro N H i j d Q k h e q
 cases b
 all_goals
  first|change Dq _=_ at e;unfold Dq at e|change Sb _=_ at e;unfold Sb at e
  split at e
  ·next xs=>
   obtain⟨bs,g,rfl⟩:=BG.mp e
   obtain⟨v,rfl,a,l,rfl,c,f⟩:=Paired.one' h
   rw[oU g]at f
   rw[XR f]at c
   exact#[a,bs,rfl,c,q _ H (Ai.refl H) Gy]
  ·cases e
@[simp] noncomputable def OU:D3
  |[.int i,.int j]=>Z (.int (if j>i then j else i))
  |_=>J
@[simp] def OV:D3
  |[.int i,.int j]=>Z (.int (if j<i then j else i))
  |_=>J
theorem oW:FJ K (λxs H Q=>∃i j,xs=[.int i,.int j]/\Q (.int (if j>i then j else i)) H) OU:=by
 intro N H c f d Q g h e q
 unfold OU at e
 split at e
 ·cases e
  obtain⟨v,w,rfl,a,b⟩:=Paired.two' h
  exact#[_,_,by rw[a.int,b.int],q _ H (Ai.refl H) Fk]
 ·cases e
theorem oX:FJ K (λxs H Q=>∃i j,xs=[.int i,.int j]/\Q (.int (if j<i then j else i)) H) OV:=by
 intro N H c f d Q g h e q
 unfold OV at e
 split at e
 ·cases e
  obtain⟨v,w,rfl,a,b⟩:=Paired.two' h
  exact#[_,_,by rw[a.int,b.int],q _ H (Ai.refl H) Fk]
 ·cases e
@[simp] def intD:D3
  |[.int i]=>Z (.int i)
  |[.bl k]=>Z (.int (if k then 1 else 0))
  |_=>J
theorem oY:FJ K (λxs H Q=>(∃i,xs=[.int i]/\Q (.int i) H)\/∃k,xs=[.bl k]/\Q (.int (if k then 1 else 0)) H) intD:=by
 intro N H b c d Q f h e q
 unfold intD at e
 split at e
 ·cases e
  obtain⟨v,rfl,a⟩:=Paired.one' h
  exact .inl #[_,by rw[a.int],q _ H (Ai.refl H) Fk]
 ·cases e
  obtain⟨v,rfl,a⟩:=Paired.one' h
  exact .inr #[_,by rw[a.bl],q _ H (Ai.refl H) Fk]
 ·cases e
def G7:U D->O (U Int)
 |[]=>Z []
 |.int b::r=>(G7 r).map (b::·)
 |_=>J
theorem XU{bs:U Int}(h:G7 xs=Z bs):xs=bs.map D.int:=by
 induction xs generalizing bs with
 |nil=>cases h;rfl
 |cons x r a=>cases x<;>first|cases h;done|(erw[G7,BG]at h;obtain⟨_,e,rfl⟩:=h;rw[a e];rfl)
theorem XV:∀(ns:U Int),G7 (ns.map D.int)=Z ns
 |[]=>rfl
 |n::ns=>by erw[A3,G7,XV ns];rfl
theorem Sc:∀{bs:U Int}{vs:U V},Ad K N H (bs.map D.int) vs->vs=bs.map V.int
 |[],_,h=>by simpa only[Db,Ad]using h
 |b::bs,_,h=>by
  obtain⟨v,r,e,a,t⟩:=h
  subst e a
  rw[Sc t];rfl
end
section
theorem oZ(g:X.calm=J'):Ea X (.builtin "sum") (λxs H Q=>∃(a:Ac)(ns:U Int),xs=[.ref a]/\BF X.K H a (ns.map V.int)/\Q (.int ns.sum) H):=by
 rintro d s o H xs t Q x r ⟨a,ns,rfl,h,q⟩
 obtain⟨u,rfl,i⟩:=EW r
 cases i
 obtain⟨b,e,p,v⟩:=x.list h
 obtain⟨c,f⟩:=(Ox e).allInts.items
 refine sum_intListG (x.ok.hd g) (f ▸ p.isList) λw j k l=>?_
 have m:ns=c.toList.map (·.1):=by
  rw[<- nums_intItems,<- f]
  exact(show numsOf b.toArray.toList=ns from(Ox e).numsOf).symm
 have n:preSum (numAt c) c.size=ns.sum:=by
  rw[preSum_eq,Sd (by simp),m]
 rw[n]
 exact#[.int ns.sum,H,x.kept (t':=j) l,#[_,rfl],q]
theorem XW{b:Bool}(h:X.calm=J'):Ea X (.builtin (bif b then "min" else "max")) (λxs H Q=>∃(a:Ac)(ns:U Int),xs=[.ref a]/\BF X.K H a (ns.map V.int)/\0<ns.length/\∀m,m∈ns->(∀a,a∈ns->bif b then m<=a else a<=m)->Q (.int m) H):=by
 rintro i s G H xs F Q M r ⟨a,ns,rfl,x,y,q⟩
 obtain⟨u,rfl,z⟩:=EW r
 cases z
 obtain⟨A,k,p,L⟩:=M.list x
 obtain⟨d,e⟩:=(Ox k).allInts.items
 have f:ns=d.toList.map (·.1):=by rw[<- (Ox k).numsOf,<- nums_intItems,<- e]
 have c:0<d.size:=by
  grind
 cases b
 all_goals
  first|refine min_intList (M.ok.hd h) (e ▸ p.isList) c λv B l n o=>?_|refine max_intList (M.ok.hd h) (e ▸ p.isList) c λv B l n o=>?_
  obtain⟨t,rfl⟩:=intItems_at n
  have C:=argBest_lt (numAt d) (d.size-1)
  have E:=argBest_gt (numAt d) (d.size-1)
  refine#[.int _,H,M.kept (t':=l) o,#[t,rfl],q _ ?_ λb w=>?_]
  ·rw[f,numAt_eq];exact getD_mem (by rw[Bh,Re];lia)
  ·rw[f]at w
   obtain⟨j,g,rfl⟩:=mem_getD w
   rw[Bh,Re]at g
   rw[<- numAt_eq];first|exact C.2 j ((OW c).mpr g)|exact E.2 j ((OW c).mpr g)
end
def Se:U Int->O Int
 |[]=>J
 |x::a=>Z (a.foldl (λm y=>if y<m then y else m) x)
def Sf:U Int->O Int
 |[]=>J
 |x::a=>Z (a.foldl (λm y=>if y>m then y else m) x)
theorem XY:∀(xs:U Int)(x:Int),(xs.foldl (λm y=>if y<m then y else m) x)∈x::xs/\∀a∈x::xs,(xs.foldl (λm y=>if y<m then y else m) x)<=a
 |[],x=>by simp
 |y::b,x=>by
  obtain⟨c,d⟩:=XY b (if y<x then y else x)
  grind [Bk]
theorem XZ:∀(xs:U Int)(x:Int),(xs.foldl (λm y=>if y>m then y else m) x)∈x::xs/\∀a∈x::xs,a<=(xs.foldl (λm y=>if y>m then y else m) x)
 |[],x=>by simp
 |y::b,x=>by
  obtain⟨c,d⟩:=XZ b (if y>x then y else x)
  grind [Bk]
theorem o0{ns:U Int}{m k:Int}(h:Se ns=Z k)(b:m∈ns)(c:∀a,a∈ns->m<=a):m=k:=by
 cases ns with
 |nil=>cases h
 |cons x d=>
  cases h
  grind [XY]
theorem o4{ns:U Int}{m k:Int}(h:Sf ns=Z k)(b:m∈ns)(c:∀a,a∈ns->a<=m):m=k:=by
 cases ns with
 |nil=>cases h
 |cons x d=>
  cases h
  grind [XZ]
section
variable{K:Am}
@[simp] def OY:D3
  |[.lst a]=>(G7 a).map λns=>.int ns.sum
  |_=>J
@[simp] def MZ:D3
  |[.lst a]=>((G7 a).bind Se).map D.int
  |_=>J
@[simp] def M0:D3
  |[.lst a]=>((G7 a).bind Sf).map D.int
  |_=>J
set_option tactic.hygienic true in
theorem o5:FJ K (λxs H Q=>∃(a:Ac)(ns:U Int),xs=[.ref a]/\BF K H a (ns.map V.int)/\Q (.int ns.sum) H) OY:=by
 intro N H g i d Q j h e q
 unfold OY at e
 split at e
 ·next xs=>
  obtain⟨bs,f,rfl⟩:=BG.mp e
  obtain⟨v,rfl,a,k,rfl,b,c⟩:=Paired.one' h
  rw[XU f]at c
  rw[Sc c]at b
  exact#[a,bs,rfl,b,q _ H (Ai.refl H) Fk]
 ·cases e
set_option tactic.hygienic true in
theorem X0{b:Bool}:FJ K (λxs H Q=>∃(a:Ac)(ns:U Int),xs=[.ref a]/\BF K H a (ns.map V.int)/\0<ns.length/\∀m,m∈ns->(∀a,a∈ns->bif b then m<=a else a<=m)->Q (.int m) H) (bif b then MZ else M0):=by
 intro N H o p d Q r h e q
 cases b
 all_goals
  first|change MZ _=_ at e;unfold MZ at e|change M0 _=_ at e;unfold M0 at e
  split at e
  ·next xs=>
   obtain⟨k,l,rfl⟩:=BG.mp e
   obtain⟨bs,n,c⟩:=BL.mp l
   obtain⟨v,rfl,a,s,rfl,f,g⟩:=Paired.one' h
   rw[XU n]at g
   rw[Sc g]at f
   refine#[a,bs,rfl,f,?_,λm i j=>?_]
   ·cases bs with
    |nil=>cases c
    |cons=>simp
   ·first|rw[o0 c i j]|rw[o4 c i j]
    exact q _ H (Ai.refl H) Fk
  ·cases e
@[simp] noncomputable def Lp:D->O String
  |.non=>Z "NoneType"
  |.bl _=>Z "bool"
  |.int _=>Z "int"
  |.str _=>Z "str"
  |.tup _=>Z "tuple"
  |.lst _=>Z "list"
  |.lst _ .d=>J
  |.lst _ (.i _ _)=>J
  |.ty _=>J
def Lq(t n:String):Bool:=t==n||(t=="bool"&&n=="int")
end
noncomputable def GA:U String:=["NoneType","bool","int","str","tuple","list"]
theorem X1(K:Am):∀t∈GA,∀n∈GA,PySem.W.kitOne K (.type t) (.type n)=Z (Lq t n):=by
 intro t a n b
 erw[GA,BK,HU,or_false]at a b
 rcases a with rfl|rfl|rfl|rfl|rfl|rfl<;>rcases b with rfl|rfl|rfl|rfl|rfl|rfl<;>with_unfolding_all rfl
theorem X2(K:Am){t:String}(a:t∈GA):∀(ns:U String),(∀n∈ns,n∈GA)->PySem.W.kitAny K (.type t) (ns.map Value.type)=Z (ns.any λn=>Lq t n)
 |[],_=>rfl
 |n::ns,h=>by
  erw[A3,PySem.W.kitAny,X1 K t a n (h n Bk),X2 K a ns λm b=>h m (Bu _ b),List.any_cons]
  cases Lq t n<;>rfl
theorem X3{d:D}{t:String}(h:Lp d=Z t):t∈GA:=by
 cases d with
 |lst b a=>cases a<;>simp[Lp]at h;subst h;simp[GA]
 |_=>simp[Lp]at h<;>subst h<;>simp[GA]
section
variable{K:Am}
theorem o6{h:AS}{s:Ab}(A:Inv X h I H s){N:Fb}{d:D}{x:V}{t:String}(g:Aw X.K N H d x)(c:RelV x u)(f:Lp d=Z t):
  ∃p:Ak->Prop,PySem.W.KitX X.K u (.type t) p/\p s.heap/\u≠.builtin "__main__.__loader__#opaque":=by
 cases d with
 |non=>cases f;rw[g.non]at c;cases c;exact#[_,PySem.W.kitx_none,trivial,λz=>nomatch z]
 |bl b=>cases f;rw[g.bl]at c;cases c;exact#[_,PySem.W.kitx_bool,trivial,λz=>nomatch z]
 |int b=>cases f;rw[g.int]at c;obtain⟨t,rfl⟩:=c;exact#[_,PySem.W.kitx_int,trivial,λz=>nomatch z]
 |str b=>cases f;rw[g.str]at c;obtain⟨t,rfl⟩:=c;exact#[_,PySem.W.kitx_str,trivial,λz=>nomatch z]
 |ty n=>cases f
 |tup v=>
  cases f
  obtain⟨a,w,e,q,r⟩:=g.tup
  subst e;cases c
  obtain⟨j,_,⟨o,k,m,_⟩,_⟩:=A.tuple q
  exact#[_,PySem.W.kitx_tuple,#[o,k,m],λz=>nomatch z]
 |lst v y=>
  cases y with
  |d=>cases f
  |i _ _=>cases f
  |l=>
  cases f
  obtain⟨a,w,e,q,r⟩:=g
  subst e;cases c
  obtain⟨j,_,⟨o,n,k,m,_⟩,_⟩:=A.list q
  exact#[_,PySem.W.kitx_list,#[o,k,m],λz=>nomatch z]
@[simp] def C0:D->O (U String)
  |.ty n=>Z [n]
  |.tup a=>tysL a
  |_=>J
where tysL:U D->O (U String)
 |[]=>Z []
 |.ty n::r=>(tysL r).map (n::·)
 |_=>J
theorem o7{ns:U String}(h:C0.tysL xs=Z ns):xs=ns.map D.ty:=by
 induction xs generalizing ns with
 |nil=>cases h;rfl
 |cons x r a=>cases x<;>first|cases h;done|(erw[C0.tysL,BG]at h;obtain⟨_,e,rfl⟩:=h;rw[a e];rfl)
@[simp] def Ca:D3
  |[x,c]=>(C0 c).bind λns=>if(∀n∈ns,n∈GA)then(Lp x).map λt=>.bl (ns.any λn=>Lq t n)else J
  |_=>J
def X4(K:Am):U V->Hp->VK->Prop:=λa H Q=>∃N d c x y ns t,a=[x,y]/\Aw K N H d x/\Aw K N H c y/\C0 c=Z ns/\(∀n∈ns,n∈GA)/\Lp d=Z t/\Q (.bl (ns.any λn=>Lq t n)) H
theorem X5{N:Fb}{H:Hp}:∀{ns:U String}{vs:U V},Ad K N H (ns.map D.ty) vs->vs=ns.map V.ty
 |[],_,h=>by simpa only[Db,Ad]using h
 |b::bs,_,h=>by
  obtain⟨v,r,e,a,t⟩:=h
  subst e a
  rw[X5 t];rfl
theorem X6:∀{ns:U String}{us:U Aa},An (ns.map V.ty) us->us=ns.map Value.type
 |[],_,r=>by cases r;rfl
 |n::ns,_,r=>by
  cases r with
  |cons a b=>cases a;rw[X6 b];rfl
theorem X7:Ea X (.builtin "isinstance") (X4 X.K):=by
 rintro k s L H m M Q zA r ⟨N,d,c,x,y,ns,t,rfl,o,l,b,f,h,q⟩
 obtain⟨u,P,rfl,v,i⟩:=Mr r
 obtain⟨T,S,p,g⟩:=o6 zA o v h
 cases c with
 |ty n=>
  cases b
  rw[l.ty]at i;cases i
  exact PySem.W.kia_one S zA.kIn p (X1 X.K t (X3 h) n (f n (by simp))) g λj=>#[.bl _,H,zA.tok j,rfl,by simpa using q]
 |tup m=>
  have e:=o7 b
  subst e
  obtain⟨a,R,e,w,dl⟩:=l.tup
  subst e;cases i
  obtain⟨z,A,⟨⟨cls,Y,data,sl⟩,B,C,n,E⟩,_⟩:=zA.tuple w
  subst C E
  have G:=X5 dl
  subst G
  have F:=X6 A
  subst F
  exact PySem.W.kia_tup S zA.kIn p B (X2 X.K (X3 h) ns f) g λj=>#[.bl _,H,zA.tok j,rfl,q]
 |non=>cases b
 |bl _=>cases b
 |int _=>cases b
 |str _=>cases b
 |lst _=>cases b
set_option tactic.hygienic true in
theorem X8:FJ K (X4 K) Ca:=by
 intro N H j k d Q l h e q
 unfold Ca at e
 split at e
 ·next x c=>
  cases a:C0 c with
  |none=>rw[a]at e;cases e
  |some ns=>
   rw[a]at e
   obtain⟨b,e⟩:=ZX e
   obtain⟨t,f,e⟩:=BG.mp e
   cases e
   obtain⟨v,w,rfl,g,i⟩:=Paired.two' h
   exact#[N,x,c,v,w,ns,t,rfl,g,i,a,b,f,q _ H (Ai.refl H) Gy]
 ·cases e
theorem Sg{M:Fb}{x:Ae}{n:String}(a:Gl X x)(b:X.mg x=J)(c:DO x=Z (.type n))(d:x≠"__name__":=by ext)(hd:Cg x:=by ext):JE X (.Name x pos) (tD K M H0 λ_=>Z (.ty n)):=#[Le (V2 a b c (v:=.ty n) rfl d hd) λ_ _=>by erw[As]]
theorem o8{M:Fb}{x:Ae}{v:V}{d:D}(b:Gl X x)(h:∃u,X.mg x=Z u/\RelV v u)(hd:∀N H,As K N H d v)(a:Cg x:=by ext):JE X (.Name x pos) (tD K M H0 λ_=>Z d):=#[by
 obtain⟨u,c,r⟩:=h
 exact Le (Rb b c r a) hd]
end
section
variable{K:Am}{M:Fb}{a b c e:Expr}{f g h:AB}
theorem vv(i:Nat){x:Ae}(a:NV X i x:=by exact EB):
  PE X (.Name x pos) (tD K M H0 λρ=>A1 ρ i):=mK a
theorem o9(i:Nat){x:Ae}(a:NV X i x:=by exact EB):JE X (.Name x pos) (tD K M H0 λρ=>A1 ρ i):=#[vv i a]
theorem vp(i:Nat){x:Ae}(a:NV X i x:=by exact EB):
  PE X (.Name x pos) (tP K M H0 λρ=>Bd ρ i):=mL a
theorem pa(i:Nat){x:Ae}(a:NV X i x:=by exact EB):JE X (.Name x pos) (tP K M H0 λρ=>Bd ρ i):=#[vp i a]
theorem pb(i:Nat){x:Ae}(a:NV X i x:=by exact EB):JE X (.Name x pos) (tQ K M H0 λρ=>BB ρ i):=#[nS a]
theorem Sh(i:Nat){x:Ae}(a:NV X i x:=by exact EB):JE X (.Name x pos) (Gv K M H0 λρ=>Ec ρ i):=#[nj a]
theorem pc(i:Nat){x:Ae}{a:Az}(b:NV X i x:=by exact EB):JS X (.Return (Z (.Name x a)) pos) (tS K M H0 λρ=>ZK (DH ρ i)):=#[Xr rfl (λ_=>rfl) MF b]
theorem pe(e:X.A.units+64<Aq)(c:JE X a (tP X.K M H0 f))(d:JE X b (tP X.K M H0 g)):JE X (.Compare a [.Eq] [b] pos) (tD X.K M H0 (Za BY f g)):=#[have c:=c.h;have d:=d.h;OH (XF e) XG c d (Ge _ (by ext) (by ext))]
theorem pf(e:X.A.units+64<Aq)(c:JE X a (tP X.K M H0 f))(d:JE X b (tP X.K M H0 g)):JE X (.Compare a [.Gt] [b] pos) (tD X.K M H0 (Za E3 f g)):=#[have c:=c.h;have d:=d.h;OH Wo (Lk _) c d (Ge _ (by ext) (by ext))]
theorem ph(e:X.A.units+64<Aq)(c:JE X a (tP X.K M H0 f))(d:JE X b (tP X.K M H0 g))(i:FA .In b=O':=by with_unfolding_all rfl):JE X (.Compare a [.In] [b] pos) (tD X.K M H0 (Za (DC O') f g)):=#[have c:=c.h;have d:=d.h;OH ((R8 O' e).or Wp) (R9 O') c d i]
theorem pi(e:X.A.units+64<Aq)(c:JE X a (tP X.K M H0 f))(d:JE X b (tP X.K M H0 g)):JT X (.Compare a [.Eq] [b] pos) (BC X.K M H0 λρ=>AR (Za BY f g ρ)):=#[have c:=c.h;have d:=d.h;HJ (XF e) XG c d (Ge _ (by ext) (by ext))]
theorem pj(e:X.A.units+64<Aq)(c:JE X a (tP X.K M H0 f))(d:JE X b (tP X.K M H0 g)):JT X (.Compare a [.NotEq] [b] pos) (BC X.K M H0 λρ=>AR (Za Cp f g ρ)):=#[have c:=c.h;have d:=d.h;HJ (RZ e) R0 c d (Ge _ (by ext) (by ext))]
theorem pq(e:X.A.units+64<Aq)(c:JE X a (tP X.K M H0 f))(d:JE X b (tP X.K M H0 g)):JT X (.Compare a [.Lt] [b] pos) (BC X.K M H0 λρ=>AR (Za F4 f g ρ)):=#[have c:=c.h;have d:=d.h;HJ (XO e) XP c d (Ge _ (by ext) (by ext))]
theorem pr(e:X.A.units+64<Aq)(c:JE X a (tP X.K M H0 f))(d:JE X b (tP X.K M H0 g)):JT X (.Compare a [.Gt] [b] pos) (BC X.K M H0 λρ=>AR (Za E3 f g ρ)):=#[have c:=c.h;have d:=d.h;HJ Wo (Lk _) c d (Ge _ (by ext) (by ext))]
theorem pu(e:X.A.units+64<Aq)(c:JE X a (tP X.K M H0 f))(d:JE X b (tP X.K M H0 g)):JT X (.Compare a [.GtE] [b] pos) (BC X.K M H0 λρ=>AR (Za MP f g ρ)):=#[have c:=c.h;have d:=d.h;HJ kS (Lk _) c d (Ge _ (by ext) (by ext))]
theorem pv(e:X.A.units+64<Aq)(c:JE X a (tP X.K M H0 f))(d:JE X b (tP X.K M H0 g))(i:FA .NotIn b=O':=by with_unfolding_all rfl):JT X (.Compare a [.NotIn] [b] pos) (BC X.K M H0 λρ=>AR (Za (DC J') f g ρ)):=#[have c:=c.h;have d:=d.h;HJ ((R8 J' e).or kT) (R9 J') c d i]
@[simp] noncomputable def Kc(F b:D->D->O D)(f g h:AB):AB:=λa=>(f a).bind λx=>(g a).bind λy=>match F x y with
  |some (.bl J')=>(h a).bind λz=>b y z
  |some (.bl O')=>Z (.bl O')
  |_=>J
theorem px{r s:R2}{F t:D->D->O D}(A:Dx K r F)(k:Dx K s t){Q:VK}(q:tD K M H0 (Kc F t f g h) I H Q):Wq r s (tP K M H0 f) (tP K M H0 g) (tP K M H0 h) I H Q:=by
 obtain⟨b,d,R,e,q⟩:=q
 unfold Kc at e
 cases i:f b with
 |none=>rw[i]at e;cases e
 |some x=>
  cases l:g b with
  |none=>rw[i,l]at e;cases e
  |some y=>
   rw[i,l]at e
   erw[De]at e
   refine#[b,x,R,i,λv Y j B=>#[b,y,R.st j,l,λu C c m=>?_]]
   have R2:=(R.st j).st c
   split at e
   ·next n=>
    obtain⟨z,G,e⟩:=BL.mp e
    exact A _ C v u x y _ _ R2.nh (B.same c) m n λw E a o=>#[J',by simpa only[As]using o,IN #[b,z,R2.st a,G,λX P p L=>k _ P u X y z d Q (((R2.st a).st p)).nh ((m.same a).same p) L e λN S T W=>q N S ((((j.trans c).trans a).trans p).trans T) W]]
   ·next n=>
    cases e
    exact A _ C v u x y _ _ R2.nh (B.same c) m n λw E a o=>#[O',by simpa only[As]using o,IP (q _ E ((j.trans c).trans a) Gy)]
   ·cases e
theorem X9{op d:CmpOp}{r m:R2}{F n:D->D->O D}(o:B2 X (C8 op) r)(e:B2 X (C8 d) m)(p:Dx K r F)(i:Dx K m n)(j:JE X a (tP K M H0 f))(k:JE X b (tP K M H0 g))(l:JE X c (tP K M H0 h))(s:lastMarks [op,d] [b,c]=O':=by with_unfolding_all rfl):JE X (.Compare a [op,d] [b,c] pos) (tD K M H0 (Kc F n f g h)):=#[have j:=j.h;have k:=k.h;have l:=l.h;(kX o e j k l s).mono λ_ _ _ q=>px p i q]
@[simp] noncomputable def ZQ:O D->O Bool
  |some .non=>Z O'
  |some (.bl b)=>Z b
  |some (.int i)=>Z (i != 0)
  |some (.str y)=>if y.length<=AA then Z ((y.length:Int) != 0)else J
  |some (.lst a)=>Z (!a.isEmpty)
  |some (.tup a)=>Z (!a.isEmpty)
  |_=>J
theorem Ad.isEmpty{N:Fb}(h:Ad K N H xs vs):vs.isEmpty=xs.isEmpty:=by
 cases xs with
 |nil=>erw[Ad]at h;subst h;rfl
 |cons x xs=>erw[Ad]at h;obtain⟨_,_,e,_⟩:=h;subst e;rfl
theorem pz(i:JE X a (tP X.K M H0 f))(n:∀b,isTrue a X.env b=(do let v <- b;standAt a.pos;D8 [v] (truthy v)):=by intro _;rfl):JT X a (BC X.K M H0 λρ=>ZQ (f ρ)):=#[have i:=i.h;(kZ i n).mono λt H Q o=>by
  obtain⟨ρ,k,R,e,q⟩:=o
  try dsimp only at e q
  unfold ZQ at e
  split at e
  ·next c=>cases e;exact#[ρ,_,R,c,λv d s g=>#[_,by rw[g.non];rfl,q d s]]
  ·next c=>cases e;exact#[ρ,_,R,c,λv d s g=>#[_,by rw[g.bl];rfl,q d s]]
  ·next c=>cases e;exact#[ρ,_,R,c,λv d s g=>#[_,by rw[g.int];rfl,q d s]]
  ·next c=>
   obtain⟨r,e⟩:=ZX e
   cases e;exact#[ρ,_,R,c,λv d s g=>#[_,g.str ▸ #[r,rfl],q d s]]
  ·next c=>
   cases e
   refine#[ρ,_,R,c,λv d s g=>#[_,?_,q d s]]
   obtain⟨p,j,rfl,l,m⟩:=g
   exact .inl #[j,l,by rw[m.isEmpty]]
  ·next c=>
   cases e
   refine#[ρ,_,R,c,λv d s g=>#[_,?_,q d s]]
   obtain⟨p,j,rfl,l,m⟩:=g.tup
   exact .inr #[j,l,by rw[m.isEmpty]]
  ·cases e]
@[simp] def Zv:D->A2
  |.lst a=>Z a
  |.tup a=>Z a
  |.str x=>Z (x.cps.toList.map λc=>D.str #[(T' [c])])
  |_=>J
theorem pA{l:Expr}(b:JE X l (tQ X.K M H0 f)):JI X tg l (tI X.K M H0 λρ=>(f ρ).bind Zv):=#[have b:=b.h;λa s c H g p m=>by
 obtain⟨ρ,j,R,e,q⟩:=m
 obtain⟨d,k,e⟩:=BL.mp e
 cases d with
 |lst n o=>
  cases o with
  |d=>cases e
  |i _ _=>cases e
  |l=>exact nV b a s c H g p #[ρ,j,R,by dsimp only;rw[k];exact e,q]
 |tup n=>exact nW b a s c H g p #[ρ,j,R,by dsimp only;rw[k];exact e,q]
 |str x=>exact nX b a s c H g p #[ρ,j,R,by dsimp only;rw[k];exact e,q]
 |_=>cases e]
@[simp] def Lr(i:Nat)(o:A2)(ρ:VE):DA:=match DH ρ i,o with
  |some a,Z b=>if a.length+b.length<=AA then .next (ρ.set i (.own (a++b)))else .fail
  |_,_=>.fail
theorem pB{fl:VE->A2}{i:Nat}{x:Ae}{c d g:Az}(k:JE X e (tF K M H0 fl))(A:NV X i x:=by exact EB)(B:Dv (.Call (.Attribute (.Name x c) "extend" d) [e] [] g) J pos.line X.env=AC O':=by rfl)(hz:BA X x c "extend" d e g:=by exact Xk):JS X (.Expr (.Call (.Attribute (.Name x c) "extend" d) [e] [] g) pos) (tS K M H0 λρ=>Lr i (fl ρ) ρ):=#[have k:=k.h;(Rf (J0 RS PySem.F.slot_list_extend PySem.F.type_list_extend ma (Gs A) (Es k Bm hz.s) hz.b hz.f hz.l hz.s hz.p) B).mono λP L H C=>by
  obtain⟨ρ,R,q⟩:=C
  cases j:DH ρ i with
  |none=>erw[j,Lr]at q;exact BP q
  |some E=>
   cases m:fl ρ with
   |none=>erw[j,m,Lr]at q;exact BP q
   |some n=>
    erw[j,m,Lr]at q
    split at q
    ·next hz=>
     obtain⟨a,o,v,N,S,w,y⟩:=R.slot i _ (MF j)
     refine#[.ref a,(ZP v),.inl #[rfl,o,.inl (.inl w)],ρ,n,R,m,λp r Q s G t z=>?_]
     obtain⟨R2,T⟩:=(R.st s).chg (ys:=E++n) (ws:=o++r) (MF j) (ZP v) ((y.same s).append (z.nw λb u=>.inl (.inl u)))
     exact#[a,p,o,r,rfl,rfl,s _ _ w,t,by rw[<- y.length,<- (z.nw λb u=>.inl (.inl u)).length];exact hz,q _ _ R2 ((Step.of_same s).trans T)]
    ·exact BP q]
end
end L2
variable{xs:U L2.D}{ρ:L2.VE}{fl k':L2.Kd}{fa:L2.Do}{fx:L2.VE->O (L2.D×L2.VE)}{fo:L2.VE->O L2.Sl}{lo:L2.VE->O (O Int)}{ff:L2.VE->O (U L2.D)}
namespace L2
theorem Ya{e:PySem.Expr}{t:TT}(h:JW X e t):JT X e t:=#[h.h.pt]
open PyProof.Rows PySem PySem.Spec
section
variable{K:Am}
def OZ(i:Nat)(b c:O D)(ρ:VE):DA:=match DH ρ i,b,c with
 |some a,Z (.int k),Z d=>match DG a.length k with
  |some j=>.next (ρ.set i (.own (a.set j d)))
  |none=>.fail
 |_,_,_=>.fail
set_option tactic.hygienic true in
theorem pC{M:Fb}{i:Nat}{x:Ae}{b c:Az}{g e:Expr}{fi f:AB}(n:JE X g (tP K M H0 fi))(o:JE X e (tD K M H0 f))(C:NV X i x:=by exact EB) (E:∀v,assign (.Subscript (.Name x b) g c) X.env v=(do
   let m <- D8 [v] (Ao (.Name x b) X.env)
   let p <- D8 [v,m] (Ao g X.env)
   standAt c
   D8 [v,m,p] (setItem m p v)
   release [v,m,p] []):=by intro _;rfl) (G:swapsWithSole [.Subscript (.Name x b) g c] e pos.line X.env=AC O':=by rfl) (r:swappedStores [.Subscript (.Name x b) g c] e X.env=AC J:=by rfl) (W:(F1 [.Subscript (.Name x b) g c] X.env).map (·.2)=[assign (.Subscript (.Name x b) g c) X.env]:=by rfl):JS X (.Assign [.Subscript (.Name x b) g c] e pos) (tS K M H0 λρ=>OZ i (fi ρ) (f ρ) ρ):=#[have n:=n.h;have o:=o.h;(Rj o (Rh (Gs C) n lV E) G r W).mono λD' I H F=>by
 obtain⟨ρ,R,q⟩:=F
 try dsimp only at q
 unfold OZ at q
 split at q
 ·next L k d u s N=>
  split at q
  ·next j P=>
   refine#[ρ,d,R,N,λv H1 y Q=>?_]
   have t:=R.st y
   obtain⟨a,z,A,z1,z2,T,B⟩:=t.slot i _ (MF u)
   refine#[.ref a,(ZP A),ρ,.int k,t,s,λw H2 l r=>?_]
   obtain⟨S,Y⟩:=(t.st l).chg (ys:=L.set j d) (ws:=z.set j v) (MF u) (ZP A) (Ad.set j (B.same l) (Q.same l))
   exact#[a,z,k,j,rfl,r.int,l _ _ T,B.length ▸ P,q _ _ S ((Step.of_same (y.trans l)).trans Y)]
  ·exact BP q
 ·exact BP q]
def Yb(K:Am)(r:V->U V->Hp->VK->Prop)(F:Ae->D3):Prop:=∀(N:Fb)(H:Hp)(z:Ae)(c:U V)(e:U D)(d:D)(Q:VK),(∀a,N a->H a≠J)->Paired (Aw K N H) e c->F z e=Z d ->
 (∀v b,Ai H b->As K N b d v->Q v b)->r (.str z) c H Q
@[simp] def O0(F:Ae->D3)(f:AB)(b:Do):AB:=λa=>match f a with
  |some (.str z)=>((b a).bind Gw).bind (F z)
  |_=>J
section
variable{M:Fb}{o e:Expr}{f:AB}{name:Ae}{id:String}{r:V->U V->Hp->VK->Prop}{F:Ae->D3}
set_option tactic.hygienic true in
theorem pD(s:PlainAttrs "str")(slot:Slot "str" name id)(i:typeOf (.builtin id)=AC (.type "method_descriptor"))(t:Mx X id r)(u:Yb X.K r F)(j:JE X o (tP X.K M H0 f))(k:JA X (e::es) (CL X.K M H0 fa))(b:Gk o name X.env (Ao o X.env)=Ao o X.env:=by rfl) (g:((Ay cpos (AE (e::es) X.env)).all (λx=>!x.1)&&(Gm cpos (Gn [] X.env)).all (λx=>x.1.isSome)
   && decide ((e::es).length+([]:U Et).length+(if([]:U Et).isEmpty then 0 else 1)<30))=J':=by rfl) (c:(apos.endLine==cpos.line)=J':=by rfl) (y:AE (e::es) X.env=(O',Ao e X.env)::AE es X.env:=by exact Z1 rfl) (a:(Ay cpos (AE es X.env)).any (·.1)=O':=by rfl):JE X (.Call (.Attribute o name apos) (e::es) [] cpos) (tD X.K M H0 (O0 F f fa)):=#[have j:=j.h;have k:=k.h;(J0 s slot i t j k b g c y a).mono λY H Q A=>by
 obtain⟨l,d,R,ex,q⟩:=A
 unfold O0 at ex
 split at ex
 ·next z B=>
  cases m:fa l with
  |none=>rw[m]at ex;cases ex
  |some C=>
   rw[m]at ex
   obtain⟨E,G,ex⟩:=BL.mp ex
   refine#[l,.str z,R,B,λv H1 n zA=>?_]
   rw[zA.str]
   exact#[rfl,l,C,R.st n,m,λP L p N=>u _ L z P E d Q ((R.st n).st p).nh (OL N G) ex λw S T W=>q w S ((n.trans p).trans T) W]
 ·cases ex]
end
def IX:U D->O (U Ae)
 |[]=>Z []
 |.str b::r=>(IX r).map (b::·)
 |_=>J
theorem pE{bs:U Ae}(h:IX xs=Z bs):xs=bs.map D.str:=by
 induction xs generalizing bs with
 |nil=>cases h;rfl
 |cons x r a=>cases x<;>first|cases h;done|(erw[IX,BG]at h;obtain⟨_,e,rfl⟩:=h;rw[a e];rfl)
@[simp] theorem Yc:∀(ns:U Ae),IX (ns.map D.str)=Z ns
  |[]=>rfl
  |n::ns=>by erw[A3,IX,Yc ns];rfl
theorem Yd{N:Fb}{H:Hp}:∀{bs:U Ae}{vs:U V},Ad K N H (bs.map D.str) vs->vs=bs.map V.str
 |[],_,h=>by simpa only[Db,Ad]using h
 |b::bs,_,h=>by
  obtain⟨v,r,e,a,t⟩:=h
  subst e a
  rw[Yd t];rfl
@[simp] def O1(z:Ae):D3
  |[.lst b]=>(IX b).bind λa=>if(a.map (·.length)).sum+a.length*z.length<=16777216 then Z (.str (Txt.join z a))else J
  |_=>J
set_option tactic.hygienic true in
theorem pF:Yb K (Xb K) O1:=by
 intro N H z k l d Q m h e q
 unfold O1 at e
 split at e
 ·next g=>
  cases b:IX g with
  |none=>rw[b]at e;cases e
  |some i=>
   rw[b]at e
   obtain⟨j,e⟩:=ZX e
   cases e
   obtain⟨v,rfl,a,n,rfl,c,f⟩:=Paired.one' h
   rw[pE b]at f
   rw[Yd f]at c
   exact#[z,a,i,rfl,rfl,c,j,q _ H (Ai.refl H) OQ]
 ·cases e
set_option tactic.hygienic true in
end
section
variable{s:Ab}{h':Ak}
theorem Inv.turnedL{f:U Ac}(A:Inv X pins I H s)(g:∀b∈f,FD X pins H b)(k:∀b o,b∉f->s.heap.get? b=Z o->h'.get? b=Z o):Inv X pins I H {s with heap:=h' }:=by
 have d:∀b u,H b=Z u->b∉f:=λb u e z=>by rw[(g b z).1]at e;cases e
 refine A.step (g':=s.gens) (d':=s.drawn) (t':=s.toks) (ch:=f) (λb h=>?_) (λb o _ _ a e _=>k b o a e) (λb o _ _ a e _=>#[o.slots,k b o a e]) (λ_ _ _ _ n=>n)
  (λb o a e=>#[o,k b o a e]) (λ_ _ e=>e) (λ_ _ _ e=>e) (λb G e=>#[(T' []),by rw[e];simp]) (λm i=>?_) (λb u e=>?_) A.bare
 ·obtain⟨_,j,_,l,p,t⟩:=g b h
  exact#[l,j,p,t]
 ·obtain⟨o,w,x,y,r⟩:=i
  exact#[o,w,x,k _ o (λz=>(g _ z).2.1 rfl) y,r]
 ·refine(A.hok b u e).stay (λc v a q=>k c v ?_ q) (λ_ q=>q) λ_ _ q=>q
  rcases a with z|z
  ·rw[z];exact d b u e
  ·exact d c _ z
theorem Inv.yielded{g:U Ac}{p:Ac}(K:Inv X pins I H s)(i:∀b∈g,FD X pins H b)(k:∀b o,b∉g->s.heap.get? b=Z o->h'.get? b=Z o)(j:s.heap.objs.size<=p)
  (new:AY X.prog X.w (AN H p (.tup vs)) h' p (.tup vs)):Inv X pins I (AN H p (.tup vs)) {s with heap:=h' }:=by
 have d:∀b u,H b=Z u->b∉g:=λb u e z=>by rw[(i b z).1]at e;cases e
 have f:H p=J:=K.hok.fresh j
 refine K.step (g':=s.gens) (d':=s.drawn) (t':=s.toks) (ch:=g) (λb h=>?_) (λb o _ _ a e _=>k b o a e) (λb o _ _ a e _=>#[o.slots,k b o a e]) (λb o _ e n=>?_)
  (λb o a e=>#[o,k b o a e]) (λb l e=>?_) (λb o u e=>?_) (λb F e=>#[(T' []),?_]) (λm t=>?_) (λb u e=>?_) K.bare
 ·obtain⟨_,x,_,y,A,B⟩:=i b h
  exact#[y,x,A,B]
 ·rw[Zq (BX (BE (Br e) j))];exact n
 ·rw[Zq (ZV e f)];exact e
 ·rw[Zq (ZV e f)];exact e
 ·rw[Zq (ZV e f),e];simp
 ·obtain⟨o,C,E,G,r⟩:=t
  exact#[o,C,E,k _ o (λz=>(i _ z).2.1 rfl) G,r]
 ·by_cases h:b=p
  ·subst h;rw[ZZ]at e;cases e;exact new
  ·rw[Zq h]at e
   refine(K.hok b u e).stay (λc v a q=>k c v ?_ q) (λc q=>Zq (ZV q f) ▸ q) λc l q=>Zq (ZV q f) ▸ q
   rcases a with z|z
   ·rw[z];exact d b u e
   ·exact d c _ z
end
theorem pG:DO "enumerate"=Z (.type "enumerate"):=by decide +kernel
def C3:Nat->U D->U D
 |_,[]=>[]
 |k,d::a=>.tup [.int k,d]::C3 (k+1) a
theorem Si:∀(xs:U D)(k:Nat),(C3 k xs).length=xs.length
 |[],_=>rfl
 |_::xs,k=>by simp[C3,Si xs]
theorem Ye:∀(xs:U D)(k i:Nat),(C3 k xs)[i]?=(xs[i]?).map λd=>D.tup [.int ((k+i:Nat):Int),d]
 |[],_,_=>by simp[C3]
 |x::xs,k,0=>by simp[C3]
 |x::xs,k,i+1=>by
  erw[C3,Fn,Ye xs]
  rw[show k+1+i=k+(i+1) by lia]
abbrev T3:=KT×V×V
noncomputable def DK:U T3->U V
 |[]=>[]
 |t::r=>t.2.1::t.2.2::DK r
def Cy:U T3->KT->O V
 |[],_=>J
 |t::r,k=>if t.1=k then Z t.2.2 else Cy r k
noncomputable def G8:U T3->KT->V->U T3
 |[],_,_=>[]
 |t::r,k,v=>(if t.1=k then(t.1,t.2.1,v)else t)::G8 r k v
def Eg(tr:U T3)(k:KT)(kv v:V):U T3:=if(Cy tr k).isSome=J' then G8 tr k v else tr++[(k,kv,v)]
theorem Yf(k:KT)(v:V):∀tr:U T3,(G8 tr k v).map (·.1)=tr.map (·.1)
 |[]=>rfl
 |t::r=>by
  erw[G8,A3,Yf k v r]
  split<;>rfl
theorem Yg{k:KT}:∀{tr:U T3},Cy tr k=J->k∉tr.map (·.1)
 |[],_=>by simp
 |t::r,h=>by
  unfold Cy at h
  split at h
  ·cases h
  ·next e=>
   erw[A3,BK,not_or]
   exact#[λz=>e z.symm,Yg h]
theorem Lu{tr:U T3}{k:KT}{kv v:V}(h:(tr.map (·.1)).Nodup):((Eg tr k kv v).map (·.1)).Nodup:=by
 unfold Eg
 split
 ·rw[Yf];exact h
 ·next e=>
  rw[FN,Lv]
  refine#[h,by simp,λa c b d=>?_]
  have f:Cy tr k=J:=by
   simp_all
  grind [Yg]
theorem Yh(k:KT)(v:V):∀tr:U T3,(G8 tr k v).length=tr.length
 |[]=>rfl
 |t::r=>by simp[G8,Yh k v r]
theorem Yi(tr:U T3)(k:KT)(kv v:V):(Eg tr k kv v).length<=tr.length+1:=by
 unfold Eg
 split
 ·rw[Yh];exact M1 tr.length 1
 ·simp
theorem G9{a:At}(h:RelV (F0 a) u):Iu a u=J':=by
 cases a with
 |non=>cases h;rfl
 |int i=>obtain⟨t,rfl⟩:=h;exact jy i t
 |str x=>obtain⟨t,rfl⟩:=h;exact jz x t
theorem pH{a:At}(h:Iu a u=J'):RelV (F0 a) u:=by
 rcases Iv h with⟨rfl,rfl⟩|⟨i,t,rfl,rfl⟩|⟨x,t,rfl,rfl⟩
 ·rfl
 ·exact#[t,rfl]
 ·exact#[t,rfl]
abbrev RA:U T3->U (At×Aa)->Prop:=Paired λt u=>t.1=.at u.1/\t.2.1=F0 u.1/\RelV t.2.2 u.2
theorem Yj{P:AI}{w:Ah}:∀{tr:U T3}{es:U Hv},JL w (tr.map (·.1)) (DK tr) es->(∀t∈tr,∃a,t.1=KT.at a) ->
  ∃us,RA tr us/\Pairs (ZC P w) es us/\∀e∈es,∃k,(ZC P w).is k e.key=J'/\e.hash=(ZC P w).hash k
 |[],es,h,_=>by
  obtain⟨_,rfl⟩:=h
  exact#[[],.nil,.nil,λ_ z=>nomatch z]
 |t::r,es,h,l=>by
  obtain⟨kv,v,q,e,n,c,o,f,p,g,d,s⟩:=h
  obtain⟨a,m⟩:=l t Bk
  erw[DK,O2]at c
  obtain⟨c,i,b⟩:=c
  subst c i o b
  dsimp only at g d
  rw[m]at g d
  obtain⟨us,u,x,y⟩:=Yj (P:=P) s λt A=>l t (Bu _ A)
  rw[d]at f
  refine#[(a,e.val)::us,.cons #[m,d,p] u,.cons (G9 f) rfl x,λB j=>?_]
  rcases BK.mp j with rfl|j
  ·exact#[a,G9 f,g]
  ·exact y B j
theorem pI{P:AI}{w:Ah}{tr:U T3}{us:U (At×Aa)}{es:U Hv}(h:RA tr us)(g:Pairs (ZC P w) es us)(a:∀e∈es,∃k,(ZC P w).is k e.key=J'/\e.hash=(ZC P w).hash k):
  JL w (tr.map (·.1)) (DK tr) es:=by
 induction h generalizing es with
 |nil=>cases g;exact#[rfl,rfl]
 |@cons t _ r _ h _ d=>
  obtain⟨b,c,f⟩:=h
  cases g with
  |@cons e _ es _ p1 i j=>
   refine#[t.2.1,t.2.2,DK r,e,es,rfl,rfl,?_,?_,?_,?_,d j λe l=>a e (Bu _ l)]
   ·rw[c];exact pH p1
   ·rw[i];exact f
   ·obtain⟨k,m,n⟩:=a e Bk
    have:=(ZC P w).inj _ _ _ m p1
    subst this
    dsimp only;rw[b];exact n
   ·dsimp only;rw[b];exact c
theorem RA.val{tr:U T3}{us:U (At×Aa)}(h:RA tr us)(a:At):Cj (Cy tr (.at a)) (valueAt us a):=by
 induction h with
 |nil=>exact GX
 |@cons t u _ _ h _ b=>
  unfold Cy valueAt
  rw[h.1,List.find?_cons]
  by_cases e:u.1=a
  ·rw[if_pos (by rw[e])];erw[e,decide_true];exact h.2.2
  ·rw[if_neg (λz=>e (KT.at.inj z))];erw[e,decide_false];exact b
theorem Cj.isS:∀{o:O V}{u:O Aa},Cj o u->o.isSome=u.isSome
 |some _,Z _,_=>rfl
 |none,J,_=>rfl
 |some _,J,h=>h.elim
 |none,Z _,h=>h.elim
theorem RA.rep{a:At}{v:V}(d:RelV v u){tr:U T3}{us:U (At×Aa)}(h:RA tr us):RA (G8 tr (.at a) v) (us.map λkv=>if kv.1=a then(kv.1,u)else kv):=by
 induction h with
 |nil=>exact .nil
 |@cons t w _ _ h _ f=>
  refine .cons ?_ f
  obtain⟨b,c,g⟩:=h
  dsimp only
  by_cases e:w.1=a
  ·rw[if_pos e,if_pos (b.trans (congrArg _ e))];exact#[b,c,d]
  ·rw[if_neg e,if_neg λz=>e (KT.at.inj (b.symm.trans z))];exact#[b,c,g]
theorem Paired.snoc'{a b:Type}{F:a->b->Prop}{x:a}{y:b}(h:F x y){l:U a}{m:U b}(t:Paired F l m):Paired F (l++[x]) (m++[y]):=t.snoc h
theorem pJ{us:U (At×Aa)}{a:At}:(us.any λkv=>decide (kv.1=a))=(valueAt us a).isSome:=by
 unfold valueAt
 grind
theorem RA.put{tr:U T3}{us:U (At×Aa)}{a:At}{v:V}(h:RA tr us)(b:RelV v u):RA (Eg tr (.at a) (F0 a) v) (stored us a u):=by
 unfold Eg stored
 rw[pJ,(h.val a).isS]
 by_cases e:(valueAt us a).isSome=J'
 ·rw[if_pos e,if_pos e];exact h.rep b
 ·rw[if_neg e,if_neg e];exact Paired.snoc' #[rfl,rfl,b] h
theorem RA.fst{tr:U T3}{us:U (At×Aa)}(h:RA tr us):tr.map (·.1)=(us.map (·.1)).map KT.at:=by
 induction h with
 |nil=>rfl
 |cons h _ a=>rw[A3,A3,A3,h.1,a]
abbrev RT:U T3->U (U At×Ac×Aa)->Prop:=Paired λt u=>t.1=.tup u.1/\t.2.1=.ref u.2.1/\RelV t.2.2 u.2.2
theorem Yk{P:AI}{w:Ah}:∀{tr:U T3}{es:U Hv},JL w (tr.map (·.1)) (DK tr) es->(∀t∈tr,∃l,t.1=KT.tup l) ->
  ∃us,RT tr us/\es=us.map (entryOfKey (tupleKind (ZC P w)))
 |[],es,h,_=>by
  obtain⟨_,rfl⟩:=h
  exact#[[],.nil,rfl]
 |t::r,es,h,f=>by
  obtain⟨kv,v,q,⟨k,m,n⟩,o,b,s,g,u,c,d,x⟩:=h
  obtain⟨l,i⟩:=f t Bk
  erw[DK,O2]at b
  obtain⟨b,e,a⟩:=b
  subst b e s a
  dsimp only at c d
  rw[i]at c d
  obtain⟨us,y,z⟩:=Yk (P:=P) x λt A=>f t (Bu _ A)
  obtain⟨p,j⟩:=(d:∃p,t.2.1=.ref p)
  rw[j]at g
  cases(g:m=Ci p)
  refine#[(l,p,n)::us,.cons #[i,j,u] y,?_]
  rw[A3,<- z]
  have:k=(KT.tup l).hash w:=c
  rw[this];rfl
theorem pK{P:AI}{w:Ah}{tr:U T3}(h:RT tr us):JL w (tr.map (·.1)) (DK tr) (us.map (entryOfKey (tupleKind (ZC P w)))):=by
 induction h with
 |nil=>exact#[rfl,rfl]
 |@cons t _ r _ h _ a=>
  refine#[t.2.1,t.2.2,DK r,_,_,rfl,rfl,?_,h.2.2,?_,?_,a]
  ·rw[h.2.1];rfl
  ·dsimp only;rw[h.1];rfl
  ·dsimp only;rw[h.1];exact#[_,h.2.1]
theorem RT.val{tr:U T3}(h:RT tr us)(l:U At):Cj (Cy tr (.tup l)) ((atKey us l).map (·.2)):=by
 induction h with
 |nil=>exact GX
 |@cons t u _ _ h _ a=>
  unfold Cy atKey
  rw[h.1,List.find?_cons]
  by_cases e:u.1=l
  ·rw[if_pos (by rw[e])];erw[e,decide_true];exact h.2.2
  ·rw[if_neg (λz=>e (KT.tup.inj z))];erw[e,decide_false];exact a
theorem RT.rep{l:U At}{v:V}(c:RelV v u){tr:U T3}(h:RT tr us):RT (G8 tr (.tup l) v) (us.map (putAt l u)):=by
 induction h with
 |nil=>exact .nil
 |@cons t w _ _ h _ d=>
  refine .cons ?_ d
  obtain⟨a,b,f⟩:=h
  unfold putAt
  by_cases e:w.1=l
  ·rw[if_pos e,if_pos (a.trans (congrArg _ e))];exact#[a,b,c]
  ·rw[if_neg e,if_neg λz=>e (KT.tup.inj (a.symm.trans z))];exact#[a,b,f]
theorem RT.put{tr:U T3}{l:U At}{p:Ac}{v:V}(h:RT tr us)(a:RelV v u):RT (Eg tr (.tup l) (.ref p) v) (storedH us l p u):=by
 unfold Eg storedH
 have b:=(h.val l).isS
 rw[Option.isSome_map]at b
 rw[b]
 by_cases e:(atKey us l).isSome=J'
 ·rw[if_pos e,if_pos e];exact h.rep a
 ·rw[if_neg e,if_neg e];exact Paired.snoc' #[rfl,rfl,a] h
theorem RT.fst{tr:U T3}(h:RT tr us):tr.map (·.1)=(us.map (·.1)).map KT.tup:=by
 induction h with
 |nil=>rfl
 |cons h _ a=>rw[A3,A3,A3,h.1,a]
theorem Yl{c d:Type}{f:c->d}(e:∀a b,f a=f b->a=b):∀{l:U c},(l.map f).Nodup->l.Nodup
 |[],_=>List.nodup_nil
 |a::l,h=>by
  grind
def Ev(K:Am)(H:Hp):KT->V->Prop
 |.at a,v=>v=F0 a
 |.tup l,v=>∃p,v=.ref p/\B1 K H p (l.map F0)
theorem Ym{P:AI}{w:Ah}:∀{a:U At}{us:U Aa},An (a.map F0) us->ItemsAre (ZC P w) a us
 |[],_,r=>by rw[Db]at r;cases r;exact .nil
 |k::a,_,r=>by
  cases r with
  |cons h t=>exact .cons (G9 h) (Ym t)
def HV:KT->U T3->Prop
 |.at _,tr=>∀t∈tr,∃a,t.1=KT.at a
 |.tup _,tr=>∀t∈tr,∃l,t.1=KT.tup l
def Cr(K:Am)(H:Hp)(a:Ac)(tr:U T3):Prop:=Rd H a (.dct (tr.map (·.1)) (DK tr))/\∀t∈tr,Ev K H t.1 t.2.1
section
variable{s:Ab}{p:Ac}{y v:V}{r:Aa}{o:O V}{A:Ag}{tr:U T3}{k:KT}
theorem IY{l:U At}(e:Inv X pins I H s)(h:B1 X.K H p (l.map F0)):(tupleKind (ZC X.prog X.w)).is s.heap l p:=by
 obtain⟨a,r,⟨o,b,c,n,d⟩,_⟩:=e.tuple h
 exact#[o,a.toArray,n,b,c,d,by simpa using Ym r]
theorem M2(q:Inv X pins I H s)(h:Cr X.K H a tr)(c:∀t∈tr,∃a,t.1=KT.at a):tr.length<=AA/\(a==Gd)=O'/\(tr.map (·.1)).Nodup/\∃us,RA tr us/\s.heap.DictOf (ZC X.prog X.w) a us:=by
 obtain⟨z,d,nd,o,f,g,i,j,k,l⟩:=h.1.ok q.hok
 obtain⟨us,b,m,n⟩:=Yj (P:=X.prog) l c
 refine#[by simpa using z,d,nd,us,b,o,f,g,i,j,k,λe p=>n e (by simpa using p),m,?_]
 rw[b.fst]at nd
 exact Yl (λ_ _ z=>KT.at.inj z) nd
theorem Lw(M:Inv X pins I H s)(h:Cr X.K H a tr)(j:∀t∈tr,∃l,t.1=KT.tup l):tr.length<=AA/\(a==Gd)=O'/\(tr.map (·.1)).Nodup/\∃us,RT tr us/\s.heap.DictOfH (tupleKind (ZC X.prog X.w)) a us:=by
 obtain⟨z,k,nd,o,n,d,r,v,y,A⟩:=h.1.ok M.hok
 obtain⟨us,f,B⟩:=Yk (P:=X.prog) A j
 have c:=nd
 rw[f.fst]at c
 refine#[by simpa using z,k,nd,us,f,o,n,d,r,v,y,B,λx b=>?_,Yl (λ_ _ z=>KT.tup.inj z) c]
 have all:∀{l:U T3} {m:U (U At×Ac×Aa)},RT l m->(∀t∈l,Ev X.K H t.1 t.2.1)->∀x∈m,(tupleKind (ZC X.prog X.w)).is s.heap x.1 x.2.1:=by
  intro l m q
  induction q with
  |nil=>intro _ x b;exact nomatch b
  |@cons t u F us g L C=>
   intro i x b
   rcases BK.mp b with e|b
   ·subst e
    have:=i t Bk
    rw[g.1,g.2.1]at this
    obtain⟨p,d,E⟩:=this
    cases d
    exact IY M E
   ·exact C (λt G=>i t (Bu _ G)) x b
 exact all f h.2 x b
theorem Cj.to:∀{v:V}{o:O Aa},Cj (Z v) o->∃w,o=Z w/\RelV v w
 |_,Z w,h=>#[w,rfl,h]
 |_,J,h=>h.elim
theorem pL{Q:AJ}(t:A.units+1<Aq)(F:Inv X pins I H s)(h:Cr X.K H a tr)(m:HV k tr)(n:Ev X.K H k y)(o:RelV y u)(r:Cy tr k=Z v)(q:∀e s',Inv X pins I H s'->RelV v e->Q e s'):
  wpAny (Af X.prog X.w) A (getItem (.ref a) u) Q E s:=by
 cases k with
 | «at» b=>
  cases n
  obtain⟨z,hd,nd,x,c,g⟩:=M2 F h m
  have f:=c.val b
  rw[r]at f
  obtain⟨e,i,d⟩:=f.to
  exact wpAny_getItem_of (knd:=ZC X.prog X.w) (G9 o) g.mapOf i (q e _ (F.tok _) d)
 |tup l=>
  obtain⟨p,rfl,C⟩:=n
  cases(show u=Ci p from o)
  obtain⟨z,hd,nd,x,c,g⟩:=Lw F h m
  have f:=c.val l
  rw[r]at f
  obtain⟨e,i,d⟩:=f.to
  obtain⟨B,G,j⟩:=BG.mp i
  refine wpAny_getItem_heap (Lx t) (IY F C) g G ?_
  rw[j]
  exact q e _ (F.tok _) d
theorem Yn(c:Bool){Q:AJ}(i:A.units+1<Aq)(g:Inv X pins I H s)(h:Cr X.K H a tr)(j:HV k tr)(m:Ev X.K H k y)(f:RelV y u)(q:∀s',Inv X pins I H s'->Q (.bool (bif c then !(Cy tr k).isSome else(Cy tr k).isSome)) s'):
  wpAny (Af X.prog X.w) A (C8 (bif c then .NotIn else .In) u (.ref a)) Q E s:=by
 cases k with
 | «at» b=>
  cases m
  obtain⟨z,hd,nd,o,d,e⟩:=M2 g h j
  rw[(d.val b).isS]at q
  cases c
  ·exact wpAny_in_of (knd:=ZC X.prog X.w) (G9 f) hd e.mapOf (q _ (g.tok _))
  ·exact wpAny_notIn_of (knd:=ZC X.prog X.w) (G9 f) hd e.mapOf (q _ (g.tok _))
 |tup l=>
  obtain⟨p,rfl,n⟩:=m
  cases(show u=Ci p from f)
  obtain⟨z,hd,nd,o,d,e⟩:=Lw g h j
  rw[(d.val l).isS,Option.isSome_map]at q
  cases c
  ·exact wpAny_in_heap (Lx i) (IY g n) hd e (q _ (g.tok _))
  ·exact wpAny_notIn_heap (Lx i) (IY g n) hd e (q _ (g.tok _))
theorem Ly{h':Ak}{ob:HO}(h:Inv X pins I H s)(c:Mf (H a))(d:DP a s.heap h')(f:∃q,h'.get? a=Z q)(new:AY X.prog X.w (AN H a ob) h' a ob):
  Inv X pins I (AN H a ob) {s with heap:=h',toks:=t' }:=
 h.write (x:=a) (e:=a) c (.inl rfl) (λb q g z=>(d.2 b g).trans z) f new
def EF(tr:U T3):HO:=.dct (tr.map (·.1)) (DK tr)
theorem Sj{P:AI}{w:Ah}{h':Ak}{us:U (At×Aa)}(z:tr.length<=AA)(hd:(a==Gd)=O')(nd:(tr.map (·.1)).Nodup)(b:RA tr us)(dd:h'.DictOf (ZC P w) a us):AY P w H' h' a (EF tr):=by
 obtain⟨o,c,d,f,g,h,i,j,l⟩:=dd
 exact#[by simpa using z,hd,nd,o,c,d,f,g,h,pI b j λe k=>i e (by simpa using k)]
theorem Sk{P:AI}{w:Ah}{h':Ak}(z:tr.length<=AA)(hd:(a==Gd)=O')(nd:(tr.map (·.1)).Nodup)(b:RT tr us)(dd:h'.DictOfH (tupleKind (ZC P w)) a us):AY P w H' h' a (EF tr):=by
 obtain⟨o,c,d,e,f,g,h,i,j⟩:=dd
 refine#[by simpa using z,hd,nd,o,c,d,e,f,g,?_]
 rw[h]
 exact pK b
theorem Yo(b:Bool)(j:A.units+1<Aq)(G:Inv X pins I H s)(e:H a=Z (EF tr))(g:∀t∈tr,Ev X.K H t.1 t.2.1)(L:HV k tr)(M:Ev X.K H k y)(B:RelV y u)(x:RelV v r)(F:tr.length<AA)
  (q:∀h' t',Inv X pins I (AN H a (EF (Eg tr k y v))) {s with heap:=h',toks:=t' }->DP a s.heap h'->Q () {s with heap:=h',toks:=t' }):wpAny (Af X.prog X.w) (bif b then A.in1 else A) (bif b then dictSet a u r else setItem (.ref a) u r) Q E s:=by
 have i:(Eg tr k y v).length<=AA:=by have:=Yi tr k y v;lia
 cases k with
 | «at» c=>
  cases M
  obtain⟨z,hd,nd,C,f,n⟩:=M2 G #[.inl e,g] L
  have o:C.length<=AA:=Gc f ▸ z
  cases b
  ·exact wpAny_setItem_pairs (knd:=ZC X.prog X.w) (hsz:=o) (G9 B) n λh' d h=>q _ _ (Ly G (e ▸ GX) h (let⟨q,_,_,m,_⟩:=d;#[q,m]) (Sj i hd (Lu nd) (f.put x) d)) h
  ·exact wpAny_dictSet_pairs (knd:=ZC X.prog X.w) (hsz:=o) (G9 B) n λh' d h=>q _ _ (Ly G (e ▸ GX) h (let⟨q,_,_,m,_⟩:=d;#[q,m]) (Sj i hd (Lu nd) (f.put x) d)) h
 |tup l=>
  obtain⟨p,rfl,N⟩:=M
  cases(show u=Ci p from B)
  obtain⟨z,hd,nd,C,f,n⟩:=Lw G #[.inl e,g] L
  have o:C.length<=AA:=Gc f ▸ z
  cases b
  ·exact wpAny_setItem_heap (hsz:=o) (Lx j) (IY G N) n λh' d h=>q _ _ (Ly G (e ▸ GX) h (let⟨q,_,_,m,_⟩:=d;#[q,m]) (Sk i hd (Lu nd) (f.put x) d)) h
  ·exact wpAny_dictSet_heap (hsz:=o) (Lx j) (IY G N) n λh' d h=>q _ _ (Ly G (e ▸ GX) h (let⟨q,_,_,m,_⟩:=d;#[q,m]) (Sk i hd (Lu nd) (f.put x) d)) h
end
end L2
namespace PySem
section
variable{prog:AI}{w:Ah}{K:Type}[DecidableEq K]{knd:HeapKind prog w K}{A:Ag}{s:Ab}
theorem pM{d:Ac}{xs:U (K×Ac×Aa)}{k:K}{v:Aa}{Q:AJ}(l:knd.room A)(b:knd.is s.heap k a)(r:s.heap.DictOfH knd d xs)(hsz:xs.length<=AA)
  (t:∀p,atKey xs k=Z p->Q p.2 {s with toks:=s.toks+knd.draws k})
  (u:atKey xs k=J->∀h',h'.DictOfH knd d (storedH xs k a v)->DP d s.heap h'->Q v {s with heap:=h',toks:=s.toks+knd.draws k}):
  wpAny (Af prog w) A (dictSetDefault d (.ref a) v) Q E s:=by
 obtain⟨o,B,y,f,z,hd,i,h,m⟩:=r
 unfold dictSetDefault
 try with_reducible refine FC ?_
 refine Al (knd.pyHash l b ?_)
 refine Al (wpAny_dictFind_heap (s:={s with toks:=s.toks+knd.draws k}) l b f hd i h m ?_ ?_)
 ·intro c
  have n:k∉xs.map (·.1):=not_mem_keys_of_get c
  refine Al (IG (Al (wpAny_updateDictKeys (hz:=by have e:=size_of_entries i;lia) (s:={s with toks:=s.toks+knd.draws k}) f hd (AO (u (atKey_none_of_get c) _ #[_,_,y+1,My _ f (Obj.isFreed_of_dict (Obj.data_mapDictKeys hd _)),
   z.mapDictKeys _,Obj.data_mapDictKeys hd _,?_,?_,?_] (Lz ..))))))
  ·rw[storedH_new (atKey_none_of_get c)]
   simp[i,entryOfKey]
  ·rw[storedH_new (atKey_none_of_get c)]
   intro x g
   rcases Dn.mp g with g|g
   ·exact knd.keeps (h x g) f hd (Lz ..)
   ·erw[D9]at g
    subst g
    exact knd.keeps b f hd (Lz ..)
  ·rw[storedH_new (atKey_none_of_get c)]
   grind [FN,Lv,A3,Db,D9]
 ·intro j p q
  refine Al (wpAny_dictEntries (s:={s with toks:=s.toks+knd.draws k}) f hd ?_)
  rw[entry_at i j,q]
  exact Al (IG (AO (t p (atKey_of_get m q))))
theorem pN{k:K}(d:Ac)(hd:(d==Gd)=O')(dflt:Aa):
  MeetsIn prog w (Fi.«dict.setdefault» #[[.ref d,.ref a,dflt],[]]) (λA R s=>knd.room A.in1/\∃xs,knd.is s.heap k a/\s.heap.DictOfH knd d xs/\xs.length<=AA /\
   (∀p,atKey xs k=Z p->R (.ok (.ret p.2)) {s with toks:=s.toks+knd.draws k}) /\
   (atKey xs k=J->∀h',h'.DictOfH knd d (storedH xs k a dflt)->DP d s.heap h'->R (.ok (.ret dflt)) {s with heap:=h',toks:=s.toks+knd.draws k})):=
 .of_wp λA R s g=>by
  obtain⟨h,xs,b,f,i,j,l⟩:=g
  refine Al ?_
  refine Al (wpAny_notOrdered_dict f.typeIs ?_)
  refine AO ?_
  show wpAny _ _ (if(d==Gd)=J' then _ else(dictSetDefault d (.ref a) dflt >>= _)) _ _ s
  rw[if_neg (hd ▸ Me)]
  exact Al (pM h b f i (λp m=>AO #[p.2,rfl,j p m]) λn h' c e=>AO #[dflt,rfl,l n h' c e])
end
end PySem
namespace L2
open PySem PySem.Spec PyProof.Rows
def Yp(K:Am):R2:=λx y H Q=>∃a tr k v,x=.ref a/\Cr K H a tr/\HV k tr/\Ev K H k y/\Cy tr k=Z v/\Q v H
def Sn(K:Am)(neg:Bool):R2:=λx y H Q=>∃a tr k,y=.ref a/\Cr K H a tr/\HV k tr/\Ev K H k x/\Q (.bl (neg != (Cy tr k).isSome)) H
def pO(K:Am):On:=λo i v H Q=>∃a tr k,o=.ref a/\H a=Z (EF tr)/\(∀t∈tr,Ev K H t.1 t.2.1)/\HV k tr/\Ev K H k i/\tr.length<AA/\Q (AN H a (EF (Eg tr k i v)))
def pP(K:Am):V->U V->Hp->VK->Prop:=λx b H Q=>∃a tr k y z,x=.ref a/\b=[y,z]/\H a=Z (EF tr)/\(∀t∈tr,Ev K H t.1 t.2.1)/\HV k tr/\Ev K H k y/\tr.length<AA /\
 (∀v,Cy tr k=Z v->Q v H)/\(Cy tr k=J->Q z (AN H a (EF (Eg tr k y z))))
theorem Cr.typeIs{b:AS}{s:Ab}{tr:U T3}(d:Inv X b I H s)(h:Cr X.K H a tr):s.TypeIs (.ref a) "dict":=by
 obtain⟨_,_,_,o,_,_,e,c,_⟩:=h.1.ok d.hok
 exact#[o,e,c.1]
section
theorem pQ(o:X.A.units+64<Aq):Gq X (Yp X.K):=by
 rintro b slice c s f H x y v u Q B g h ⟨a,tr,k,z,rfl,hd,i,j,l,q⟩ m
 cases g
 refine Al ?_
 refine Al (wpAny_specialOf (hd.typeIs B) PySem.F.slot_dict_getitem.lookup ?_)
 have fin:wpAny (Af X.prog X.w) X.A (subscripted slice O' (.ref a) u) (λr d=>wpAny (Af X.prog X.w) X.A (letTemporaryGo b (.ref a) r >>= λ_=>AC r) (EP X c f Q) X.xe d) X.xe s:=by
  rw[m]
  exact wpAny_operating (pL (by lia) B hd i j h l λp t n e=>Al (wpAny_letTemporaryGo (AO #[z,H,n,e,q])))
 exact AO (Al fin)
theorem Yq(h:X.A.units+64<Aq):B2 X (C8 .In) (Sn X.K O'):=by
 rintro b s i H x y v u Q l c d ⟨a,tr,k,rfl,hd,e,f,q⟩
 cases d
 exact Yn O' (by lia) l hd e f c λj g=>#[.bl (Cy tr k).isSome,H,g,rfl,by simpa using q]
theorem pR(h:X.A.units+64<Aq):B2 X (C8 .NotIn) (Sn X.K J'):=by
 rintro b s i H x y v u Q l c d ⟨a,tr,k,rfl,hd,e,f,q⟩
 cases d
 exact Yn J' (by lia) l hd e f c λj g=>#[.bl (!(Cy tr k).isSome),H,g,rfl,by simpa using q]
theorem Yr(n:X.A.units+64<Aq):Rg X (pO X.K):=by
 rintro c s p H o i v r t u Q y d f g ⟨a,tr,k,rfl,e,b,h,j,l,q⟩
 cases d
 exact Yo O' (by lia) y e b h j f g l λw x m _=>#[_,m,q]
theorem pS(hu:X.A.units+64<Aq):Mx X "dict.setdefault" (pP X.K):=by
 rintro L s I H x xs v i Q W rx rs ⟨a,tr,k,y,z,rfl,rfl,e,j,M,N,hl,R,T⟩
 cases rx
 obtain⟨u1,S,rfl,Y,r⟩:=rs.two
 have m:(Eg tr k y z).length<=AA:=by have:=Yi tr k y z;exact BJ this hl
 cases k with
 | «at» b=>
  cases N
  obtain⟨t,n,nd,i,d,o⟩:=M2 W #[.inl e,j] M
  have c:=d.val b
  refine call_meetsIn Ys o.typeIs PySem.F.entry_dict_setdefault (PySem.F.args_dict_setdefault_3 _ _ _) (kt_meets_setdefault (ZC X.prog X.w) a (G9 Y) n S)
   #[i,o,(show i.length<=AA by rw[<- Gc d];exact t),λv' u=>?_,λB C g h=>?_]
  ·rw[u]at c
   cases f:Cy tr (.at b)with
   |none=>rw[f]at c;exact c.elim
   |some w=>rw[f]at c;exact#[w,H,W.tok _,c,R w f]
  ·rw[B]at c
   cases f:Cy tr (.at b)with
   |some w=>rw[f]at c;exact c.elim
   |none=>
    have E:∃q,C.get? a=Z q:=let⟨q,_,_,G,_⟩:=g;#[q,G]
    exact#[z,_,Ly W (e ▸ GX) h E (Sj m n (Lu nd) (d.put r) g),r,T f]
 |tup l=>
  obtain⟨p,rfl,sq⟩:=N
  cases(show u1=Ci p from Y)
  obtain⟨t,n,nd,i,d,o⟩:=Lw W #[.inl e,j] M
  have c:=d.val l
  refine call_meetsIn Ys o.typeIs PySem.F.entry_dict_setdefault (PySem.F.args_dict_setdefault_3 _ _ _) (pN (knd:=tupleKind (ZC X.prog X.w)) (k:=l) a n S)
   #[Lx (by lia),i,IY W sq,o,(show i.length<=AA by rw[<- Gc d];exact t),λp' P=>?_,λB C g h=>?_]
  ·rw[P]at c
   cases f:Cy tr (.tup l)with
   |none=>rw[f]at c;exact c.elim
   |some w=>rw[f]at c;exact#[w,H,W.tok _,c,R w f]
  ·rw[B]at c
   cases f:Cy tr (.tup l)with
   |some w=>rw[f]at c;exact c.elim
   |none=>
    have E:∃q,C.get? a=Z q:=let⟨q,_,_,G,_⟩:=g;#[q,G]
    exact#[z,_,Ly W (e ▸ GX) h E (Sk m n (Lu nd) (d.put r) g),r,T f]
theorem Inv.big(b:Inv X pins I H s):Gd<s.heap.objs.size:=by
 exact HG (by ext) ((b.mod.glob.keeps b.bk).lt)
theorem HW:PE X (.Dict [] [] pos) (λ_ H Q=>∀p,H p=J->Q (.ref p) (AN H p (EF []))):=λb s c H Q d h=>
 wpAny_Dict_empty #[.ref s.heap.objs.size,_,d.laid (a:=s.heap.objs.size) (o:=EF []) (t':=s.toks) (λ_ _ q=>Bp _ q) (A5 _)
  #[F2 _,beq_eq_false_iff_ne.mpr (B0 (BX d.big)),List.nodup_nil,_,(T' []),0,B4 _ rfl,#[rfl,rfl,rfl],rfl,rfl,rfl],rfl,h _ (d.hok.fresh (A5 _))]
end
noncomputable def M3:D->O At
 |.non=>Z .non
 |.int i=>Z (.int i)
 |.str x=>Z (.str x)
 |_=>J
noncomputable def LA:U D->O (U At)
 |[]=>Z []
 |d::r=>(M3 d).bind λa=>(LA r).map (a::·)
def Dg:D->O KT
 |.tup l=>(LA l).map KT.tup
 |d=>(M3 d).map KT.at
noncomputable def aD:At->D
 |.non=>.non
 |.int i=>.int i
 |.str x=>.str x
def kD:KT->D
 |.at a=>aD a
 |.tup l=>.tup (l.map aD)
theorem Yt{d:D}{a:At}(h:M3 d=Z a):d=aD a:=by
 unfold M3 at h
 split at h<;>cases h<;>rfl
theorem Yu:∀{l:U D}{b:U At},LA l=Z b->l=b.map aD
 |[],_,h=>by cases h;rfl
 |d::r,b,h=>by
  obtain⟨a,c,h⟩:=BL.mp h
  obtain⟨bs,e,h⟩:=BG.mp h
  cases h;rw[A3,<- Yt c,<- Yu e]
set_option tactic.hygienic true in
theorem IZ{d:D}{k:KT}(h:Dg d=Z k):d=kD k:=by
 unfold Dg at h
 split at h
 ·next l=>
  obtain⟨c,b,h⟩:=BG.mp h
  cases h;rw[Yu b];rfl
 ·obtain⟨a,b,h⟩:=BG.mp h
  cases h;rw[Yt b];rfl
theorem pT(a:At):M3 (aD a)=Z a:=by cases a<;>rfl
theorem Yv:∀(l:U At),LA (l.map aD)=Z l
 |[]=>rfl
 |a::l=>by rw[A3];unfold LA;rw[pT,Yv l];rfl
@[simp] theorem M4(k:KT):Dg (kD k)=Z k:=by
  cases k with
  | «at» a=>cases a<;>rfl
  |tup l=>show(LA (l.map aD)).map KT.tup=_;rw[Yv];rfl
@[simp] theorem zX:Dg .non=Z (.at .non):=rfl
@[simp] theorem zY(i:Int):Dg (.int i)=Z (.at (.int i)):=rfl
@[simp] theorem zZ(x:Ae):Dg (.str x)=Z (.at (.str x)):=rfl
theorem pU(a:At):RL (aD a)=a:=by cases a<;>rfl
theorem pV(k:KT):MB (kD k)=k:=by
 cases k with
 | «at» a=>cases a<;>rfl
 |tup l=>
  unfold kD MB
  induction l<;>grind [pU]
abbrev A6:=U (KT×D)
variable{kvs:A6}
noncomputable def Zb:A6->U D
 |[]=>[]
 |p::r=>kD p.1::p.2::Zb r
noncomputable def Eh:U D->O A6
 |[]=>Z []
 |k::v::r=>(Dg k).bind λa=>(Eh r).map ((a,v)::·)
 |_=>J
@[simp] theorem E5:∀kvs:A6,Eh (Zb kvs)=Z kvs
  |[]=>rfl
  |p::r=>by unfold Zb Eh;rw[M4,E5 r];rfl
@[simp] theorem z6:Eh []=Z []:=rfl
theorem GB:∀{xs:U D}{kvs:A6},Eh xs=Z kvs->xs=Zb kvs
 |[],_,h=>by cases h;rfl
 |[_],_,h=>by cases h
 |k::v::r,kvs,h=>by
  obtain⟨c,a,h⟩:=BL.mp h
  obtain⟨q,b,h⟩:=BG.mp h
  cases h;unfold Zb;rw[<- IZ a,<- GB b]
theorem So:∀kvs:A6,IQ (Zb kvs)=kvs.map (·.1)
 |[]=>rfl
 |p::r=>by unfold Zb IQ;rw[pV,So r];rfl
noncomputable def Zo:A6->KT->O D
 |[],_=>J
 |t::r,k=>if t.1=k then Z t.2 else Zo r k
noncomputable def Ew:A6->KT->D->A6
 |[],_,_=>[]
 |t::r,k,v=>(if t.1=k then(t.1,v)else t)::Ew r k v
def ZR(kvs:A6)(k:KT)(v:D):A6:=if(Zo kvs k).isSome=J' then Ew kvs k v else kvs++[(k,v)]
def EG:KT->Bool
 |.at _=>J'
 |_=>O'
def Dh(k:KT)(kvs:A6):Bool:=kvs.all λp=>EG p.1==EG k
section
variable{K:Am}{N:Fb}
abbrev PD(K:Am)(N:Fb)(H:Hp):A6->U T3->Prop:=Paired λp t=>p.1=t.1/\As K N H (kD p.1) t.2.1/\As K N H p.2 t.2.2
theorem Yw{a:At}{v:V}(h:As K N H (aD a) v):v=F0 a:=by cases a<;>simpa only[aD,As,F0]using h
theorem Yx:∀{l:U At}{vs:U V},Ad K N H (l.map aD) vs->vs=l.map F0
 |[],_,h=>by simpa only[Db,Ad]using h
 |a::l,vs,h=>by
  obtain⟨v,r,e,b,c⟩:=h
  rw[e,Yw b,Yx c];rfl
theorem I0{k:KT}{v:V}(h:As K N H (kD k) v):Ev K H k v:=by
 cases k with
 | «at» a=>exact Yw h
 |tup l=>
  obtain⟨p,d,e,b,c⟩:=h
  rw[Yx c]at b
  exact#[p,e,b]
theorem HX{k:KT}{v:V}(h:Aw K N H (kD k) v):As K N H (kD k) v:=by
 cases k with
 | «at» a=>cases a<;>exact h
 |tup l=>exact h
theorem M5:∀{kvs:A6}{vs:U V},Ad K N H (Zb kvs) vs->∃tr,vs=DK tr/\PD K N H kvs tr
 |[],vs,h=>#[[],by simpa only[Zb,Ad,DK]using h,.nil]
 |p::r,vs,h=>by
  obtain⟨v,t,e,a,b,i,c,d,f⟩:=h
  obtain⟨tr,g,q⟩:=M5 f
  exact#[(p.1,v,b)::tr,by rw[e,c,g];rfl,.cons #[rfl,a,d] q]
theorem PD.flat{tr:U T3}(h:PD K N H kvs tr):Ad K N H (Zb kvs) (DK tr):=by
 induction h with
 |nil=>exact Ad.nil
 |cons h _ a=>exact Ad.cons h.2.1 (Ad.cons h.2.2 a)
theorem PD.fst{tr:U T3}(h:PD K N H kvs tr):kvs.map (·.1)=tr.map (·.1):=by
 induction h with
 |nil=>rfl
 |cons h _ a=>rw[A3,A3,h.1,a]
theorem PD.keys{tr:U T3}(h:PD K N H kvs tr):∀t∈tr,Ev K H t.1 t.2.1:=by
 induction h with
 |nil=>exact λ_ h=>nomatch h
 |cons h _ b=>
  intro x a
  rcases BK.mp a with rfl|a
  ·rw[<- h.1];exact I0 h.2.1
  ·exact b x a
def Ke(K:Am)(N:Fb)(H:Hp):O D->O V->Prop
 |some d,Z v=>As K N H d v
 |none,J=>True
 |_,_=>False
theorem PD.val{tr:U T3}(h:PD K N H kvs tr)(k:KT):Ke K N H (Zo kvs k) (Cy tr k):=by
 induction h with
 |nil=>exact GX
 |cons h _ a=>
  unfold Zo Cy
  rw[h.1]
  split
  ·exact h.2.2
  ·exact a
theorem Ke.isS:∀{o:O D}{u:O V},Ke K N H o u->o.isSome=u.isSome
 |some _,Z _,_=>rfl
 |none,J,_=>rfl
 |some _,J,h=>h.elim
 |none,Z _,h=>h.elim
theorem PD.rep{k:KT}{d:D}{v:V}(hd:As K N H d v){tr:U T3}(h:PD K N H kvs tr):PD K N H (Ew kvs k d) (G8 tr k v):=by
 induction h with
 |nil=>exact .nil
 |cons h _ a=>
  unfold Ew G8
  rw[h.1]
  refine .cons ?_ a
  split
  ·exact#[rfl,h.1 ▸ h.2.1,hd]
  ·exact h
theorem PD.put{tr:U T3}{k:KT}{d:D}{kv v:V}(h:PD K N H kvs tr)(a:As K N H (kD k) kv)(hd:As K N H d v):PD K N H (ZR kvs k d) (Eg tr k kv v):=by
 unfold ZR Eg
 rw[(h.val k).isS]
 split
 ·exact h.rep hd
 ·exact Paired.snoc' #[rfl,a,hd] h
theorem PD.hom{k:KT}:∀{kvs:A6}{tr:U T3},PD K N H kvs tr->Dh k kvs=J'->HV k tr
 |_,_,.nil,_=>by cases k<;>exact λ_ h=>nomatch h
 |p::kvs,t::tr,.cons ⟨g,_,_⟩ r,e=>by
  erw[Dh,J8,Co]at e
  have f:=PD.hom (k:=k) r e.2
  have d:=e.1
  rw[g]at d
  cases k with
  | «at» a=>
   intro x c
   rcases BK.mp c with rfl|c
   ·cases c:x.1 with
    | «at» b=>exact#[b,rfl]
    |tup l=>rw[c]at d;cases d
   ·exact f x c
  |tup l=>
   intro x c
   rcases BK.mp c with rfl|c
   ·cases c:x.1 with
    | «at» b=>rw[c]at d;cases d
    |tup l=>exact#[l,rfl]
   ·exact f x c
theorem Ja(h:Rd H a (.dct (IQ (Zb kvs)) vs))(hd:Ad K N H (Zb kvs) vs):∃tr,Cr K H a tr/\PD K N H kvs tr:=by
 obtain⟨tr,rfl,p⟩:=M5 hd
 rw[So,p.fst]at h
 exact#[tr,#[h,p.keys],p]
theorem Kf{tr:U T3}(p:PD K N H kvs tr):CO K .d a (Zb kvs) (DK tr)=EF tr:=by
 unfold CO EF
 rw[So,p.fst]
end
def C1:D->D->O D
 |.lst b .d,y=>(Eh b).bind λa=>(Dg y).bind λk=>if Dh k a then Zo a k else J
 |_,_=>J
@[simp] theorem O3(kvs:A6)(y:D):C1 (.lst (Zb kvs) .d) y=(Dg y).bind λk=>if Dh k kvs then Zo kvs k else J:=by simp[C1]
@[simp] theorem ZDo(y:D):C1 (.lst [] .d) y=(Dg y).bind λk=>J:=by simp[C1,Zo]
def C4(neg:Bool):D->D->O D
 |y,.lst b .d=>(Eh b).bind λa=>(Dg y).bind λk=>if Dh k a then Z (.bl (neg != (Zo a k).isSome))else J
 |_,_=>J
@[simp] theorem Kg(neg:Bool)(kvs:A6)(y:D):C4 neg y (.lst (Zb kvs) .d)=(Dg y).bind λk=>if Dh k kvs then Z (.bl (neg != (Zo kvs k).isSome))else J:=by simp[C4]
@[simp] theorem ZDI(neg:Bool)(y:D):C4 neg y (.lst [] .d)=(Dg y).bind λk=>Z (.bl neg):=by simp[C4,Zo,Dh]
section
variable{K:Am}{M:Fb}{e a b:Expr}{f g:AB}
set_option tactic.hygienic true in
theorem pW:Dx K (Yp K) C1:=by
 intro N H x y s i d Q t f g e q
 unfold C1 at e
 split at e
 ·next u=>
  obtain⟨j,l,e⟩:=BL.mp e
  cases b:Dg i with
  |none=>rw[b]at e;cases e
  |some k=>
   rw[b]at e
   obtain⟨m,e⟩:=ZX e
   rw[GB l]at f
   obtain⟨p,v,n,r,hd⟩:=f
   obtain⟨tr,o,h⟩:=Ja r hd
   rw[IZ b]at g
   have a:=h.val k
   rw[e]at a
   cases c:Cy tr k with
   |none=>rw[c]at a;exact a.elim
   |some w=>rw[c]at a;exact#[p,tr,k,w,n,o,h.hom m,I0 (HX g),c,q w H (Ai.refl H) a]
 ·cases e
set_option tactic.hygienic true in
theorem Sq{neg:Bool}:Dx K (Sn K neg) (C4 neg):=by
 intro N H x y g n d Q o b c e q
 unfold C4 at e
 split at e
 ·next s=>
  obtain⟨h,i,e⟩:=BL.mp e
  cases a:Dg g with
  |none=>rw[a]at e;cases e
  |some k=>
   rw[a]at e
   obtain⟨j,e⟩:=ZX e
   cases e
   rw[GB i]at c
   obtain⟨p,t,l,r,hd⟩:=c
   obtain⟨tr,m,f⟩:=Ja r hd
   rw[IZ a]at b
   refine#[p,tr,k,l,m,f.hom j,I0 (HX b),?_]
   rw[<- (f.val k).isS]
   exact q _ H (Ai.refl H) Gy
 ·cases e
theorem pX(e:X.A.units+64<Aq)(c:JE X a (tP X.K M H0 f))(d:JE X b (tP X.K M H0 g))(i:Lb b):JE X (.Subscript a b pos) (tD X.K M H0 (Za C1 f g)):=#[have c:=c.h;have d:=d.h;Xj (pQ e) pW c d i]
theorem pY(e:X.A.units+64<Aq)(c:JE X a (tP X.K M H0 f))(d:JE X b (tP X.K M H0 g))(i:FA .In b=O':=by with_unfolding_all rfl):JE X (.Compare a [.In] [b] pos) (tD X.K M H0 (Za (C4 O') f g)):=#[have c:=c.h;have d:=d.h;OH (Yq e) Sq c d i]
theorem pZ(e:X.A.units+64<Aq)(c:JE X a (tP X.K M H0 f))(d:JE X b (tP X.K M H0 g))(i:FA .In b=O':=by with_unfolding_all rfl):JT X (.Compare a [.In] [b] pos) (BC X.K M H0 λρ=>AR (Za (C4 O') f g ρ)):=#[have c:=c.h;have d:=d.h;HJ (Yq e) Sq c d i]
theorem p0(e:X.A.units+64<Aq)(c:JE X a (tP X.K M H0 f))(d:JE X b (tP X.K M H0 g))(i:FA .NotIn b=O':=by with_unfolding_all rfl):JT X (.Compare a [.NotIn] [b] pos) (BC X.K M H0 λρ=>AR (Za (C4 J') f g ρ)):=#[have c:=c.h;have d:=d.h;HJ (pR e) Sq c d i]
theorem p5:JE X (.Dict [] [] pos) (ED .d K M H0 λ_=>Z []):=#[HW.mono λf H Q a p b=>by
 obtain⟨g,c,R,e,q⟩:=a
 cases e
 exact MC (xs:=[]) (vs:=[]) (fl:=.d) (Ai.refl H) b Ad.nil q]
def GC(i:Nat)(ok b:O D)(ρ:VE):DA:=match E2 ρ i,ok,b with
 |some c,Z y,Z d=>match Eh c,Dg y with
  |some a,Z k=>if Dh k a&&decide (a.length<AA)then .next (ρ.set i (.own (Zb (ZR a k d)) .d))else .fail
  |_,_=>.fail
 |_,_,_=>.fail
set_option tactic.hygienic true in
theorem p6{i:Nat}{x:Ae}{b c:Az}{j e:Expr}{fi f:AB}(T:X.A.units+64<Aq)(p:JE X j (tP X.K M H0 fi))(r:JE X e (tD X.K M H0 f))(S:NV X i x:=by exact EB)
  (Y:∀v,assign (.Subscript (.Name x b) j c) X.env v=(do
   let o <- D8 [v] (Ao (.Name x b) X.env)
   let s <- D8 [v,o] (Ao j X.env)
   standAt c
   D8 [v,o,s] (setItem o s v)
   release [v,o,s] []):=by intro _;rfl)
  (hs:swapsWithSole [.Subscript (.Name x b) j c] e pos.line X.env=AC O':=by rfl) (m:swappedStores [.Subscript (.Name x b) j c] e X.env=AC J:=by rfl)
  (h1:(F1 [.Subscript (.Name x b) j c] X.env).map (·.2)=[assign (.Subscript (.Name x b) j c) X.env]:=by rfl):
  JS X (.Assign [.Subscript (.Name x b) j c] e pos) (tS X.K M H0 λρ=>GC i (fi ρ) (f ρ) ρ):=#[have p:=p.h;have r:=r.h;(Rj r (Rh (Gs S) p (Yr T) Y) hs m h1).mono λD' I H z0=>by
 obtain⟨ρ,R,q⟩:=z0
 try dsimp only at q
 unfold GC at q
 split at q
 ·next xs y d E t hf=>
  split at q
  ·next u k z hk=>
   split at q
   ·next B=>
    rw[Co,decide_eq_true_eq]at B
    refine#[ρ,d,R,hf,λv H1 G hv=>?_]
    have C:=R.st G
    have ex:=GB z
    subst ex
    obtain⟨a,vs,W,z1,z2,F,L⟩:=C.slot i _ (MG E)
    refine#[.ref a,(ZP W),ρ,y,C,t,λw H2 l m=>?_]
    obtain⟨tr,dc,pd⟩:=Ja (K:=X.K) (.inl (l _ _ F)) (L.same l)
    obtain⟨n,rfl,g⟩:=M5 (L.same l)
    rw[IZ hk]at m
    have N:=g.put (k:=k) (HX m) (hv.same l)
    obtain⟨P,Q⟩:=(C.st l).chg (fl2:=.d) (ys:=Zb (ZR u k d)) (ws:=DK (Eg n k w v)) (MG E) (ZP W) N.flat
    rw[Kf N]at P Q
    refine#[a,n,k,rfl,?_,g.keys,g.hom B.1,I0 (HX m),Gc g ▸ B.2,q _ _ P ((Step.of_same (G.trans l)).trans Q)]
    rw[<- Kf g]
    exact l _ _ F
   ·exact BP q
  ·exact BP q
 ·exact BP q]
end
theorem Yy(k:KT)(v:D)(k':KT):∀kvs:A6,Zo (Ew kvs k v) k'=if k=k' then(Zo kvs k').map (λ_=>v)else Zo kvs k'
 |[]=>by simp[Ew,Zo]
 |t::r=>by
  have a:=Yy k v k' r
  grind [Ew,Zo]
theorem Yz(k:KT):∀(a b:A6),Zo (a++b) k=match Zo a k with|some v=>Z v|none=>Zo b k
 |[],b=>by simp[Zo]
 |t::r,b=>by
  have c:=Yz k r b
  grind [Zo]
theorem LB(kvs:A6)(k:KT)(v:D)(k':KT):Zo (ZR kvs k v) k'=if k=k' then Z v else Zo kvs k':=by
 unfold ZR
 by_cases h:(Zo kvs k).isSome=J'
 ·rw[if_pos h,Yy]
  by_cases e:k=k'
  ·subst e
   cases a:Zo kvs k with
   |none=>rw[a]at h;cases h
   |some w=>rfl
  ·rw[if_neg e,if_neg e]
 ·grind [Yz,Zo]
theorem YA{k:KT}{v:D}{p:KT×D}:∀{kvs:A6},p∈Ew kvs k v->p∈kvs\/p=(k,v)
 |[],h=>nomatch h
 |t::r,h=>by
  rcases BK.mp h with a|h
  ·grind [Bk]
  ·rcases YA h with h|h
   ·exact .inl (Bu _ h)
   ·exact .inr h
theorem p7{k:KT}{v:D}{p:KT×D}(h:p∈ZR kvs k v):p∈kvs\/p=(k,v):=by grind [ZR,YA]
theorem YB(k:KT)(v:D):∀kvs:A6,(Ew kvs k v).length=kvs.length
 |[]=>rfl
 |t::r=>by simp[Ew,YB k v r]
theorem O4(kvs:A6)(k:KT)(v:D):(ZR kvs k v).length<=kvs.length+1:=by
 unfold ZR
 split
 ·rw[YB];exact M1 (IC kvs) 1
 ·simp
theorem FO(a:At)(h:∀p∈kvs,EG p.1=J'):Dh (.at a) kvs=J':=by
 unfold Dh
 rw[CZ]
 intro p b
 rw[h p b];rfl
theorem Kh(l:U At)(h:∀p∈kvs,EG p.1=O'):Dh (.tup l) kvs=J':=by
 unfold Dh
 rw[CZ]
 intro p a
 rw[h p a];rfl
def tX(K:Am)(M:Fb)(H0:Hp)(f:VE->O (D×VE)):TE:=λb H Q=>∃e d a,Bn K M H0 e b H/\f e=Z (d,a) /\
 ∀v c,Bn K M H0 a b c->Step M (Nf M e b) (Nf M a b) H c->As K (Nf M a b) c d v->Q v c
def YC(K:Am)(M:Fb)(H0:Hp)(t:VE->O (Bool×VE)):TT:=λc H Q=>∃d b a,Bn K M H0 d c H/\t d=Z (b,a) /\
 ∀e,Bn K M H0 a c e->Step M (Nf M d c) (Nf M a c) H e->Q b e
def HY(i:Nat)(c e:AB):VE->O (D×VE):=λb=>match E2 b i,c b,e b with
 |some f,Z y,Z d=>match Eh f,Dg y with
  |some a,Z k=>if Dh k a&&decide (a.length<AA)then
    (match Zo a k with
    |some v=>Z (v,b)
    |none=>Z (d,b.set i (.own (Zb (ZR a k d)) .d)))
   else J
  |_,_=>J
 |_,_,_=>J
section
variable{K:Am}{M:Fb}{e a b ek ev:Expr}{f g fk fv:AB}
set_option tactic.hygienic true in
theorem YD{i:Nat}{x:Ae}{e g c:Az}(hu:X.A.units+64<Aq)(z:JE X ek (tP X.K M H0 fk))(j:JE X ev (tD X.K M H0 fv))(hN:NV X i x:=by exact EB)
  (l:Gk (.Name x e) "setdefault" X.env (Ao (.Name x e) X.env)=Ao (.Name x e) X.env:=by rfl)
  (p:((Ay c (AE [ek,ev] X.env)).all (λx=>!x.1)&&(Gm c (Gn [] X.env)).all (λx=>x.1.isSome)
   && decide ([ek,ev].length+([]:U Et).length+(if([]:U Et).isEmpty then 0 else 1)<30))=J':=by rfl)
  (m:(g.endLine==c.line)=J':=by rfl) (r:AE [ek,ev] X.env=(O',Ao ek X.env)::AE [ev] X.env:=by exact Z1 rfl) (t:AE [ev] X.env=(O',Ao ev X.env)::AE [] X.env:=by exact Z1 rfl) (B:(Ay c (AE [ev] X.env)).any (·.1)=O':=by rfl):
  JE X (.Call (.Attribute (.Name x e) "setdefault" g) [ek,ev] [] c) (tX X.K M H0 (HY i fk fv)):=#[have z:=z.h;have j:=j.h;(J0 PySem.F.plainAttrs_dict Ys PySem.F.type_dict_setdefault (pS hu) (Gs hN) (Es z (Es j Bm t) r) l p m r B).mono λI H Q z0=>by
  obtain⟨Y,d,ρ',R,ex,q⟩:=z0
  unfold HY at ex
  split at ex
  ·next xs y dv hr C E=>
   split at ex
   ·next n k G zA=>
    obtain⟨P,ex⟩:=ZX ex
    rw[Co,decide_eq_true_eq]at P
    have L:=GB G
    subst L
    obtain⟨a,vs,e1,z1,z2,z3,z4⟩:=R.slot i _ (MG hr)
    refine#[.ref a,(ZP e1),(.inr (.inr #[rfl,_,_,.inl z3])),Y,y,R,C,λw H1 s1 N=>#[Y,dv,R.st s1,E,λv H2 S hv=>?_]]
    have s:=s1.trans S
    obtain⟨tr,rfl,o⟩:=M5 (z4.same s)
    rw[IZ zA]at N
    have b:=o.val k
    refine#[a,tr,k,w,v,rfl,rfl,?_,o.keys,o.hom P.1,I0 (HX (N.same S)),Gc o ▸ P.2,λu T=>?_,λhn=>?_]
    ·rw[<- Kf o];exact s _ _ z3
    ·rw[T]at b
     cases f:Zo n k with
     |none=>rw[f]at b;exact b.elim
     |some d0=>
      rw[f]at b ex
      cases ex
      exact q u H2 (R.st s) (Step.of_same s) b
    ·rw[hn]at b
     cases f:Zo n k with
     |some d0=>rw[f]at b;exact b.elim
     |none=>
      rw[f]at ex
      cases ex
      have pp:=o.put (k:=k) (HX (N.same S)) hv
      obtain⟨R3,W⟩:=(R.st s).chg (fl2:=.d) (ys:=Zb (ZR n k d)) (ws:=DK (Eg tr k w v)) (MG hr) (ZP e1) pp.flat
      rw[Kf pp]at R3 W
      exact q v _ R3 ((Step.of_same s).trans W) (As.step W d v hv)
   ·cases ex
  ·cases ex]
def M6(fx:VE->O (D×VE))(g:AB):VE->O (Bool×VE):=λc=>match fx c with
 |some (d,a)=>match g a with
  |some y=>(AR (Cp d y)).map λb=>(b,a)
  |none=>J
 |none=>J
set_option tactic.hygienic true in
theorem p8(n:X.A.units+64<Aq)(f:JE X a (tX X.K M H0 fx))(i:JE X b (tP X.K M H0 g)):JT X (.Compare a [.NotEq] [b] pos) (YC X.K M H0 (M6 fx g)):=#[have f:=f.h;have i:=i.h;(Rp (RZ n) f i (Ge _ (by ext) (by ext))).mono λo H Q r=>by
 obtain⟨s,l,c,R,ex,q⟩:=r
 unfold M6 at ex
 split at ex
 ·next d t x=>
  split at ex
  ·next y z=>
   obtain⟨L,B,ex⟩:=BG.mp ex
   cases ex
   refine#[s,d,c,R,x,λv N j C E=>#[c,y,j,z,λu G e k=>?_]]
   exact R0 (Nf M c o) G v u d y (.bl l) _ (j.st e).nh (E.p.same e) k (Lg B) λw P m F=>by
    exact#[l,F,q P ((j.st e).st m) (C.trans (Step.of_same (e.trans m)))]
  ·cases ex
 ·cases ex]
def Jb(c:O (Bool×VE))(b d:Ar):DA:=match c with
 |some (J',a)=>b a
 |some (O',a)=>d a
 |none=>.fail
theorem p9{c:Expr}{g i:U Au}{t:VE->O (Bool×VE)}{j l:Ar}(b:JT X c (YC K M H0 t))(d:JB X g (tS K M H0 j))(e:JB X i (tS K M H0 l)):JS X (.If c g i pos) (tS K M H0 λρ=>Jb (t ρ) j l):=#[have b:=b.h;have d:=d.h;have e:=e.h;(Om b d e).mono λo r H n=>by
 obtain⟨ρ,R,q⟩:=n
 try dsimp only at q
 cases f:t ρ with
 |none=>rw[f]at q;exact BP q
 |some p=>
  obtain⟨k,a⟩:=p
  rw[f]at q
  refine#[ρ,k,a,R,f,λs m S=>?_]
  cases k with
  |true=>refine IN ?_;exact#[a,m,BU.from S q]
  |false=>refine IP ?_;exact#[a,m,BU.from S q]]
end
open PySem.W
section
variable(lt:Nat->Nat->Bool)
structure WO(n:Nat):Prop where
 asym:∀a b,a<n->b<n->lt a b=J'->lt b a=O'
 neg:∀a b c,a<n->b<n->c<n->lt a c=J'->lt a b=J'\/lt b c=J'
def Ei(a b:Nat):Prop:=lt b a=O'
end
section
variable{lt:Nat->Nat->Bool}{n:Nat}(W:WO lt n)
include W
theorem WO.refl{a:Nat}(b:a<n):Ei lt a a:=by
 unfold Ei
 cases h:lt a a with
 |false=>rfl
 |true=>have:=W.asym a a b b h;rw[h]at this;cases this
theorem WO.trans{a b c:Nat}(f:a<n)(g:b<n)(i:c<n)(d:Ei lt a b)(e:Ei lt b c):Ei lt a c:=by
 unfold Ei at *
 cases h:lt c a with
 |false=>rfl
 |true=>
  rcases W.neg c b a i g f h with z|z
  ·rw[z]at e;cases e
  ·rw[z]at d;cases d
theorem WO.of_lt{a b:Nat}(c:a<n)(d:b<n)(h:lt a b=J'):Ei lt a b:=W.asym a b c d h
end
abbrev A8(p:Array Nat)(i:Nat):Nat:=p.getD i 0
def Ha(lt:Nat->Nat->Bool)(p:Array Nat)(k:Nat):Prop:=∀i j,i<=j->j<k->Ei lt (A8 p i) (A8 p j)
def Jc(lt:Nat->Nat->Bool)(p:Array Nat)(k:Nat):Prop:=∀i j,i<=j->j<k->Ei lt (A8 p j) (A8 p i)
def Eqv(lt:Nat->Nat->Bool)(a b:Nat):Prop:=Ei lt a b/\Ei lt b a
def Bs(n:Nat)(p:Array Nat):Prop:=p.Perm (Bf n).toArray
theorem Bs.size{n:Nat}{p:Array Nat}(h:Bs n p):p.size=n:=by have:=h.size_eq;simpa using this
theorem Bs.lt{n:Nat}{p:Array Nat}(h:Bs n p){i:Nat}(c:i<n):A8 p i<n:=by
 have b:i<p.size:=K7 c h.size.symm
 have:=(h.mem_iff (a:=p[i])).mp (Array.getElem_mem b)
 simp_all
theorem M7{p q:Array Nat}{i:Nat}(h:p[i]?=q[j]?):A8 p i=A8 q j:=by
 simp_all
theorem M8{p:Array Nat}{i:Nat}(a:j<=p.size)(k:Nat):A8 (kas_rev p i j) k=if i<=k/\k<j then A8 p (i+j-1-k)else A8 p k:=by
 have:=getElem?_mirror_all (xs:=p) (i:=i) (j:=j) a k
 by_cases h:i<=k/\k<j
 ·rw[if_pos h]at this ⊢;exact M7 this
 ·rw[if_neg h]at this ⊢;exact M7 this
theorem YE{p:Array Nat}{k d:Nat}(b:k<p.size)(hd:d<=k)(i:Nat):A8 (bubble p k d) i=if i=k-d then A8 p k else if k-d<i/\i<=k then A8 p (i-1)else A8 p i:=by
 have:=getElem?_bubble (xs:=p) (src:=k) b d hd i
 by_cases h:i=k-d
 ·rw[if_pos h]at this ⊢;exact M7 this
 ·rw[if_neg h]at this ⊢
  by_cases a:k-d<i/\i<=k
  ·rw[if_pos a]at this ⊢;exact M7 this
  ·rw[if_neg a]at this ⊢;exact M7 this
theorem Bs.rev{n:Nat}{p:Array Nat}(h:Bs n p)(i j:Nat):Bs n (kas_rev p i j):=(mirror_perm p i j _).trans h
theorem Bs.bub{n:Nat}{p:Array Nat}(h:Bs n p)(k d:Nat):Bs n (bubble p k d):=(bubble_perm p k d).trans h
section
variable{lt:Nat->Nat->Bool}{n:Nat}(W:WO lt n){cmp:Nat->Nat->(Bool->Ab->Prop)->Ab->Prop}{s:Ab}(hc:∀i j C,i<n->j<n->C (lt i j) s->cmp i j C s)
include W hc
set_option tactic.hygienic true in
theorem Sr{p:Array Nat}(h:Bs n p):∀(f m:Nat){Q:Nat->Ab->Prop},1<=m->m+f<=n->Ha lt p m->(∀g,m<=g->g<=m+f->Ha lt p g->(g=m+f\/lt (A8 p g) (A8 p (g-1))=J')->Q g s)->Dr cmp (kas_asc p f m) Q s
 |0,m,Q,o,r,k,q=>by
  rw[kas_asc,Dr]
  exact q m (A5 _) (M1 m 0) k (.inl rfl)
 |f+1,m,Q,o,r,k,q=>by
  rw[kas_asc,Dr]
  refine hc _ _ _ (h.lt (Df r)) (h.lt (by lia)) ?_
  cases t:lt (A8 p m) (A8 p (m-1))with
  |true=>
   erw[if_true,Dr]
   exact q m (A5 _) (M1 m (f+1)) k (.inr t)
  |false=>
   erw[Ff,if_false]
   refine Sr h f (m+1) (J1 o) (by lia) (λi j l u=>?_) λg a b c d=>q g (Nat.le_of_succ_le a) (by lia) c (by rcases d with d|d;exact .inl (by lia);exact .inr d)
   rcases LC j m with z|z
   ·exact k i j l z
   ·have e:j=m:=Ss z u
    subst e
    rcases LC i j with y|y
    ·exact W.trans (h.lt (by lia)) (h.lt (i:=j-1) (by lia)) (h.lt (Df r)) (k i (j-1) ((OW o).mpr y) (Nat.sub_one_lt_of_lt o)) t
    ·have e:i=j:=O5 l y
     subst e
     exact W.refl (h.lt (Df r))
theorem Su{p:Array Nat}(c:Bs n p){i:Nat}(f:i<j)(g:j<=n)(e:∀k,i<=k->k<j->Eqv lt (A8 p k) (A8 p (j-1)))(k:Nat)(d:k<n):Eqv lt (A8 (kas_rev p i j) k) (A8 p k):=by
 rw[M8 (c.size ▸ g)]
 by_cases h:i<=k/\k<j
 ·rw[if_pos h]
  have a:=e (i+j-1-k) (by lia) (by lia)
  have b:=e k h.1 h.2
  exact#[W.trans (c.lt (by lia)) (c.lt (by lia)) (c.lt (Nat.lt_of_succ_le d)) a.1 b.2,W.trans (c.lt (Nat.lt_of_succ_le d)) (c.lt (by lia)) (c.lt (by lia)) b.1 a.2]
 ·rw[if_neg h]
  exact#[W.refl (c.lt d),W.refl (c.lt d)]
theorem YF{p q:Array Nat}(c:Bs n p)(d:Bs n q){k:Nat}(b:k<=n)(f:∀i,i<n->Eqv lt (A8 q i) (A8 p i))(h:Jc lt p k):Jc lt q k:=λi j e a=>
 W.trans (d.lt (BE a b)) (c.lt (i:=j) (BE a b)) (d.lt (by lia)) (f j (BE a b)).1 (W.trans (c.lt (BE a b)) (c.lt (i:=i) (by lia)) (d.lt (by lia)) (h i j e a) (f i (by lia)).2)
set_option tactic.hygienic true in
theorem O6:∀(f:Nat)(p:Array Nat)(m q:Nat){Q:Array Nat×Nat×Nat->Ab->Prop},Bs n p->1<=m->m+f<=n->q+1<=m->Jc lt p m->(∀i,m-(q+1)<=i->i<m->Eqv lt (A8 p i) (A8 p (m-1))) ->
  (∀r u N,Bs n r->m<=u->u<=m+f->N+1<=u->Jc lt r u->(∀i,u-(N+1)<=i->i<u->Eqv lt (A8 r i) (A8 r (u-1)))->Q (r,u,N) s)->Dr cmp (kas_desc f p m q) Q s
 |0,p,m,q,Q,l,v,t,K,w,A,x=>by
  rw[kas_desc,Dr]
  exact x p m q l (A5 _) (M1 m 0) K w A
 |f+1,p,m,q,Q,l,v,t,K,w,A,x=>by
  rw[kas_desc,Dr]
  refine hc _ _ _ (l.lt (Df t)) (l.lt (by lia)) ?_
  have step:∀(r:Array Nat),Bs n r->Jc lt r m->Ei lt (A8 r m) (A8 r (m-1))->Jc lt r (m+1):=λr o h M i j B Y=>by
   rcases LC j m with z|z
   ·exact h i j B z
   ·have e:j=m:=Ss z Y
    subst e
    rcases LC i j with y|y
    ·exact W.trans (o.lt (Df t)) (o.lt (i:=j-1) (by lia)) (o.lt (by lia)) M (h i (j-1) ((OW v).mpr y) (Nat.sub_one_lt_of_lt v))
    ·have e:i=j:=O5 B y
     subst e
     exact W.refl (o.lt (Df t))
  cases M:lt (A8 p m) (A8 p (m-1))with
  |true=>
   have C:=W.of_lt (l.lt (Df t)) (l.lt (by lia)) M
   erw[if_true]
   have E:∀(r:Array Nat),Bs n r->∀i,m+1-(0+1)<=i->i<m+1->Eqv lt (A8 r i) (A8 r (m+1-1)):=λr o i a b=>by
    have e:i=m:=Ss a b
    subst e
    exact#[W.refl (o.lt (Df t)),W.refl (o.lt (Df t))]
   by_cases P:q>0
   ·erw[P,if_true]
    have o:=l.rev (m-(q+1)) m
    have G:=Su W hc l (i:=m-(q+1)) (j:=m) (by lia) (RC t) A
    have T:=YF W hc l o (k:=m) (RC t) (λi hi=>G i hi) w
    have em:A8 (kas_rev p (m-(q+1)) m) m=A8 p m:=by rw[M8 (by rw[l.size];exact RC t),if_neg (by lia)]
    have H:Ei lt (A8 (kas_rev p (m-(q+1)) m) m) (A8 (kas_rev p (m-(q+1)) m) (m-1)):=by
     rw[em]
     exact W.trans (l.lt (Df t)) (l.lt (by lia)) (o.lt (by lia)) C (G (m-1) (by lia)).2
    exact O6 f _ (m+1) 0 o (J1 v) (by lia) (J1 v) (step _ o T H) (E _ o) λR F L a b c d e g=>x R F L a (Nat.le_of_succ_le b) (by lia) d e g
   ·erw[P,if_false]
    exact O6 f _ (m+1) 0 l (J1 v) (by lia) (by lia) (step _ l w C) (E _ l) λR F L a b c d e g=>x R F L a (by lia) (by lia) d e g
  |false=>
   erw[Ff,if_false,Dr]
   refine hc _ _ _ (l.lt (by lia)) (l.lt (by lia)) ?_
   cases hd:lt (A8 p (m-1)) (A8 p m)with
   |true=>
    erw[if_true,Dr]
    exact x p m q l (A5 _) (by lia) K w A
   |false=>
    erw[Ff,if_false]
    refine O6 f _ (m+1) (q+1) l (by lia) (by lia) (by lia) (step _ l w hd) (λi a b=>?_) λR F L a b c d e g=>x R F L a (by lia) (by lia) d e g
    show Eqv lt (A8 p i) (A8 p m)
    rcases LC i m with z|z
    ·have:=A i (by lia) z
     exact#[W.trans (l.lt (by lia)) (l.lt (i:=m-1) (by lia)) (l.lt (by lia)) this.1 M,W.trans (l.lt (by lia)) (l.lt (i:=m-1) (by lia)) (l.lt (by lia)) hd this.2]
    ·have e:i=m:=by lia
     subst e
     exact#[W.refl (l.lt (by lia)),W.refl (l.lt (by lia))]
theorem YG{p:Array Nat}{m e:Nat}{Q:Nat×Array Nat->Ab->Prop}(f:Bs n p)(h:1<=m)(o:m<=e)(r:e<=n)(k:Jc lt p m)
  (q:∀d g,Bs n g->1<=d->d<=e->Ha lt g d->Q (d,g) s):Dr cmp (kas_tail3 m e p) Q s:=by
 unfold kas_tail3
 rw[O7]
 refine Sr W hc (f.rev 0 m) (e-m) m h (by lia) (λi j l t=>?_) λd a b c _=>?_
 ·rw[M8 (by rw[f.size];lia),M8 (by rw[f.size];lia),if_pos (by lia),if_pos (by lia)]
  exact k (0+m-1-j) (0+m-1-i) (by lia) (by lia)
 ·rw[Dr]
  exact q d _ (f.rev 0 m) (by lia) (by lia) c
theorem qa{p:Array Nat}{m f:Nat}{Q:Nat×Array Nat->Ab->Prop}(k:Bs n p)(v:m+1<=f)(l:f<=n)(r:Jc lt p (m+1))
  (q:∀h j,Bs n j->1<=h->h<=f->Ha lt j h->Q (h,j) s):Dr cmp (kas_descPart m f p) Q s:=by
 unfold kas_descPart
 rw[O7]
 refine O6 W hc (f-(m+1)) p (m+1) 0 k (by lia) (by lia) (by lia) r (λi a b=>?_) λj h t a b c d e g=>?_
 ·have e:i=m:=by lia
  subst e
  exact#[W.refl (k.lt (by lia)),W.refl (k.lt (by lia))]
 ·by_cases o:t>0
  ·erw[o,if_true]
   exact YG W hc (a.rev _ _) (by lia) (by lia) l (YF W hc a (a.rev _ _) (by lia) (λi u=>Su W hc a (by lia) (by lia) g i u) e) q
  ·erw[o,if_false]
   exact YG W hc a (by lia) (by lia) l e q
theorem qb{p:Array Nat}{Q:Nat×Array Nat->Ab->Prop}(g:Bs n p)(E:1<=n)(q:∀w h,Bs n h->1<=w->w<=n->Ha lt h w->Q (w,h) s):Dr cmp (kas_count n p) Q s:=by
 unfold kas_count
 rw[O7]
 refine Sr W hc g (n-1) 1 (Nat.le_of_ble_eq_true rfl) (by lia) (λi j r x=>?_) λm a b c d=>?_
 ·have e:i=0:=by lia
  have H:j=0:=Nat.lt_one_iff.mp x
  subst e H
  exact W.refl (g.lt (LF E))
 ·by_cases A:m=n
  ·subst A
   erw[beq_self_eq_true,if_true,Dr]
   exact q m p g a (A5 m) c
  ·have v:lt (A8 p m) (A8 p (m-1))=J':=by
    rcases d with d|d
    ·exact absurd (by lia) A
    ·exact d
   erw[show(m==n)=O' by simpa using A,Ff,if_false]
   have o:∀(h:Array Nat),Bs n h->(∀i,i<m->Eqv lt (A8 h i) (A8 h (m-1)))->lt (A8 h m) (A8 h (m-1))=J'->Dr cmp (kas_descPart m n h) Q s:=λh f t K=>
    qa W hc f (by lia) (A5 n) (λi j r x=>by
     rcases LC j m with z|z
     ·exact W.trans (f.lt (by lia)) (f.lt (i:=m-1) (by lia)) (f.lt (by lia)) (t j z).1 (t i (Gr r z)).2
     ·have e:j=m:=Ss z x
      subst e
      rcases LC i j with y|y
      ·exact W.trans (f.lt (by lia)) (f.lt (i:=j-1) (by lia)) (f.lt (by lia)) (W.of_lt (f.lt (by lia)) (f.lt (by lia)) K) (t i y).2
      ·have e:i=j:=O5 r y
       subst e
       exact W.refl (f.lt (by lia))) q
   by_cases B:m>1
   ·erw[B,if_true,Dr]
    refine hc _ _ _ (g.lt (LF E)) (g.lt (by lia)) ?_
    cases F:lt (A8 p 0) (A8 p (m-1))with
    |true=>
     exact q m p g a (by lia) c
    |false=>
     have f:=g.rev 0 m
     have t:∀i,i<m->Eqv lt (A8 p i) (A8 p (m-1)):=λi u=>#[c i (m-1) ((OW a).mpr u) (Nat.sub_one_lt_of_lt a),W.trans (g.lt (by lia)) (g.lt (i:=0) (by lia)) (g.lt (by lia)) F (c 0 i (by lia) u)]
     have l:=λk C=>Su W hc g (i:=0) (j:=m) (by lia) (by lia) (λk _ C=>t k C) k C
     refine o _ f (λi u=>?_) ?_
     ·have G:=l (m-1) (by lia)
      exact#[W.trans (f.lt (by lia)) (g.lt (i:=i) (by lia)) (f.lt (by lia)) (l i (by lia)).1 (W.trans (g.lt (by lia)) (g.lt (i:=m-1) (by lia)) (f.lt (by lia)) (t i u).1 G.2),
       W.trans (f.lt (by lia)) (g.lt (i:=m-1) (by lia)) (f.lt (by lia)) G.1 (W.trans (g.lt (by lia)) (g.lt (i:=i) (by lia)) (f.lt (by lia)) (t i u).2 (l i (by lia)).2)]
     ·rw[show A8 (kas_rev p 0 m) m=A8 p m by rw[M8 (by rw[g.size];lia),if_neg (by lia)]]
      rcases W.neg (A8 p m) (A8 (kas_rev p 0 m) (m-1)) (A8 p (m-1)) (g.lt (by lia)) (f.lt (by lia)) (g.lt (by lia)) v with z|z
      ·exact z
      ·have:=(l (m-1) (by lia)).2;unfold Ei at this;rw[z]at this;cases this
   ·have e:m=1:=by lia
    subst e
    refine o p g (λi u=>?_) v
    have e:i=0:=by lia
    subst e
    exact#[W.refl (g.lt (by lia)),W.refl (g.lt (by lia))]
set_option tactic.hygienic true in
theorem Sv{p:Array Nat}(c:Bs n p){k:Nat}(h:k<n)(j:Ha lt p k):∀(f l r:Nat){Q:Nat->Ab->Prop},l<=r->r<=k->r<=l+f->(∀i,i<l->Ei lt (A8 p i) (A8 p k))->(∀i,r<=i->i<k->lt (A8 p k) (A8 p i)=J') ->
  (∀m,m<=k->(∀i,i<m->Ei lt (A8 p i) (A8 p k))->(∀i,m<=i->i<k->lt (A8 p k) (A8 p i)=J')->Q m s)->Dr cmp (kas_place p k f l r) Q s
 |0,l,r,Q,v,o,w,t,u,q=>by
  rw[kas_place,Dr]
  have e:l=r:=O5 v w
  subst e
  exact q l o t u
 |f+1,l,r,Q,v,o,w,t,u,q=>by
  rw[kas_place]
  by_cases d:l≥r
  ·have e:l=r:=O5 v d
   subst e
   rw[if_pos d,Dr]
   exact q l o t u
  ·rw[if_neg d,Dr]
   refine hc _ _ _ (c.lt h) (c.lt (by lia)) ?_
   cases x:lt (A8 p k) (A8 p ((l+r)/2))with
   |true=>
    erw[if_true]
    refine Sv c h j f l ((l+r)/2) (by lia) (by lia) (by lia) t (λi a b=>?_) q
    have g:=j ((l+r)/2) i a b
    rcases W.neg (A8 p k) (A8 p i) (A8 p ((l+r)/2)) (c.lt h) (c.lt (HG b h)) (c.lt (by lia)) x with z|z
    ·exact z
    ·unfold Ei at g;rw[z]at g;cases g
   |false=>
    erw[Ff,if_false]
    refine Sv c h j f ((l+r)/2+1) r (by lia) o (by lia) (λi a=>?_) u q
    exact W.trans (c.lt (by lia)) (c.lt (i:=(l+r)/2) (by lia)) (c.lt h) (j i ((l+r)/2) (Nat.le_of_lt_succ a) (by lia)) x
set_option tactic.hygienic true in
theorem YH:∀(f:Nat)(p:Array Nat)(k:Nat){Q:Array Nat->Ab->Prop},Bs n p->k+f=n->Ha lt p k->(∀u,Bs n u->Ha lt u n->Q u s)->Dr cmp (kas_bin f p k) Q s
 |0,p,k,Q,g,w,h,q=>by
  rw[kas_bin,Dr]
  have e:k=n:=Nat.add_right_cancel w
  subst e
  exact q p g h
 |f+1,p,k,Q,g,w,h,q=>by
  rw[kas_bin,O7]
  refine Sv W hc g (k:=k) (by lia) h k 0 k (F2 k) (A5 _) (Nat.le_add_left k 0) (λi z=>by lia) (λi a b=>by lia) λl a b c=>?_
  refine YH f _ (k+1) (g.bub _ _) (by lia) (λi j m y=>?_) q
  have o:k<p.size:=by rw[g.size];lia
  have v:k-(k-l)=l:=Nat.sub_sub_self a
  rw[YE o (Nat.sub_le k l),YE o (Nat.sub_le k l),v]
  by_cases x:i=l
  ·rw[if_pos x]
   by_cases d:j=l
   ·rw[if_pos d];exact W.refl (g.lt (by lia))
   ·rw[if_neg d,if_pos (by lia)]
    exact W.of_lt (g.lt (by lia)) (g.lt (by lia)) (c (j-1) (by lia) (by lia))
  ·rw[if_neg x]
   by_cases r:l<i/\i<=k
   ·rw[if_pos r,if_neg (by lia),if_pos (by lia)]
    exact h (i-1) (j-1) (Nat.sub_le_sub_right m 1) (by lia)
   ·rw[if_neg r]
    by_cases d:j=l
    ·rw[if_pos d];exact b i (by lia)
    ·rw[if_neg d]
     by_cases t:l<j/\j<=k
     ·rw[if_pos t];exact h i (j-1) (by lia) (by lia)
     ·rw[if_neg t];exact h i j m (by lia)
theorem qc{Q:Array Nat->Ab->Prop}(g:1<=n)(q:∀f,Bs n f->Ha lt f n->Q f s):Dr cmp (kas_sort n) Q s:=by
 unfold kas_sort
 rw[O7]
 refine qb W hc (p:=(Bf n).toArray) (Array.Perm.refl _) g λm f a b c d=>?_
 by_cases h:m<n
 ·erw[h,if_true]
  have e:max m 1=m:=Nat.max_eq_left b
  rw[e]
  exact YH W hc (n-m) f m a (Nat.add_sub_of_le c) d q
 ·have e:m=n:=by lia
  subst e
  erw[Hw,if_false,Dr]
  exact q f a d
end
section
variable{prog:AI}{w:Ah}{A:Ag}{s:Ab}
theorem qd{l b:Ac}{a:Array Aa}{r:Bool}{n n2:Nat}{c:O Ac}{f d:Array (O Aa)}{Q:Bool->Ab->Prop}(e:s.heap.get? l=Z {cls:=.type "list",dict:=dd,data:=.seq items n,slots:=f})(g:s.heap.get? b=Z {cls:=.type "list",dict:=c,data:=.seq a n2,slots:=d})(i:Fh A.in1 s items.toList a.toList r)
  (j:A.units<Aq) (h:Q r s):wpAny (Af prog w) A (oneLt' J' (.ref l) (.ref b)) Q E s:=by
 rw[oneLt'_eq]
 refine Al (wpAny_cRoomFor j ?_)
 refine Al (wpAny_callSpecialIfBound?_slot (T:="list") #[_,e,rfl] PySem.F.slot_list_lt (call_meets PySem.F.slot_list_lt #[_,e,rfl] PySem.F.entry_list_lt (PySem.F.args_list_lt_2 _ _) (Xc l b items a n n2 dd c f d r) #[e,g,i,?_]))
 exact Ix h
end
section
variable{s:Ab}{N:Fb}
theorem qe(S:Inv X pins I H s){prog:AI}{w:Ah}(A:Ag)(hu:A.units+40<Aq)(b fin:Bool){Q:Bool->Ab->Prop}:∀(xs ys:U D)(a c:U V)(d f:U Aa)(i:Nat)(r:Bool),Fm (ltN 5) xs ys=Z r ->
  Ad X.K N H xs a->Ad X.K N H ys c->An a d->An c f->fin=decide (xs.length<ys.length) ->
  (b=O'\/i≠0\/((∀x,xs.head?=Z x->∃n,x=.int n)/\∀y,ys.head?=Z y->∃n,y=.int n))->Q r s->KatLex prog w A b fin Q (d.zip f) i s:=by
 intro xs
 induction xs with
 |nil=>
  intro ys a c d f i r h m o C E t T q
  erw[Ad]at m;subst m;cases C
  refine kat_nil ?_
  cases ys with
  |nil=>erw[Fm]at h;cases h;rw[t];exact q
  |cons y ys=>erw[Fm]at h;cases h;rw[t];simpa using q
 |cons x xs R=>
  intro ys a c d f i r h m o C E t T q
  erw[Ad]at m;obtain⟨w1,t1,Y,g,G⟩:=m;subst Y
  cases C with
  |cons j F=>
   cases ys with
   |nil=>
    erw[Ad]at o;subst o;cases E
    erw[Fm]at h;cases h
    exact kat_nil (by rw[t];simpa using q)
   |cons y ys=>
    erw[Ad]at o;obtain⟨w2,t2,e2,k,L⟩:=o;subst e2
    cases E with
    |cons l M=>
     obtain⟨P,h⟩:=ZX h
     rw[Co]at P
     have v:=(MY S ZT A x y _ _ _ _ (by unfold ZT;lia) P.1 P.2 g.p k.p j l).2.1
     refine kat_cons ?_
     split at h
     ·next e=>
      rw[e]at v
      refine v prog w _ _ ?_
      unfold KatGo
      exact R ys _ _ _ _ (i+1) r h G L F M (by rw[t];simp) (.inr (.inl (B0 (Nat.zero_ne_add_one i)))) q
     ·next e=>
      rw[Bool.not_eq_true]at e
      rw[e]at v
      refine v prog w _ _ ?_
      refine kat_no ?_
      by_cases B:(b&&i==0)=J'
      ·rw[B]
       have u:b=J'/\i=0:=by simpa using B
       rcases T with z|z|⟨z1,z2⟩
       ·rw[u.1]at z;cases z
       ·exact absurd u.2 z
       ·obtain⟨n1,rfl⟩:=z1 x rfl
        obtain⟨n2,rfl⟩:=z2 y rfl
        have g1:=g.p.int
        have g2:=k.p.int
        subst g1 g2
        obtain⟨k1,rfl⟩:=j
        obtain⟨k2,rfl⟩:=l
        cases h
        exact oneLt_int q
      ·rw[Bool.not_eq_true]at B
       rw[B]
       exact kat_one _ _ (Sa S 5 A x y _ _ _ _ r (by unfold ZT;lia) h g.p k.p j l prog w _ (PySem.W.BoolBack Q) q)
def Cc(b:O Bool)(k:D):Prop:=match b with
 |some J'=>∃i r,k=.tup (.int i::r)
 |some O'=>∃f r,k=.tup (.tup f::r)
 |none=>∃r,k=.lst r
abbrev M9:O Bool->SortKind
 |some b=>tuples' b
 |none=>oneType'
theorem Cc.tup{b:Bool}{k:D}(h:Cc (Z b) k):∃f r,k=.tup (f::r):=by
 cases b with
 |true=>obtain⟨i,r,e⟩:=h;exact#[_,_,e]
 |false=>obtain⟨i,r,e⟩:=h;exact#[_,_,e]
theorem qf(S:Inv X pins I H s){prog:AI}{w:Ah}(A:Ag)(B:A.units+40<Aq)(b r:Bool){k1 k2:D}{t u:V}{v x:Aa}{Q:Bool->Ab->Prop}(h:ltN 6 k1 k2=Z r)(y:Cc (Z b) k1)(z:Cc (Z b) k2)
  (C:As X.K N H k1 t) (G:As X.K N H k2 u) (F:RelV t v) (L:RelV u x) (q:Q r s):wpAny (Af prog w) A (keyLt' (tuples' b) v x) Q E s:=by
 obtain⟨M,P,i⟩:=y.tup
 obtain⟨T,R,j⟩:=z.tup
 subst i j
 obtain⟨a1,k,i,Y,d⟩:=C
 obtain⟨a2,l,j,q2,e⟩:=G
 subst i j
 cases F
 cases L
 obtain⟨a,f,⟨o1,m,_,n1,n⟩,_⟩:=S.tuple Y
 obtain⟨c,g,⟨o2,o,_,n2,p⟩,_⟩:=S.tuple q2
 refine kat_lt m n o p ?_
 have:=qe S (prog:=prog) (w:=w) (N:=N) A B b (decide (a.toArray.size<c.toArray.size)) (Q:=Q) (M::P) (T::R) k l a c 0 r h d e f g (by rw[BR,BR,<- f.length,<- g.length,<- d.length,<- e.length]) (by
  cases b with
  |false=>exact .inl rfl
  |true=>
   obtain⟨i1,_,i⟩:=y
   obtain⟨i2,_,j⟩:=z
   grind) q
 simpa using this
theorem qg(S:Inv X pins I H s){prog:AI}{w:Ah}(A:Ag)(R:A.units+40<Aq)(b:O Bool)(r:Bool){k1 k2:D}{o t:V}{v:Aa}{Q:Bool->Ab->Prop}(h:ltN 6 k1 k2=Z r)(x:Cc b k1)(y:Cc b k2)
  (z:As X.K N H k1 o) (B:As X.K N H k2 t) (C:RelV o u) (G:RelV t v) (q:Q r s):wpAny (Af prog w) A (keyLt' (M9 b) u v) Q E s:=by
 cases b with
 |some b=>exact qf S A R b r h x y z B C G q
 |none=>
  obtain⟨Y,a⟩:=x
  obtain⟨g2,c⟩:=y
  subst a c
  obtain⟨a1,vs1,a,q1,d⟩:=z.p
  obtain⟨a2,vs2,c,q2,e⟩:=B.p
  subst a c
  cases C
  cases G
  obtain⟨F,f,⟨⟨cls,dd,data,sl⟩,n1,g,i,L,j⟩,_⟩:=S.list q1
  obtain⟨M,k,⟨⟨P,dd2,data2,sl2⟩,n2,l,m,T,n⟩,_⟩:=S.list q2
  subst i j m n
  exact qd g l (by simpa using XN S 5 (Sa S 5) A (by unfold ZT;lia) Y g2 _ _ _ _ h d e f k) (by lia) q
set_option tactic.hygienic true in
theorem qh(S:Inv X pins I H s){M:Model}(b:Bool):∀(c:U D)(kvs:U V)(us:U Aa),Ad X.K N H c kvs->An kvs us->(∀k∈c,Cc (Z b) k) ->
  ∃fs,KatTups s.heap us fs/\fs.length=us.length/\∀v∈fs,Looks M s.heap (typeOf v) (.type (if b then "int" else "tuple")):=by
 intro c
 induction c with
 |nil=>
  intro kvs us d r _
  erw[Ad]at d;subst d;cases r
  exact#[[],KatTups.nil,rfl,λ_ h=>nomatch h]
 |cons k c L=>
  intro kvs us d r C
  erw[Ad]at d;obtain⟨v,t,e,P,R⟩:=d;subst e
  cases r with
  |cons Y rt=>
   obtain⟨fs,h1,h2,h3⟩:=L t _ R rt λk l=>C k (Bu _ l)
   have m:=C k Bk
   obtain⟨f,g,e⟩:=m.tup
   subst e
   obtain⟨a,vs,e,q,dl⟩:=P
   subst e
   cases Y
   obtain⟨its,x,⟨o,ho,hc,n,hd⟩,_⟩:=S.tuple q
   obtain⟨w,vs',e,G,_⟩:=dl
   subst e
   cases x with
   |cons j rt1=>
    rename_i u us'
    refine#[u::fs,KatTups.cons ho hc hd (by simp) h1,by simp[h2],λv y=>?_]
    rcases BK.mp y with e|y
    ·subst e
     intro A Q E s' l F
     cases b with
     |true=>
      obtain⟨i,_,e⟩:=m
      cases e
      have g:=G.p.int
      subst g
      obtain⟨t,rfl⟩:=j
      exact La (T:="int") rfl F
     |false=>
      obtain⟨i,_,e⟩:=m
      cases e
      obtain⟨a2,vs2,rfl,q2,_⟩:=G
      cases j
      obtain⟨_,_,⟨o2,z,B,_⟩,_⟩:=S.tuple q2
      exact La (T:="tuple") #[o2,l _ _ z,B] F
    ·exact h3 v y
theorem qi(C:Inv X pins I H s){M:Model}:∀(b:U D)(kvs:U V)(us:U Aa),Ad X.K N H b kvs->An kvs us->(∀k∈b,Cc J k)->∀u∈us,Looks M s.heap (typeOf u) (.type "list"):=by
 intro b
 induction b with
 |nil=>
  intro kvs us d r _
  erw[Ad]at d;subst d;cases r
  simp_all
 |cons k b i=>
  intro kvs us d r h
  erw[Ad]at d;obtain⟨v,t,e,j,l⟩:=d;subst e
  cases r with
  |cons m rt=>
   intro u c
   rcases BK.mp c with e|c
   ·subst e
    obtain⟨g,rfl⟩:=h k Bk
    obtain⟨a,z,rfl,q,_⟩:=j.p
    cases m
    obtain⟨_,_,⟨o,n,w,x,_⟩,_⟩:=C.list q
    intro A Q E B f y
    exact La (T:="list") #[o,f _ _ w,x] y
   ·exact i t _ l rt (λk f=>h k (Bu _ f)) u c
theorem qj(j:Inv X pins I H s){M:Model}{A:Ag}(b:O Bool)(a:U D)(kvs:U V)(us:U Aa)(d:Ad X.K N H a kvs)(r:An kvs us)(c:∀k∈a,Cc b k)(e:2<=us.length){Q:SortKind->Ab->Prop}(q:Q (M9 b) s):wpAny M A (keyKind' us.toArray) Q E s:=by
 cases b with
 |some b=>
  obtain⟨h,f,i,g⟩:=qh j (M:=M) b a kvs us d r c
  refine kat_kind f (by lia) g (by cases b<;>rfl) ?_
  rw[show(Value.type (if b=J' then "int" else "tuple") != Value.type "tuple")=b by cases b<;>rfl]
  exact q
 |none=>exact kas_kind e (qi j a kvs us d r c) rfl rfl q
structure Off(X:Cx)(pins:AS)(a:Ac):Prop where
 nL:a≠X.env.locals
 s0:X.s₀.heap.objs.size<=a
 cl:∀x c,X.env.cells.lookup x=Z c->c≠a
 pn:∀p∈X.pn++pins,p.1≠a
 nf:a∉X.fs
theorem Inv.off(g:Inv X pins I H s)(h:s.heap.objs.size<=a):Off X pins a where
 nL:=λe=>by have b:=g.lt;rw[<- e]at b;exact absurd (BE b h) (Hw _)
 s0:=BJ g.sz h
 cl:=λx c e z=>by
  obtain⟨v,o,d,_⟩:=g.cell x c e
  have b:=Br d
  grind
 pn:=λp f z=>by
  have b:=Br (g.pin p f).1
  grind
 nf:=g.nofs h
theorem Inv.pin1(g:Inv X pins I H s)(c:H a=J)(f:Off X pins a)(e:s.heap.get? a=Z o)(d:∀v,o.data≠.cell v):Inv X (pins++[(a,o)]) I H s:=
 g.pins_of λp b=>by
  rcases Dn.mp b with b|b
  ·exact g.pin p (CY _ b)
  ·erw[D9]at b;subst b;exact#[e,c,f.nL,f.nf,d]
theorem Inv.catch{d:U Aa}{n:Nat}(l:Inv X pins I H s)(h:H a=J)(f:Off X pins a)(e:s.heap.get? a=Z {cls:=.type "list",data:=.seq d.toArray n})(i:An vs d)(hz:vs.length<=AA):Inv X pins I (AN H a (.lst vs)) s:=by
 have ne:∀b u,H b=Z u->b≠a:=λb u q z=>by rw[z,h]at q;cases q
 have:=l.step (h':=s.heap) (g':=s.gens) (d':=s.drawn) (t':=s.toks) (ch:=[a]) (H':=AN H a (.lst vs)) (λb g=>by
   have e:b=a:=by simpa using g
   subst e
   exact#[.inr f.s0,f.nL,f.cl,f.pn]) (λb o _ _ _ q _=>q) (λb o _ _ _ q _=>#[o.slots,q]) (λb o g _ n=>by rw[Zq (λz=>g (by simp[z]))];exact n) (λb o _ q=>#[o,q])
  (λb j q=>Zq (ne _ _ q) ▸ q) (λb o u q=>Zq (ne _ _ q) ▸ q) (λb A q=>#[(T' []),by rw[Zq (ne _ _ q),q];simp]) (λm k=>k) (λb u q=>by
   by_cases g:b=a
   ·subst g
    rw[ZZ]at q
    cases q
    exact#[hz,d,n,i,e]
   ·rw[Zq g]at q
    exact(l.hok b u q).stay (λc v _ r=>r) (λc r=>Zq (ne _ _ r) ▸ r) λc j r=>Zq (ne _ _ r) ▸ r) l.bare
 exact this
end
def Ds(F:U Sl->O Rv)(x:D):D:=((F [.val x]).map Dd).getD .non
def Ck(F:U Sl->O Rv)(x y:D):Bool:=match ltN 6 (Ds F x) (Ds F y)with
 |some J'=>J'
 |_=>O'
theorem YI{F:U Sl->O Rv}{x y:D}{r:Bool}(h:ltN 6 (Ds F x) (Ds F y)=Z r):Ck F x y=r:=by
 unfold Ck;rw[h];cases r<;>rfl
structure Bj(F:List Sl->Option Rv)(xs:List D):Prop where
 few:xs.length<64
 tells:∀x∈xs,∃r,F [.val x]=Z r
 mode:∃b,∀x∈xs,Cc b (Ds F x)
 cmp:∀x∈xs,∀y∈xs,∃r,ltN 6 (Ds F x) (Ds F y)=Z r
 asym:∀x∈xs,∀y∈xs,Ck F x y=J'->Ck F y x=O'
 neg:∀x∈xs,∀y∈xs,∀z∈xs,Ck F x z=J'->Ck F x y=J'\/Ck F y z=J'
 anti:∀x∈xs,∀y∈xs,Ck F x y=O'->Ck F y x=O'->x=y
def HZ(lt:D->D->Bool)(x:D):U D->U D
 |[]=>[x]
 |y::r=>if lt x y then x::y::r else y::HZ lt x r
def EH(lt:D->D->Bool):U D->U D
 |[]=>[]
 |x::r=>HZ lt x (EH lt r)
theorem Sw(lt:D->D->Bool)(x:D):∀l,(HZ lt x l).Perm (x::l)
 |[]=>.refl _
 |y::r=>by
  unfold HZ
  split
  ·exact .refl _
  ·exact((Sw lt x r).cons y).trans (.swap x y r)
theorem O8(lt:D->D->Bool):∀l,(EH lt l).Perm l
 |[]=>.refl _
 |x::r=>(Sw lt x _).trans ((O8 lt r).cons x)
theorem YJ{F:U Sl->O Rv}{xs:U D}(h:Bj F xs){x:D}(f:x∈xs):∀l:U D,(∀y∈l,y∈xs)->l.Pairwise (λa b=>Ck F b a=O')->(HZ (Ck F) x l).Pairwise λa b=>Ck F b a=O'
 |[],_,_=>by simp[HZ]
 |y::r,g,j=>by
  obtain⟨k,m⟩:=List.pairwise_cons.mp j
  have i:=g y Bk
  unfold HZ
  split
  ·next d=>
   refine List.pairwise_cons.mpr #[λz c=>?_,j]
   rcases BK.mp c with e|c
   ·subst e;exact h.asym x f z i d
   ·cases n:Ck F z x with
    |false=>rfl
    |true=>
     rcases h.neg z (g z (Bu _ c)) y i x f n with q|q
     ·rw[k z c]at q;cases q
     ·rw[h.asym x f y i d]at q;cases q
  ·next d=>
   rw[Bool.not_eq_true]at d
   refine List.pairwise_cons.mpr #[λz c=>?_,YJ h f r (λz c=>g z (Bu _ c)) m]
   rcases BK.mp ((Sw (Ck F) x r).subset c)with e|c
   ·subst e;exact d
   ·exact k z c
theorem YK{F:U Sl->O Rv}{xs:U D}(h:Bj F xs):∀l:U D,(∀y∈l,y∈xs)->(EH (Ck F) l).Pairwise λa b=>Ck F b a=O'
 |[],_=>.nil
 |x::r,c=>YJ h (c x Bk) _ (λy d=>c y (Bu _ ((O8 _ r).subset d))) (YK h r λy d=>c y (Bu _ d))
def Fp(F:U Sl->O Rv)(xs:U D):A2:=gd (Bj F xs) (Z (EH (Ck F) xs))
theorem Bj.same{F:U Sl->O Rv}{ys:U D}(h:Bj F xs)(c:ys.Perm xs)(d:ys.Pairwise λa b=>Ck F b a=O'):ys=EH (Ck F) xs:=
 List.Perm.eq_of_pairwise (le:=λa b=>Ck F b a=O') (λa b e f g i=>h.anti a (c.subset e) b ((O8 _ xs).subset f) i g) d (YK h xs λ_ j=>j) (c.trans (O8 _ xs).symm)
theorem qk{F:U Sl->O Rv}(h:Bj F xs):Fp F xs=Z (EH (Ck F) xs):=MJ h
theorem Sx{F:U Sl->O Rv}{ys:U D}(h:Fp F xs=Z ys):Bj F xs/\ys=EH (Ck F) xs:=by grind [Fp,gd]
section
variable{s:Ab}{N:Fb}
theorem Sy{K:Am}{b:U D}{vs:U V}(h:Ad K N H b vs):∀(a:U Nat),(∀j∈a,j<b.length)->Ad K N H (a.map λj=>b.getD j .non) (a.map λj=>vs.getD j .non)
 |[],_=>Ad.nil
 |j::a,c=>by
  obtain⟨v,e,d⟩:=h.get (B8 (c j Bk))
  exact Ad.cons (by simp_all) (Sy h a λk f=>c k (Bu _ f))
theorem Na{vs:U V}{us:U Aa}(h:An vs us):∀(b:U Nat),An (b.map λj=>vs.getD j .non) (b.map λj=>us.getD j .none)
 |[]=>.nil
 |j::b=>by
  refine .cons ?_ (Na h b)
  induction h generalizing j with
  |nil=>simp;rfl
  |cons a _ c=>
   cases j<;>simp_all
theorem YL(zB:Inv X pins I H s){prog:AI}{w:Ah}(A:Ag)(hu:A.units+40<Aq){F:U Sl->O Rv}{f:U D}(h:Bj F f){kvs:U V}{us items:U Aa}
  (d:Ad X.K N H (f.map (Ds F)) kvs) (r:An kvs us) (g:items.length=f.length) {P:PySem.Fin->Ab->Prop} {T:SortSt->Sem PySem.Fin}
  (q:∀(p:U Nat) (st:SortSt),p.Perm (Bf f.length)->(p.map λj=>f.getD j .non)=EH (Ck F) f->Array.map (λx=>x.2) (arrOf st)=(p.map λj=>items.getD j .none).toArray->failedOf st=J->wpAny (Af prog w) A (T st) P E s):
  wpAny (Af prog w) A (do
   let kind <- if items.toArray.size<2 then AC general' else keyKind' us.toArray
   let((),s) <- (if items.toArray.size<2 then AC ()else sortRuns').run (SortSt.mk' kind (us.toArray.zip items.toArray) (T' []) 7 J)
   T s) P E s:=by
 have l1:=d.length
 have l2:=r.length
 rw[Bh]at l1
 by_cases t:items.toArray.size<2
 ·rw[if_pos t]
  erw[t,if_true]
  have u:us.length=items.length:=by lia
  rw[BR]at t
  refine Al (AO ?_)
  refine Al ?_
  refine AO ?_
  refine q (Bf f.length) (SortSt.mk' general' (us.toArray.zip items.toArray) (T' []) 7 J) (.refl _) ?_ ?_ rfl
  ·have e:(Bf f.length).map (λj=>f.getD j .non)=f:=by
    apply J5
    intro i
    by_cases g:i<f.length
    ·simp[g]
    ·simp[g]
   rw[e]
   refine h.same (.refl _) ?_
   match f,g with
   |[],_=>exact .nil
   |[a],_=>exact List.pairwise_singleton _ _
   |a::b::c,g=>simp at g;lia
  ·show Array.map (λx=>x.2) (us.toArray.zip items.toArray)=_
   have e:(Bf f.length).map (λj=>items.getD j .none)=items:=by
    rw[<- g]
    apply J5
    intro i
    by_cases g:i<items.length
    ·simp[g]
    ·simp[g]
   rw[e,List.zip_toArray,List.map_toArray]
   congr 1
   exact List.map_snd_zip (Nat.le_of_eq u.symm)
 ·rw[if_neg t]
  erw[t,if_false]
  rw[BR]at t
  obtain⟨b,m⟩:=h.mode
  refine Al (qj zB b (f.map (Ds F)) kvs us d r (λk hk=>by
   obtain⟨x,hx,rfl⟩:=Be.mp hk
   exact m x hx) (by lia) ?_)
  have u:us.length=items.length:=by lia
  have hr:=kas_range (us.toArray.zip items.toArray)
  rw[show(us.toArray.zip items.toArray).size=f.length by simp;lia]at hr
  have M:SortSt.mk' (M9 b) (us.toArray.zip items.toArray) (T' []) 7 J=kas_st (M9 b) (us.toArray.zip items.toArray) (Bf f.length).toArray:=by
   unfold kas_st;rw[hr]
  refine Al ?_
  rw[M]
  have W:WO (λi j=>Ck F (f.getD i .non) (f.getD j .non)) f.length:=by
   have mem:∀i,i<f.length->f.getD i .non∈f:=λi g=>by
    rw[show f.getD i .non=f[i] by simp[Ex,g]];exact FL g
   exact#[λa b y m S=>h.asym _ (mem a y) _ (mem b m) S,λa b c y m zA S=>h.neg _ (mem a y) _ (mem b m) _ (mem c zA) S]
  have zA:∀i j (C:Bool->Ab->Prop),i<f.length->j<f.length->C (Ck F (f.getD i .non) (f.getD j .non)) s->kas_cmp prog w A (M9 b) (us.toArray.zip items.toArray) i j C s:=λi j C n o hq=>by
   unfold kas_cmp
   rw[kat_item u,kat_item u]
   have mem:∀i,i<f.length->f.getD i .non∈f:=λi g=>by
    rw[show f.getD i .non=f[i] by simp[Ex,g]];exact FL g
   obtain⟨rr,z⟩:=h.cmp _ (mem i n) _ (mem j o)
   rw[YI z]at hq
   have B:∀i,i<f.length->∃v,As X.K N H (Ds F (f.getD i .non)) v/\RelV v (us.getD i .none):=λi g=>by
    obtain⟨v,ev,dv⟩:=d.get (i:=i) (d:=Ds F f[i]) (by simp[g])
    refine#[v,by rw[show f.getD i .non=f[i] by simp[Ex,g]];exact dv,?_]
    have:=Na r [i]
    cases this with
    |cons a _=>
     rw[<- (show kvs.getD i .non=v by simp[Ex,ev])]
     exact a
   obtain⟨v1,Y,rv1⟩:=B i n
   obtain⟨v2,dv2,rv2⟩:=B j o
   exact qg zB A hu b rr z (m _ (mem i n)) (m _ (mem j o)) Y dv2 rv1 rv2 hq
  refine kas_runs (Q:=λ_ st R=>wpAny (Af prog w) A (T st) P E R) (G:=λp R=>R=s/\Bs f.length p/\Ha (λi j=>Ck F (f.getD i .non) (f.getD j .non)) p f.length) (by lia) h.few (λp st R hp y hf hg=>?_) (qc W zA (by lia) λp a b=>#[rfl,a,b])
  obtain⟨rfl,hB,hS⟩:=hg
  have l:p.toList.Perm (Bf f.length):=by
   have:=hB.toList
   simpa using this
  refine q p.toList st l ?_ (kat_snds u y) hf
  refine h.same ?_ ?_
  ·have e:(Bf f.length).map (λj=>f.getD j .non)=f:=by
    apply J5
    intro i
    by_cases g:i<f.length
    ·simp[g]
    ·simp[g]
   have:=l.map λj=>f.getD j .non
   rw[e]at this
   exact this
  ·rw[List.pairwise_map,List.pairwise_iff_getElem]
   intro i j g L hij
   have:=hS i j (Nat.le_of_succ_le hij) (by simp at L;exact K7 L hp)
   unfold Ei A8 at this
   simp at g L
   simpa[Array.getD,g,L]using this
theorem ql(i:Inv X pins I H s){prog:AI}{w:Ah}(A:Ag)(f:A.units+40<Aq){F:U Sl->O Rv}{b:U D}(h:Bj F b){kvs:U V}{us items:U Aa}
  (d:Ad X.K N H (b.map (Ds F)) kvs) (r:An kvs us) (g:items.length=b.length) {c:Nat} {e:Aa} {P:PySem.Fin->Ab->Prop}
  (q:∀(p:U Nat) (st:SortSt),p.Perm (Bf b.length)->(p.map λj=>b.getD j .non)=EH (Ck F) b->Array.map (λx=>x.2) (arrOf st)=(p.map λj=>items.getD j .none).toArray->failedOf st=J->wpAny (Af prog w) A (ksk_tail a O' c e st) P E s):
  wpAny (Af prog w) A (ksk_end a O' items.toArray c e us.toArray) P E s:=by
 unfold ksk_end
 exact YL i A f h d r g q
end
section
variable{s:Ab}{N:Fb}
abbrev Di(a:U Aa)(n:Nat):Obj:={cls:=.type "list",data:=.seq a.toArray n}
theorem Inv.rawset{c its':U Aa}{n:Nat}{f:Array Aa->Array Aa}(k:Inv X pins I H s)(d:H a=J)(o:Off X pins a)(e:s.heap.get? a=Z (Di c n))(g:f c.toArray=its'.toArray):
  ∃h,(s.heap.update a (Fe f)).get? a=Z (Di its' h)/\Inv X pins I H {s with heap:=s.heap.update a (Fe f)}:=by
 have q:=PySem.IsL.update e f
 rw[g]at q
 exact#[_,q,k.turned (t':=s.toks) (λb u i j=>(Lc s.heap (Fe f) (B0 i)).trans j) d o.nL (.inr o.s0) o.cl o.pn]
theorem Sz(a:U Aa)(n:Nat)(v:O Aa):(Di a n).data≠.cell v:=nofun
theorem Off.more{b:Ac}(f:Off X pins a)(h:b≠a):Off X (pins++[(b,o)]) a:=
 #[f.nL,f.s0,f.cl,λp c=>by
  rw[<- O9]at c
  rcases Dn.mp c with c|c
  ·exact f.pn p c
  ·erw[D9]at c;subst c;exact h,f.nf]
theorem Inv.pinGet(b:Inv X pins I H s)(h:(a,o)∈pins):s.heap.get? a=Z o/\H a=J:=#[(b.pin _ (CY _ h)).1,(b.pin _ (CY _ h)).2.1]
theorem qm{prog:AI}{w:Ah}(A:Ag){D c:Ac}{e l:Nat}{us out:U Aa}{P:PySem.Fin->Ab->Prop}{st:SortSt}(d:Inv X (pins++[(D,Di [] e)]++[(c,Di us l)]) I H s)
  (i:Off X pins D) (m:Off X pins c) (ne:D≠c) (g:us.length<=AA) (h:Array.map (λx=>x.2) (arrOf st)=out.toArray) (n:failedOf st=J) (j:An vs out) (hz:vs.length<=AA)
  (q:∀s',Inv X pins I (AN H D (.lst vs)) s'->P (.done (.ret .none)) s'):wpAny (Af prog w) A (ksk_tail D O' e (.ref c) st) P E s:=by
 obtain⟨gk,o⟩:=d.pinGet (a:=c) (CY _ Bk)
 obtain⟨p,hd⟩:=d.pinGet (a:=D) (Iw _ (CY _ Bk))
 obtain⟨n2,u,k⟩:=d.unpinned.rawset (f:=λ_=>(T' [])) (its':=[]) o (m.more ne) gk rfl
 refine Al (Nb gk rfl ?_ (by simpa using g) (by simp))
 refine Al (wpAny_letGo ?_)
 obtain⟨b,_⟩:=k.pinGet (a:=D) (CY _ Bk)
 refine Al (seqEpoch_at b rfl ?_)
 obtain⟨n3,r,t⟩:=k.unpinned.rawset (f:=λ_=>out.toArray) (its':=out) hd i b rfl
 erw[Ff,if_false,h]
 refine Al (Nb b rfl ?_ (by simp) (by simp;exact J1 (show out.length<=AA by rw[<- j.length];exact hz)))
 rw[n]
 erw[show(e != e)=O' by simp,Ff,if_false]
 exact AO (q _ (t.catch hd i r j hz))
variable{k:Nat}{fn:Ac}{fd:B6}{F:U Sl->O Rv}
theorem qo(j:AQ X.prog X.w X.K X.mg X.base Bg k fn fd ps (AU X.K F))(h:Binds X.K fd ps [])(W:Inv X pins I H s)(A:Ag)(t:AF k A)(B:CF X.prog X.w X.K X.mg X.base A X.stack s H)(l:∀a,N a->H a≠J){x:D}{v:V}(d:As X.K N H x v)(C:RelV v u){r:Rv}(m:F [.val x]=Z r) {Q:AJ} (q:∀i s' c H',Inv X pins I H' s'->Ai H H'->As X.K N H' (Ds F x) c->RelV c i->Q i s'):wpAny (Af X.prog X.w) A (call (.ref fn) [u]) Q E s:=by
 have f:AU X.K F [v] H (λc H'=>Ai H H'/\As X.K N H' (Ds F x) c) E0:=by
  refine#[N,[.val x],r,l,?_,m,λc H' n o=>#[n,?_]]
  ·exact#[v,[],rfl,d,rfl]
  ·have e:Ds F x=Dd r:=by unfold Ds;rw[m];rfl
   rw[e]
   cases r with
   |val y=>exact o
   |own Y p=>
    obtain⟨a,G,P,L,M,R⟩:=o
    exact#[a,G,P,.of (λz=>l a z L) M,R.nw λb h=>.inl (.inl h)]
 have T:([u]:U Aa).length=ps.length:=by
  have:=j.len _ _ _ _ f
  simp_all
 refine wpAny_call (K6 (j.run A X.stack s H #[[u],[]] [u] [v] _ E0 t B (by simpa using h s [u] W.kIn (by simpa using T)) (.cons C .nil) f) λr s' g=>?_)
 cases r with
 |error e=>exact BP g
 |ok p=>
  cases p with
  |ret i=>
   obtain⟨c,H',I',S,n,hd⟩:=W.after g
   grind
  |next=>exact BP g
  |brk=>exact BP g
  |cont=>exact BP g
set_option tactic.hygienic true in
theorem Ai.none{H H':Hp}(h:Ai H H'){a:Ac}(e:H' a=J):H a=J:=by
 cases q:H a with
 |none=>rfl
 |some o=>rw[h a o q]at e;cases e
theorem qp(Fo:AQ X.prog X.w X.K X.mg X.base Bg k fn fd ps (AU X.K F))(hb:Binds X.K fd ps [])(A:Ag)(hr:AF k A)(hu:A.units+40<Aq)(hA:∀s H,CF X.prog X.w X.K X.mg X.base X.A X.stack s H->CF X.prog X.w X.K X.mg X.base A X.stack s H)
  {g h:Ac} {y e0:Nat} (zA:Inv X (pins++[(g,Di [] y)]++[(h,Di [] e0)]) I H s) (nh:∀a,N a->H a≠J) {items:U Aa} {xs:U V} {c:U D} (fD:Off X pins g) (B:Off X pins h) (ne:g≠h) (C:An xs items) (G:Ad X.K N H c xs) (ok:Bj F c) {P:PySem.Fin->Ab->Prop} (q:∀s' H' vs,Inv X pins I (AN H' g (.lst vs)) s'->Ai H H'->H' g=J->Ad X.K N H' (EH (Ck F) c) vs->P (.done (.ret .none)) s'):
  wpAny (Af X.prog X.w) A (ksk_rest g (.ref fn) O' items.toArray y (.ref h)) P E s:=by
 have l1:=G.length
 have l2:=C.length
 have few:=ok.few
 have hsl:AA=16777216:=Iy
 refine Al (IG ?_)
 refine Al (wpAny_forIn_array' _ (λAx _ s'=>∃(done:U Aa) (H':Hp) (i:U Aa) (d:U V) (L:Nat),items=done++Ax/\i.length=done.length/\Inv X (pins++[(g,Di [] y)]++[(h,Di i L)]) I H' s'/\Ai H H'/\An d i/\Ad X.K N H' ((c.take done.length).map (Ds F)) d) _ ?_ ?_ items.toArray PUnit.unit ?_)
 ·rintro u Ax b s1 ⟨done,H1,i,d,L,n,hl,l,sm,M,o⟩
  have S:done.length<c.length:=by
   grind
  have t:c[done.length]?=Z c[done.length]:=B8 S
  generalize c[done.length]=x at t
  obtain⟨v,hv,dv⟩:=G.get t
  have ru:RelV v u:=by
   have:=Na C [done.length]
   cases this with
   |cons a _=>
    simp_all
  obtain⟨r,hF⟩:=ok.tells x (GY t)
  refine Al (wpAny_attempt ?_)
  refine qo (N:=N) Fo hb l A hr (hA _ _ l.env0) (λa Q z=>nh a Q (sm.none z)) (dv.same sm) ru hF λT s2 v' H2 I2 m W Y=>?_
  obtain⟨gk,hk⟩:=I2.pinGet (a:=h) (CY _ Bk)
  obtain⟨n3,g3,I4⟩:=I2.unpinned.rawset (f:=λx=>x.push T) (its':=i++[T]) hk (B.more ne) gk (by simp)
  refine Al (Nb gk rfl ?_ (by simp;lia) (by simp;lia))
  refine AO ?_
  refine#[done++[u],H2,i++[T],d++[v'],n3,by rw[n];simp,by simp[hl],I4.pin1 hk (B.more ne) g3 (Sz _ _),sm.trans m,M.append (.cons Y .nil),?_]
  have e:(c.take (done++[u]).length).map (Ds F)=(c.take done.length).map (Ds F)++[Ds F x]:=by
   rw[FG,Rz,List.take_succ,t]
   simp
  rw[e]
  exact(o.same m).append (Ad.cons W Ad.nil)
 ·rintro b s1 ⟨done,H1,i,d,L,n,hl,l,sm,M,o⟩
  rw[Eb]at n
  subst n
  obtain⟨gk,hk⟩:=l.pinGet (a:=h) (CY _ Bk)
  obtain⟨gd',hd⟩:=l.pinGet (a:=g) (Iw _ (CY _ Bk))
  refine Al (listItems_at gk rfl ?_)
  rw[Sd (by lia)]at o
  refine ql (N:=N) l A hu ok o M (by lia) λp st hp hs Q hf=>?_
  have hpl:p.length=c.length:=by have:=hp.length_eq;simpa using this
  refine qm A l fD B ne (by lia) Q hf (Na C p) (by rw[Bh];lia) λs' R=>?_
  refine q s' H1 _ R sm hd ?_
  rw[<- hs]
  exact Sy (G.same sm) p λj hj=>by have:=hp.subset hj;simpa using this
 ·exact#[[],H,[],[],e0,by simp,rfl,zA,Ai.refl H,.nil,Ad.nil]
theorem qq(C:AQ X.prog X.w X.K X.mg X.base Bg k fn fd ps (AU X.K F))(G:Binds X.K fd ps [])(A:Ag)(z:AF k A)(L:A.units+40<Aq)(M:∀s H,CF X.prog X.w X.K X.mg X.base X.A X.stack s H->CF X.prog X.w X.K X.mg X.base A X.stack s H)
  (W:Inv X pins I H s) (R:∀a,N a->H a≠J) {c:Ac} {items:U Aa} {Q:Nat} {xs:U V} {j:U D} (g:s.heap.get? c=Z (Di items Q)) (r:H c=J) (l:Off X pins c) (t:An xs items) (v:Ad X.K N H j xs) (ok:Bj F j) {P:PySem.Fin->Ab->Prop} (q:∀s' H' vs,Inv X pins I (AN H' c (.lst vs)) s'->Ai H H'->H' c=J->Ad X.K N H' (EH (Ck F) j) vs->P (.done (.ret .none)) s'):
  wpAny (Af X.prog X.w) A (ksk_tree c (.ref fn) O') P E s:=by
 have l1:=v.length
 have l2:=t.length
 have few:=ok.few
 have T:AA=16777216:=Iy
 refine Al (listItems_at g rfl ?_)
 obtain⟨n1,y,S⟩:=W.rawset (f:=λ_=>(T' [])) (its':=[]) r l g rfl
 refine Al (Nb g rfl ?_ (by simp;lia) (by simp))
 refine Al (seqEpoch_at y rfl ?_)
 refine Al (wpAny_newTuple ?_ (by simp;lia))
 generalize m:({heap:=s.heap.update c (Fe λx=>(T' [])),gens:=s.gens,drawn:=s.drawn,toks:=s.toks,os:=s.os}:Ab)=d at *
 have n:=S.kept (t':=d.toks) (λb u e=>Bp {cls:=.type "tuple",data:=.seq items.toArray} e)
 generalize p:({heap:=d.heap.push {cls:=.type "tuple",data:=.seq items.toArray},gens:=d.gens,drawn:=d.drawn,toks:=d.toks,os:=d.os}:Ab)=i at *
 have h:i.heap.get? c=Z (Di [] n1):=p ▸ (Bp {cls:=.type "tuple",data:=.seq items.toArray} (show d.heap.get? c=Z (Di [] n1) by rw[<- m];exact y))
 refine Al (wpAny_newList ?_ (by simp))
 have B:=n.off (A5 i.heap.objs.size)
 exact FC (qp (N:=N) C G A z L M (((n.kept (t':=i.toks) (λb u e=>Bp (Di [] 0) e)).pin1 r l (Bp (Di [] 0) h) (Sz _ _)).pin1 n.fresh (B.more (BX (Br h))) (B4 i.heap (o:=Di [] 0) rfl) (Sz _ _)) R l B (BX (Br h)) t v ok q)
theorem qr(r:AQ X.prog X.w X.K X.mg X.base Bg k fn fd ps (AU X.K F))(j:Binds X.K fd ps [])(m:AF (k+2) X.A)
  (S:Inv X pins I H s) (t:∀a,N a->H a≠J) {xs:U V} {h:U D} (v:BF X.K H a xs) (x:Ad X.K N H h xs) (ok:Bj F h) {Q:VK}
  (q:∀f vs H',Ai H H'->H f=J->H' f=Z (.lst vs)->Ad X.K (λb=>N b\/b=f) H' (EH (Ck F) h) vs->Q (.ref f) H'):
  wpAny (Af X.prog X.w) X.A (call (.builtin "sorted") [.ref a] [("key",.ref fn)]) (EP X pins I Q) X.xe s:=by
 obtain⟨c,p,⟨o,n,B,C,E,hd⟩,hz⟩:=S.list v
 have l2:=p.length
 refine wpAny_call (SD plain_sorted entry_sorted ?_)
 refine AO ?_
 show wpAny _ _ (do checkCount "sorted" 1 1 1;let y <- collect (.ref a);let l <- newList y;let _ <- D8 [l] (call (.builtin "list.sort") [l] [("key",.ref fn)]);ret l) _ _ _
 refine Al (AO ?_)
 refine Al (wpAny_collect_seq a (T:="list") (.inl rfl) B C hd (λG L=>?_) (by simp;lia))
 have d:=S.kept (t':=s.toks) L
 refine Al (wpAny_newList ?_ (by simp;lia))
 generalize R:({heap:=G,gens:=s.gens,drawn:=s.drawn,toks:=s.toks,os:=s.os}:Ab)=i at *
 have g:=B4 i.heap (o:=Di c 0) rfl
 refine Al (FC ?_)
 refine wpAny_call (SD PySem.F.slot_list_sort.plain PySem.F.entry_list_sort ?_)
 refine PySem.F.slot_list_sort.check _ _ _ _ _ _ _ _ #[_,g,rfl] rfl ?_
 refine qq (N:=N) r j X.A.in1.in1 m.in1.in1 ?_ (λs H e=>e.in1.in1) (d.kept (t':=i.toks) (λb u e=>Bp (Di c 0) e)) t g d.fresh (d.off (A5 i.heap.objs.size)) p x ok λs' H' vs P sm Y dv=>?_
 ·have:=m.un;show X.A.units+1+1+40<_;lia
 ·refine AO ?_
  refine#[.ref _,_,P,rfl,q _ vs _ (λb u e=>?_) d.fresh ZZ ?_]
  ·rw[Zq (λz=>by rw[z,d.fresh]at e;cases e)];exact sm b u e
  ·exact Ad.step (M:=λ_=>False) #[λb u e z=>by
    rw[Zq (λz=>by rw[z,Y]at e;cases e)];exact e,λb j=>by
    grind] _ _ dv
end
section
variable{M:Fb}{k:Nat}{fn:Ac}{fd:B6}{F:U Sl->O Rv}{e:Expr}{f:AB}{x y:Ae}{p kpos:Az}
def Ki(F:U Sl->O Rv)(f:AB):VE->A2:=λa=>match f a with
 |some (.lst b)=>Fp F b
 |_=>J
set_option tactic.hygienic true in
theorem qt(W:AQ X.prog X.w X.K X.mg X.base Bg k fn fd ps (AU X.K F))(Y:AF (k+2) X.A)(hg:Gl X x)(hm:X.mg x=J)(hv:DO x=Z (.builtin "sorted"))(l:Gl X y)(m:X.mg y=Z (.ref fn))(hb:Binds X.K fd ps [])(n:JE X e (tP X.K M H0 f))
  (hn:x≠"__name__":=by ext) (o:Cg x:=by ext) (d:Cg y:=by ext) (G:AE [e] X.env=(O',Ao e X.env)::AE [] X.env:=by exact Z1 rfl):
  JE X (.Call (.Name x p) [e] [#[Z "key",.Name y p2,kpos]] pos) (tF X.K M H0 (Ki F f)):=#[have n:=n.h;by
 rintro b s g H Q zA ⟨r,ys,R,i,q⟩
 refine Mu (GS zA hg hm hv ?_ hn o)
 unfold Ki at i
 split at i
 ·next P hf=>
  obtain⟨ok,rfl⟩:=Sx i
  have L:=(Es n (Bm (X:=X)) G) pos b s g H (λj c=>∃v,j=[v]/\Ai H c/\Aw X.K (Nf M r g) c (.lst P) v) zA #[r,.lst P,R,hf,λv c t d1=>#[v,rfl,t,d1]]
  rw[G]at L ⊢
  refine callWith_builtin_kwB rfl rfl ?_
  refine Al (AV L λus t z=>?_)
  obtain⟨j,c,I1,r1,v,rfl,sm,a,ws,rfl,sq,dl⟩:=z
  refine Al (AO ?_)
  refine FC ?_
  refine Al (AV ((lG (nm:=Z "key") (kpos:=kpos) (Rb (v:=.ref fn) (pos:=p2) l m rfl d) (lF (X:=X))) pos b t g c (λS T=>S=[.ref fn]/\T=c) I1 #[rfl,rfl]) λks s2 z=>?_)
  obtain⟨S,T,I2,r2,rfl,rfl⟩:=z
  refine Al (AO ?_)
  refine AO ?_
  obtain⟨u,rfl,ru⟩:=EW r1
  obtain⟨u2,rfl,B⟩:=EW r2
  cases B
  cases ru
  exact qr (N:=Nf M r g) W hb Y I2 (R.st sm).nh sq dl ok λda j H' s' C E dv=>q da j H' (sm.trans s') (sm.none C) E dv
 ·cases i]
end
end L2
variable{kvs:L2.A6}
namespace L2
open PySem PySem.Spec PyProof.Rows
section
@[simp] theorem ZAm(xs:U D):Xt (.lst xs)=Z xs:=rfl
end
open PySem.W
theorem qu:typeLookup (.type "list") ("keys":Ae)=AC J:=am_miss_of_fast (by kernel_rfl)
theorem qv{prog:AI}{w:Ah}{A:Ag}{s:Ab}{f:Array Aa}{Q:O Aa->Ab->Prop}(p:PlainL s.heap a f)(i:A.handled=J)
  (q:∀h' h,(∀b o,s.heap.get? b=Z o->h'.get? b=Z o)->Q J {s with heap:=h',toks:=h}):wpAny (Af prog w) A (getAttr? (.ref a) "keys") Q E s:=by
 obtain⟨⟨c,u,v,j⟩,n,e,k,hd,l⟩:=p
 subst k hd l
 obtain⟨m,g,d,h,os⟩:=s
 have ty:∀t,(#[m,g,d,t,os]:Ab).TypeIs (.ref a) "list":=λ_=>#[_,e,rfl]
 have l1:=sub_AttributeError
 have x:=F.slot_list_getattribute.lookup
 have y:=F.slot_list_getattribute.bind (.ref a)
 have l4:=am_list_getattr_none
 unfold getAttr? getAttrBy? getAttrBy
 repeat(any_goals(first
  |assumption
  |exact ty _
  |((with_reducible show wpAny _ _ (call (Value.builtin "list.__getattribute__") _ _) _ _ _)
    refine call_meets F.slot_list_getattribute (ty _) am_entry_list_getattribute (F.args_list_getattribute_2 _ _) (meets_getattribute_miss_list a f n j "keys" _ qu (by decide +kernel) (by decide +kernel)) #[e,i,λr z B new=>?_])
  |wp_step))
 obtain⟨C,G,ex⟩:=new.there
 unfold getattributeRaised
 repeat(any_goals(wp_step))
 exact q r _ new.keeps
theorem YM:entryFor table "dict.update.loop"=Z Fi.«dict.update.loop»:=entryFor_of_tree (by kernel_rfl)
theorem YN:plainId "dict.update.loop"=J':=by decide +kernel
theorem YO{K:Am}{k:KT}{v:V}(h:Ev K H k v)(s:Ai H H'):Ev K H' k v:=by
 cases k with
 | «at» a=>exact h
 |tup l=>obtain⟨p,e,b⟩:=h;exact#[p,e,b.same s]
noncomputable def EI:A6->U D->O A6
 |a,[]=>Z a
 |a,.tup [y,d]::r=>match Dg y with
  |some k=>if Dh k a&&decide (a.length<AA)then EI (ZR a k d) r else J
  |none=>J
 |_,_=>J
theorem qw{M:Model}{A:Ag}{s:Ab}{p:Ac}{a:Array Aa}{Q:U Aa->Ab->Prop}(h:IsTup s.heap p a)(q:Q a.toList s):wpAny M A (Builtin.Dict.pairItems (.ref p)) Q E s:=by
 obtain⟨o,e,b,n,hd⟩:=h
 refine Al (La (T:="tuple") #[o,e,b] ?_)
 refine Al (Al (wpAny_load e ?_))
 rw[hd]
 exact AO (AO q)
section
variable{A:Ag}{it l:Ac}{N:Fb}{us:U Aa}
set_option tactic.hygienic true in
theorem YP(hu:A.units+1<Aq)(hA:A.in1.handled=J)(G:H a=J)(f:FD X pins H it)(h:it≠a)(n:l≠it)(x:l≠a):∀(F:U D)(vs:U V)(ws:U Aa)(i:Nat)(s:Ab)(kvs:A6)(tr:U T3)(c:A6),
  us.drop i=ws->An vs ws->Ad X.K N H F vs->PD X.K N H kvs tr->Inv X pins I (AN H a (EF tr)) s->s.heap.IsListIter it l i->s.heap.IsList l us.toArray->EI kvs F=Z c ->
  (∀s' z,Inv X pins I (AN H a (EF z)) s'->PD X.K N H c z->R (.ok (.ret .none)) s') ->
  codeAny (Af X.prog X.w) A (.builtin "dict.update.loop" #[[.ref a,.ref it,AZ (i:Int),.none],[]]) R s
 |[],vs,ws,i,s,kvs,tr,c,hd,P,Q,m,W,j,L,g,q=>by
  cases Q
  cases P
  cases g
  refine IM YM ?_
  have T:us.toArray[i]?=J:=by
   have:=List.drop_eq_nil_iff.mp hd
   simp[this]
  refine Al (wpAny_pyNext_list_end hA j L T λh' ke=>?_)
  have M:=W.turned (t':=s.toks) (λb o S e=>ke b o S e) (Zq h ▸ f.1) f.2.1 f.2.2.2.1 f.2.2.2.2.1 f.2.2.2.2.2
  exact Al (AO (AO (q _ tr M m)))
 |d::F,vs,ws,i,s,kvs,tr,c,hd,P,Q,m,W,j,L,g,q=>by
  obtain⟨v,Y,rfl,d1,dn'⟩:=Q
  cases P with
  |@cons _ u _ B rv hv'=>
  unfold EI at g
  split at g
  ·cases ‹_::_=[]›
  ·next y dd r e1=>
   cases e1
   cases hk:Dg y with
   |none=>rw[hk]at g;cases g
   |some k=>
    rw[hk]at g
    obtain⟨hc,g⟩:=ZX g
    rw[Co,decide_eq_true_eq]at hc
    have ey:=IZ hk
    subst ey
    obtain⟨p,vs2,rfl,sq,kv,r2,rfl,dk,vv,r3,rfl,dv,rfl⟩:=d1
    cases rv
    have hat:us.toArray[i]?=Z (.ref p):=by
     simpa using(show(us.drop i)[0]?=Z (Ci p) by rw[hd];rfl)
    have hd':us.drop (i+1)=B:=by
     rw[<- List.tail_drop,hd];rfl
    refine IM YM ?_
    refine Al (wpAny_pyNext_list_item j L hat λh' C sb=>?_)
    have M:=W.turned (t':=s.toks) (λb o S e=>(sb.2 b S).trans e) (Zq h ▸ f.1) f.2.1 f.2.2.2.1 f.2.2.2.2.1 f.2.2.2.2.2
    obtain⟨its,rv2,ht,_⟩:=M.tuple (sq.same (ZY G))
    obtain⟨u1,u2,rfl,r1,r2⟩:=Mr rv2
    refine Al (FC ?_)
    refine Al (wpAny_tryCatch (qw ht ?_))
    refine FC ?_
    refine Yo J' hu M ZZ (λt ht=>YO (m.keys t ht) (ZY G)) (m.hom hc.1) (YO (I0 dk) (ZY G)) r1 r2 (by have:=Gc m;lia) λh2 t2 I2 E=>?_
    rw[jF]at I2
    refine AO #[Ld YN _,?_]
    refine YP hu hA G f h n x F Y B (i+1) _ (ZR _ k dd) (Eg tr k kv vv) c hd' hv' dn' (m.put dk dv) I2 ?_ ?_ g q
    ·obtain⟨o,e,hh⟩:=C
     exact#[o,(E.2 it h).trans e,hh]
    ·exact(L.at λo e=>(sb.2 l n).trans e).at λo e=>(E.2 l x).trans e
  ·cases g
theorem qx(t:X.calm=J')(hu:X.A.units+64<Aq){s:Ab}{Q:VK}(P:Inv X pins I H s){j:U D}(G:BF X.K H l vs)(v:Ad X.K N H j vs)(L:EI [] j=Z kvs)
  (q:∀tr p,H p=J->PD X.K N H kvs tr->Q (.ref p) (AN H p (EF tr))):wpAny (Af X.prog X.w) X.A (call (.type "dict") [.ref l]) (EP X pins I Q) E s:=by
 obtain⟨us,M,u,hz⟩:=P.list G
 have g:l<s.heap.objs.size:=by obtain⟨o,n,e,_⟩:=u;exact Br e
 refine callType_codes (Q₁:=λx y=>x=.ref s.heap.objs.size/\y={s with heap:=s.heap.push {cls:=.type "dict",data:=.dict (T' [])} }) F.kt_called_dict (F.kt_typeCall_dict_1 (.ref l)) F.entry_dict_init (kt_code_dict_new (.ref l) #[rfl,rfl]) ?_
 rintro x y ⟨rfl,rfl⟩
 have c:PlainL (s.heap.push {cls:=.type "dict",data:=.dict (T' [])}) l us.toArray:=by
  obtain⟨o,n,e,h⟩:=u
  exact#[o,n,Bp _ e,h]
 refine#[#[_,B4 _ rfl,rfl],F.args_dict_init_2 _ _,?_]
 refine Al (Al (wpAny_notOrdered_dict #[_,B4 _ rfl,rfl] ?_))
 refine AO ?_
 show wpAny _ _ (Builtin.Dict.updateFrom "dict.__init__" s.heap.objs.size (.ref l) [] .none) _ _ _
 refine Al (La (T:="list") (by obtain⟨o,n,e,h,_⟩:=c;exact#[o,e,h]) ?_)
 refine Al (qv c (P.ok.hd t) λf B k=>?_)
 have m:=(P.laid (a:=s.heap.objs.size) (o:=EF []) (t':=s.toks) (λ_ _ z=>Bp _ z) (A5 _) #[F2 _,beq_eq_false_iff_ne.mpr (B0 (BX P.big)),List.nodup_nil,_,(T' []),0,B4 _ rfl,#[rfl,rfl,rfl],rfl,rfl,rfl]).kept (h':=f) (t':=B) k
 have i:PlainL f l us.toArray:=by
  obtain⟨o,n,e,h⟩:=c
  exact#[o,n,k _ _ e,h]
 refine Al (IG ?_)
 refine Al (Oo i.isList ?_)
 have d:s.heap.objs.size<f.objs.size:=Br (k _ _ (B4 _ rfl))
 have C:FD X pins H f.objs.size:=m.fpOk (A5 _) (by
  have:=m.hok.fresh (a:=f.objs.size) (A5 _)
  rw[Zq (Gi d)]at this
  exact this)
 refine AO #[Ld YN _,?_]
 refine YP (A:=X.A.in1) (N:=N) (us:=us) (by show X.A.units+1+1<Aq;lia) (P.ok.hd t) (P.hok.fresh (A5 _)) C (Gi d) (BX (HG g d)) (BX g) j vs us 0 _ [] [] kvs rfl M v .nil (m.kept (h':=f.push {cls:=.type "list_iterator",data:=.fields (T' [.ref l,.int 0 0])}) (t':=B) λb o e=>Bp _ e) #[_,B4 _ rfl,rfl,rfl] ?_ L λs' r Y pd=>?_
 ·exact i.isList.push _
 ·exact#[rfl,.ref s.heap.objs.size,_,Y,rfl,q r _ (P.hok.fresh (A5 _)) pd]
end
theorem qy:DO "dict"=Z (.type "dict"):=by kernel_rfl
def E6(f:AB):VE->A2:=λa=>match f a with
 |some (.lst b)=>(EI [] b).map Zb
 |_=>J
section
variable{M:Fb}{e:Expr}{f:AB}{p:Az}
set_option tactic.hygienic true in
theorem qA(x:X.calm=J')(y:X.A.units+64<Aq)(z:Gl X "dict")(B:X.mg "dict"=J)(l:JE X e (tP X.K M H0 f))(r:AE [e] X.env=(O',Ao e X.env)::AE [] X.env:=by exact Z1 rfl):
  JE X (.Call (.Name "dict" p) [e] [] pos) (ED .d X.K M H0 (E6 f)):=#[have l:=l.h;by
 rintro g s i H Q W ⟨j,Y,R,c,q⟩
 unfold E6 at c
 split at c
 ·next m C=>
  obtain⟨n,E,c⟩:=BG.mp c
  cases c
  refine Call_ (GS W z B qy (Mn (AV ((Es l (Bm (X:=X)) r) pos g s i H (λo k=>∃v,o=[v]/\Ai H k/\Aw X.K (Nf M j i) k (.lst m) v) W #[j,.lst m,R,C,λv k t G=>#[v,rfl,t,G]]) λus t F=>?_) (by rw[r]) rfl))
  obtain⟨o,k,L,N,v,rfl,sm,a,ws,rfl,P,dl⟩:=F
  obtain⟨u,rfl,T⟩:=EW N
  cases T
  refine qx x y L P dl E λtr b S w=>?_
  have:=MC (K:=X.K) (M:=M) (ρ:=j) (I:=i) (fl:=.d) (Q:=Q) (xs:=Zb n) (vs:=DK tr) (p:=b) sm S w.flat q
  rw[Kf w]at this
  grind
 ·cases c]
theorem qB{K:Am}(i:Nat){x:Ae}{a:Az}(b:NV X i x:=by exact EB):
  JS X (.Return (Z (.Name x a)) pos) (tS K M H0 λρ=>G4 (E2 ρ i)):=#[Xr rfl (λ_=>rfl) MG b]
end
section
variable{K:Am}{M:Fb}
theorem qC{st:Au}:JS X st (tS K M H0 λ_=>.fail):=#[λa s b H D d ⟨c,R,q⟩=>BP q]
end
structure F5(K:Am)(C:Ac):Prop where
 ga:findIn K (.ref C) "__getattribute__"=Z (Z (.builtin "BaseException.__getattribute__"))
 cl:findIn K (.ref C) "__class__"=Z (Z (.builtin "object.__class__"))
 gr:findIn K (.ref C) "__getattr__"=Z J
 bx:subIn K (.ref C) (.type "BaseException")=Z J'
 ob:subIn K (.ref C) (.type "object")=Z J'
 ty:typeIn K (.ref C)=Z (.type "type")
 is:∃cd,clsIn K C=Z cd
section
variable{prog:AI}{w:Ah}{A:Ag}{h:Ak}{g:Array GenState}{d:Drawn}{t:Nat}{os:OsState}{e:Ac}{K:Am}
theorem qD(X:K.In h)(F:F5 K C)(p:E1 e C h)(c:R (.ok (.ret (.ref C))) #[h,g,d,t,os]):codeAny (Af prog w) A (.call (.builtin "getset_descriptor.__get__") #[[.builtin "object.__class__",.ref e,.ref C],[]]) R ⟨h,g,d,t,os⟩:=by
 obtain⟨o,f,a,b,i⟩:=p
 refine SD PySem.F.slot_gs_get.plain PySem.F.entry_gs_get (PySem.F.slot_gs_get.check _ _ _ _ _ _ _ _ PySem.F.typeOf_object_class (PySem.F.args_gs_get _ _ _) ?_)
 repeat(any_goals(first|assumption|(with_reducible refine Pa a ?_;rw[b])|(with_reducible refine Looks.at (show Looks (Af prog w) h (isSubtype (.ref C) (.type (".".intercalate ("object.__class__".cutAt '.').dropLast))) J' by rw[PySem.F.owner_object_class];exact looks_subIn X F.ob) ?_)|wp_step))
 refine#[Code.quiet_builtin _ (by decide +kernel),IM PySem.F.entry_object_class ?_]
 repeat(any_goals(first|assumption|(with_reducible refine Pa a ?_;rw[b])|wp_step))
theorem qE{a:Tok}{Q:Fin->Ab->Prop}(X:K.In h)(F:F5 K C)(p:E1 e C h)(f:Q (.done (.ret (.ref C))) #[h,g,d,t,os]):wpAny (Af prog w) A (Fi.«object.__getattribute__» #[[.ref e,.str "__class__" a],[]]) Q E ⟨h,g,d,t,os⟩:=by
 obtain⟨o,i,b,c,j⟩:=id p
 have k:=PySem.F.typeOf_object_class
 have l:=PySem.F.slot_gs_get.lookup
 have m:=PySem.F.slot_gs_set.lookup
 repeat(any_goals(first|assumption|(with_reducible refine Pa b ?_;rw[c])|(with_reducible refine Looks.at (looks_findIn X F.cl) ?_)|wp_step))
 refine qD X F p ?_
 repeat(any_goals(first|assumption|wp_step))
theorem qF{M:Model}{a:Aa}(X:K.In h)(F:F5 K C)(p:E1 e C h)(b:Q () #[h,g,d,t,os]):wpAny M A (checkBuiltinCall "BaseException.__getattribute__" #[[.ref e,a],[]]) Q E ⟨h,g,d,t,os⟩:=by
 obtain⟨o,l,c,f,m⟩:=p
 have i:builtinKind "BaseException.__getattribute__"=Z .slot:=by decide +kernel
 have j:splitId "BaseException.__getattribute__"=Z ("BaseException","__getattribute__"):=by decide +kernel
 have k:Looks M h (isSubtype (.ref C) (.type "BaseException")) J':=looks_subIn X F.bx
 have n:=PySem.F.args_bexc_ga (.ref e) a
 erw[checkBuiltinCall,i,j]
 refine Al ?_
 unfold isInstance
 repeat(first|(with_reducible refine Pa c ?_;rw[f])|(with_reducible refine Looks.at k ?_)|wp_step)
 exact b
theorem qG{a:Tok}(X:K.In h)(F:F5 K C)(p:E1 e C h)(b:R (.ok (.ret (.ref C))) #[h,g,d,t,os]):
  codeAny (Af prog w) A (.call (.builtin "BaseException.__getattribute__") #[[.ref e,.str "__class__" a],[]]) R ⟨h,g,d,t,os⟩:=
 SD PySem.F.excAttr_ValueError.ga.plain PySem.F.entry_bexc_ga (qF X F p (qE X F p b))
theorem qH{a:Tok}{Q:AJ}(X:K.In h)(F:F5 K C)(p:E1 e C h)(f:Q (.ref C) #[h,g,d,t,os]):wpAny (Af prog w) A (getAttrBy (.ref e) (.str "__class__" a) O') Q E ⟨h,g,d,t,os⟩:=by
 obtain⟨o,i,b,c,j⟩:=id p
 have k:=PySem.F.excAttr_ValueError.ga.bind (.ref e)
 repeat(any_goals(first|assumption|(with_reducible refine Pa b ?_;rw[c])|(with_reducible refine Looks.at (looks_findIn X F.ga) ?_)|(with_reducible refine Looks.at (looks_findIn X F.gr) ?_)|wp_step))
 refine qG X F p ?_
 repeat(any_goals(first|assumption|wp_step))
theorem qI{s:Ab}{Q:O Aa->Ab->Prop}(X:K.In s.heap)(F:F5 K C)(p:E1 e C s.heap)(a:Q (Z (.ref C)) {s with toks:=s.toks+1}):wpAny (Af prog w) A (getAttr? (.ref e) "__class__") Q E s:=by
 obtain⟨h,g,d,t,os⟩:=s
 repeat(any_goals(first|assumption|with_reducible apply qH X F p|wp_step))
theorem qJ(F:F5 K C):KitX K (.ref e) (.ref C) (E1 e C) where
 ty:=λM h X p=>by
  obtain⟨o,l,d,f,m⟩:=p
  intro A Q E s k q
  exact Al (wpAny_loadPart (k _ _ d) (AO (f ▸ q)))
 it:=λM h X _=>by
  obtain⟨g,a⟩:=F.is
  unfold clsIn at a
  split at a
  ·rename_i b
   intro A Q E s k q
   unfold isType loadHead
   exact Al (wpAny_loadPart (k _ _ (X _ _ b)) (AO q))
  ·cases a
 ne:=λh i r j n t X c=>by
  obtain⟨g,a⟩:=F.is
  refine Bool.eq_false_iff.mpr λq=>?_
  obtain rfl:C=i:=Value.ref.inj (beq_iff_eq.mp q)
  unfold clsIn at a
  split at a
  ·rename_i b
   cases((X _ _ b).symm.trans c)
  ·cases a
 ca:=λX p k=>qI X F p k
end
structure Fq(B:Ak)(l:List Env)(e:Ac)(C fl:Aa)(h:Ak):Prop where
 stay:B.StaysIn h
 new:B.get? e=J
 fun_:h.FunFrames B l
 rcd:∃oe vs,h.get? e=Z oe/\oe.cls=C/\oe.data=.fields vs/\vs[2]?=Z .none/\(vs[1]?=Z .none\/∃T oT ts,vs[1]?=Z (.ref T)/\B.get? T=J/\T≠e/\h.get? T=Z oT/\oT.data=.fields ts/\ts[3]?=Z fl)
section
variable{M:Model}{A:Ag}{s:Ab}{B:Ak}{l outer:U Env}{env:Env}{e L:Ac}{C fl:Aa}
theorem Fq.outs{h:Ak}(a:Fq B (env::outer) e C fl h):Fq B outer e C fl h:=#[a.stay,a.new,a.fun_.2.2,a.rcd]
theorem Pb{h:Ak}{b x:Ac}{a:Obj}{ws:Array Aa}(c:h.get? b=Z o)(nf:∀vs,o.data≠.fields vs)(d:h.get? x=Z a)(e:a.data=.fields ws):b≠x:=by grind
theorem YQ{head:Aa}{R:Bool}{j:Obj}{vs:Array Aa}(n:A.frames=Z (env::outer))(F:env.frame=Z L)(st:B.StaysIn s.heap)(nw:B.get? e=J)(k:s.heap.FunFrames B (env::outer))
  (l:s.heap.get? e=Z j) (N:j.cls=C) (f:j.data=.fields vs) (K:vs[2]?=Z .none) (hz:1<vs.size) (q:∀h',Fq B (env::outer) e C (AZ L) h'->s.heap.UpToSlots h'->Q () {s with heap:=h' }):
  wpAny M A (do let a <- frameOf env;let pl <- entryPlaceOf L R;let b <- EntryCells.newEntry head a .none (AZ L) .none pl;setField (.ref e) 1 b) Q E s:=by
 have T:e∉(env::outer).filterMap (·.frame):=λp=>by
  obtain⟨_,o,g,z⟩:=k.mem p
  rw[l]at g;cases g;exact z vs f
 refine Al (wpAny_frameOf_fun n k F λc sg=>Al (wpAny_entryPlaceOf λv r=>?_))
 unfold EntryCells.newEntry newFields;refine Al (IH ?_ (r.sizeOk5 _ _ _ _ _))
 have t:c.get? e=Z j:=(sg.2.1 e T).trans l
 have w:B.StaysIn c:=λb o z=>(sg.2.1 b λp=>by rw[(k.mem p).1]at z;cases z).trans (st b o z)
 generalize g:({cls:=.type "traceback",dict:=J,data:=.fields ([head,.ref L,.none,AZ L,.none]++(if v.isEmpty then C9 6 Gb else v)).toArray}:Obj)=i
 obtain⟨m,P,Y⟩:=(show ∃m,i.data=.fields m/\m[3]?=Z (AZ L) by subst g;exact#[_,rfl,by simp])
 have x:=Bp (h:=c) i t
 refine Nc x f hz (q _ ?_ ?_)
 all_goals
  have G:=LH f (·.setIfInBounds 1 (Ci c.objs.size))
  have kp:∀b o,b≠e->c.get? b=Z o->((c.push i).update e (Obj.mapFields (·.setIfInBounds 1 (Ci c.objs.size)))).get? b=Z o:=λb o z d=>by
   rw[Lc _ _ (B0 z)];exact Bp _ d
 ·refine#[λb o z=>kp b o (λy=>by rw[y,nw]at z;cases z) (w b o z),nw,k.of_keeps λb o d nf=>?_,_,_,(My (Obj.mapFields (·.setIfInBounds 1 (Ci c.objs.size))) x (SE G)),(Obj.cls_mapFields _ _).trans N,G,by rw[Array.getElem?_setIfInBounds_ne (by ext)];exact K,.inr #[c.objs.size,i,m,by simp[hz],w.fresh,(Gi (Br t)),?_,P,Y]]
  ·obtain⟨H,u⟩:=sg.2.2 b o d
   exact#[_,kp b _ (Pb d nf l f) u,rfl]
  ·rw[Lc _ _ (B0 (Gi (Br t)))];exact B4 c (show i.isFreed=O' by subst g;rfl)
 ·intro b o d nf
  obtain⟨H,u⟩:=sg.2.2 b o d
  exact#[H,kp b _ (Pb d nf l f) u]
theorem YR{T:Ac}{g h:Obj}{i:Array Aa}{v:Aa}(st:B.StaysIn s.heap)(m:s.heap.FunFrames B l)(n:s.heap.get? e=Z h)(p:B.get? T=J)(ne:T≠e)(f:s.heap.get? T=Z g)(c:g.data=.fields i)(hz:3<i.size)
  (q:∀h',B.StaysIn h'->h'.FunFrames B l->h'.get? e=Z h->(∃j k,h'.get? T=Z j/\j.data=.fields k/\k[3]?=Z v)->s.heap.UpToSlots h'->Q () {s with heap:=h' }):wpAny M A (setField (.ref T) 3 v) Q E s:=by
 refine Nc f c hz ?_
 have a:∀b,b≠T->(s.heap.update T (Obj.mapFields (·.setIfInBounds 3 v))).get? b=s.heap.get? b:=λb z=>Lc _ _ (B0 z)
 refine q _ (λb o z=>(a b λy=>by rw[y,p]at z;cases z).trans (st b o z)) (m.of_keeps λb o d nf=>#[o,(a b (Pb d nf f c)).trans d,rfl]) ((a e (B0 ne)).trans n)
  #[_,_,My _ f (SE (LH c _)),LH c _,by simp[hz]] λb o d nf=>#[o.slots,(a b (Pb d nf f c)).trans d]
theorem YS(b:A.frames=Z (env::outer))(g:env.frame=Z L)(a:Fq B (env::outer) e C .none s.heap)(q:∀h',Fq B (env::outer) e C (AZ L) h'->s.heap.UpToSlots h'->Q () {s with heap:=h' }):
  wpAny M A (noteFrame (.ref e) env) Q E s:=by
 obtain⟨st,nw,k,v,w,c,d,f,l,r⟩:=a
 unfold noteFrame;erw[g]
 rcases r with r|⟨T,x,y,r,p,ne,m,n,o⟩
 ·refine Al (D2 c f r ?_)
  rw[if_neg (by ext)]
  exact YQ b g st nw k c d f l (SF.mp r).1 q
 ·refine Al (D2 c f r ?_)
  rw[if_pos (show(Ci T != Gb)=J' by simp)]
  refine Al (D2 m n o ?_)
  rw[if_neg (show ¬ (Gb==AZ L)=J' by simp[AZ])]
  refine Al (YR st k c p ne m n (SF.mp o).1 λh' h i j _ u=>?_)
  exact YQ (s:={s with heap:=h' }) b g h nw i j d f l (SF.mp r).1 λd a t=>q d a (u.trans t)
theorem SG(a:Fq B l e C fl s.heap)(q:∀h',Fq B l e C .none h'->s.heap.UpToSlots h'->Q () {s with heap:=h' }):wpAny M A (setFlight (.ref e) J) Q E s:=by
 obtain⟨st,nw,h,i,j,b,k,c,m,r⟩:=a
 unfold setFlight
 rcases r with r|⟨T,G,H,r,n,ne,o,p,t⟩
 ·refine Al (D2 b c r ?_)
  rw[if_neg (by ext)]
  exact AO (q s.heap #[st,nw,h,i,j,b,k,c,m,.inl r] (.refl _))
 ·refine Al (D2 b c r ?_)
  rw[if_pos (show(Ci T != Gb)=J' by simp)]
  exact YR st h b n ne o p (SF.mp t).1 λh' d f g ⟨v,w,x,y,z⟩ u=>q h' #[d,nw,f,i,j,g,k,c,m,.inr #[T,v,w,r,n,ne,x,y,z]] u
theorem qK(b:A.frames=Z (env::outer))(c:env.frame=Z L)(a:Fq B (env::outer) e C .none s.heap)(q:∀h',Fq B outer e C .none h'->s.heap.UpToSlots h'->Q () {s with heap:=h' }):wpAny M A (leaving env (.ref e)) Q E s:=by
 exact Al (YS b c a λd f g=>SG (s:={s with heap:=d}) f λh i j=>q h i.outs (g.trans j))
theorem _root_.L2.AY.ob{P:AI}{w:Ah}{H:Hp}{h:Ak}{x:Ac}{o:HO}(z:AY P w H h x o):∃ob,h.get? x=Z ob:=by
 cases o with
 |lst a=>obtain⟨_,_,_,_,q⟩:=z;exact#[_,q]
 |tup a=>obtain⟨_,_,_,ob,q,_⟩:=z;exact#[_,q]
 |dct c d=>obtain⟨_,_,_,ob,_,_,q,_⟩:=z;exact#[_,q]
 |ins D e b=>obtain⟨_,_,_,q,_⟩:=z;exact#[_,q]
 |own y=>exact z
 |xd b=>obtain⟨_,⟨_,_,_,q,_⟩,_⟩:=z;exact#[_,q]
 |rng lo g=>obtain⟨_,_,_,q⟩:=z;exact#[_,q]
 |frz ob u=>exact#[_,z.1]
 |tbl i=>exact#[_,z]
 |met f y=>exact#[_,z]
 |ext j=>exact z.2.1
def YT(P:AI)(w:Ah)(l:U Env)(H H':Hp)(s:Ak)(e C:Ac)(h:Ak):Prop:=
 Ai H H'/\Un (Cd l) [] H H' s h/\∃B,B7 P w H' B/\(∀b o,s.get? b=Z o->H b=J->b∉Cd l->B.get? b=Z o)/\Fq B l e (.ref C) .none h
def Jd(P:AI)(w:Ah):Dw:=λouter H s E e b=>∃a C c,e=.ref a/\b.os=s.os/\AllBare b.gens/\YT P w outer H c s.heap a C b.heap/\E (.ref C) J c
def Kj(Y:Cx)(b:AS)(I:St)(H:Hp)(C:Ac)(e:Aa)(s':Ab):Prop:=
 ∃a c f d,e=.ref a/\Inv Y b I c d/\Ai H c/\s'.os=d.os/\AllBare s'.gens/\YT Y.prog Y.w Y.stack c f d.heap a C s'.heap
theorem Kj.from{b:AS}{d:Hp}{C:Ac}{v:Aa}(sm:Ai H d)(t:Kj Y b I d C v s'):Kj Y b I H C v s':=by
 obtain⟨a,e,f,g,h,i,c,r⟩:=t
 exact#[a,e,f,g,h,i,sm.trans c,r]
theorem YU{fs:U Ac}{l:U Env}{m:Hp}{s q h h':Ak}{P:AI}{w:Ah}{C:Aa}(d:Un fs [] H m s q)(p:Un (Cd l) [] m H' q h)(A:B7 P w H' B)(k:∀b o,q.get? b=Z o->m b=J->b∉Cd l->B.get? b=Z o)
  (E:∀b o,s.get? b=Z o->H b=J->b∈Cd l->b∈fs) (sm:Ai m H') (a:Fq B l e C fl h) (st:B.StaysIn h') (G:h.UpToSlots h'):Un fs [] H H' s h':=by
 have nx:∀b:Ac,b∉([]:U Ac):=λb=>by simp
 have t:∀b o,q.get? b=Z o->m b=J->b∈Cd l->∃r,h'.get? b=Z {o with slots:=r}:=λb o z n f=>by
  obtain⟨r,c⟩:=p.any z n (nx b)
  obtain⟨_,v,g,nf⟩:=a.fun_.mem f
  rw[c]at g;cases g
  obtain⟨i,L⟩:=G b _ c nf
  simp_all
 refine#[λb o z n f _=>?_,λb o z n f _=>?_,λb o z n _=>?_,λb o z _=>?_,λb x z=>p.tups b x (d.tups b x z),λb o u z=>p.frzs b o u (d.frzs b o u z),λb K z=>?_]
 ·exact st b o (k b o (d.keep b o z n f (nx b)) (d.free b o z n (nx b)) λj=>f (E b o z n j))
 ·obtain⟨r,c⟩:=d.slot b o z n f (nx b)
  by_cases j:b∈Cd l
  ·obtain⟨i,g⟩:=t b _ c (d.free b o z n (nx b)) j
   exact#[i,g]
  ·exact#[r,st b _ (k b _ c (d.free b o z n (nx b)) j)]
 ·obtain⟨v,c⟩:=d.there b o z (nx b)
  exact p.free b v c (d.free b o z n (nx b)) (nx b)
 ·obtain⟨y,c⟩:=d.there b o z (nx b)
  cases f:m b with
  |none=>
   by_cases j:b∈Cd l
   ·obtain⟨i,g⟩:=t b y c f j
    exact#[_,g]
   ·exact#[y,st b _ (k b _ c f j)]
  |some u=>
   obtain⟨F,g⟩:=(A b u (sm b u f)).ob
   exact#[F,st b _ g]
 ·obtain⟨M,c⟩:=d.tbls b K z
  obtain⟨N,g⟩:=p.tbls b _ c
  grind [Array.append_assoc]
theorem qM{P:AI}{w:Ah}{h:Ak}{fs:U Ac}(a:B7 P w H h)(nf:∀b∈fs,H b=J):B7 P w H (hideAll h fs):=λx o z=>
 (a x o z).stay (λb u c q=>hideAll_get _ q λd=>by
  grind) (λ_ q=>q) λ_ _ q=>q
theorem qO{a:AS}{s:Ab}{D x:Ac}{vs:U Aa}{h':Ak}(i:Inv Y a I H s)(m:Heap.MadeExcOf s.heap h' x (.ref D) vs):Kj Y a I H D (.ref x) {s with heap:=h' }:=by
 have c:(hideAll s.heap (Cd Y.stack)).get? x=J:=by
  cases q:(hideAll s.heap (Cd Y.stack)).get? x with
  |none=>rfl
  |some o=>have:=of_hideAll _ q;rw[m.new]at this;cases this
 obtain⟨f,d,g,h⟩:=m.there
 exact#[x,H,H,s,rfl,i,Ai.refl H,rfl,i.bare,Ai.refl H,Un.kept m.keeps,hideAll s.heap (Cd Y.stack),qM i.hok i.stkFree,λb o z n e=>hideAll_get _ z e,#[λb o z=>m.keeps b o (of_hideAll _ z),c,(funFrames_hide i.stack (show ∀env∈Y.stack,∀b,env.frame=Z b->b∈Y.stack.filterMap (·.frame) by grind)).of_keeps λb o z _=>#[o,m.keeps b o z,rfl],_,_,d,rfl,rfl,rfl,.inl rfl]]
theorem qP{f:AS}{D:Ac}{v:Aa}{p:XK}(ys:Y.stack=Y.env::Y.outer)(i:Y.env.frame=Z Y.env.locals)(q:Y.ex=[])(g:Ai Y.H₀ H)(t:Kj Y f I H D v s')(C:∀H',Ai Y.H₀ H'->p (.ref D) J H'):
  wpAny M Y.A (leaving Y.env v) (λ_ j=>Jd Y.prog Y.w Y.outer Y.H₀ Y.s₀ p v j) E s':=by
 obtain⟨x,L,H',N,rfl,P,sm,os,G,a,u,B,r,k,c⟩:=t
 have h:=P.ok.frames
 rw[ys]at c u k h
 refine qK h i c λK s F=>#[x,D,H',rfl,os.trans P.os,G,#[(g.trans sm).trans a,?_,B,r,λb o z n d=>?_,s],C H' ((g.trans sm).trans a)]
 ·have e:=P.base
  rw[q]at e
  refine YU (l:=Y.env::Y.outer) e u r k (λb o z n d=>?_) a c s.stay F
  rcases BK.mp (show b∈Y.env.locals::Cd Y.outer by unfold Cd at d ⊢;rw[Oi,i]at d;exact d)with y|y
  ·exact absurd (y ▸ Br z) (Nat.not_lt.mpr P.ok.above)
  ·exact y
 ·have e:=P.base
  rw[q]at e
  refine k b o (e.keep b o z n d (by simp)) (e.free b o z n (by simp)) λm=>?_
  rcases BK.mp (show b∈Y.env.locals::Cd Y.outer by unfold Cd at m ⊢;rw[Oi,i]at m;exact m)with y|y
  ·exact absurd (y ▸ Br z) (Nat.not_lt.mpr P.ok.above)
  ·exact d y
end
noncomputable abbrev Cx.hand(Y:Cx)(x:Ac):Cx:={Y with A:=Y.A.mark (Z (.ref x)),calm:=O'}
section
variable{H2:Hp}{s s2:Ab}{x D G:Ac}{fl f0:Aa}{B h h':Ak}
theorem Inv.hand(a:Inv Y pins I H s)(x:Ac):Inv (Y.hand x) pins I H s:=
 #[#[a.ok.mod,a.ok.kind,a.ok.glob,a.ok.blt,a.ok.above,a.ok.inj,a.ok.has,a.ok.cab,(λz=>nomatch z),a.ok.frames,a.ok.stk,a.ok.exf,a.ok.bs,a.ok.bsz,a.ok.noex,a.ok.exfs,a.ok.funs,a.ok.frf],a.os,a.bare,a.base,a.loc,a.cell,a.free,a.freeC,a.pin,a.hok,a.len]
theorem Inv.back(ok:Y.Ok)(a:Inv (Y.hand x) pins I H s):Inv Y pins I H s:=#[ok,a.os,a.bare,a.base,a.loc,a.cell,a.free,a.freeC,a.pin,a.hok,a.len]
theorem YV(R:Inv Y pins I H2 s2)(os:s'.os=s2.os)(H:AllBare s'.gens)(sm:Ai H2 H')(u:Un (Cd Y.stack) [] H2 H' s2.heap h)(l:B7 Y.prog Y.w H' B)(A:∀b o,s2.heap.get? b=Z o->H2 b=J->b∉Cd Y.stack->B.get? b=Z o)
  (p:Fq B Y.stack x (.ref D) f0 h) (a:Fq B Y.stack x (.ref D) fl h') (F:h.UpToSlots h'):H2 x=J/\Ai H2 (AN H' x (.ext (E1 x D)))/\Inv Y pins I (AN H' x (.ext (E1 x D))) {s' with heap:=h' }:=by
 have g:H' x=J:=by
  cases q:H' x with
  |none=>rfl
  |some o=>obtain⟨ob,z⟩:=(l x o q).ob;rw[a.new]at z;cases z
 have L:s2.heap.get? x=J:=by
  cases q:s2.heap.get? x with
  |none=>rfl
  |some o=>
   cases C:H2 x with
   |some M=>rw[sm x M C]at g;cases g
   |none=>
    by_cases E:x∈Cd Y.stack
    ·obtain⟨_,o3,i,nf⟩:=p.fun_.mem E
     obtain⟨r,s,j,_,t,_⟩:=p.rcd
     rw[j]at i;cases i;exact absurd t (nf s)
    ·have:=A x o q C E;rw[a.new]at this;cases this
 have d:=YU (Un.refl (fs:=Cd Y.stack)) u l A (λ_ _ _ _ z=>z) sm p a.stay F
 have f:∀b o,H' b=Z o->(AN H' x (.ext (E1 x D))) b=Z o:=λb o q=>Zq (ZV q g) ▸ q
 refine#[sm.free g,λb o q=>f b o (sm b o q),R.call' (s':={s' with heap:=h' }) (ch:=[]) os #[d.keep,d.slot,λb o z n N=>?_,d.there,λb G z=>f b _ (d.tups b G z),λb o v z=>f b _ (d.frzs b o v z),λb K z=>?_] (λb v q=>?_) H (λb z=>absurd z (by simp))]
 ·rw[Zq (λy=>by rw[y,L]at z;cases z)];exact d.free b o z n N
 ·obtain⟨m,q⟩:=d.tbls b K z;exact#[m,f b _ q]
 ·by_cases e:b=x
  ·subst e
   rw[ZZ]at q;cases q
   obtain⟨r,s,j,t,i,Q,_⟩:=a.rcd
   exact#[#[r,s,j,t,i,Q],#[r,j],λh1 h2 ⟨o,T,P,y2⟩ k=>#[o,T,k o P,y2]]
  ·rw[Zq e]at q
   exact(l b v q).stay (λc o _ z=>a.stay c o z) (λc z=>f c _ z) λc G z=>f c _ z
theorem Inv.gone{h:Bl}(x:Inv Y pins I H s)(k:h'.Ns Y.env.locals h)(a:DP Y.env.locals s.heap h'):Inv Y pins (C9 Y.N.length J) H {s with heap:=h',toks:=j}:=by
 have lt:∀b o,Y.s₀.heap.get? b=Z o->b≠Y.env.locals:=λb o z=>BX (BE (Br z) x.ok.above)
 refine#[x.ok,x.os,x.bare,#[λb o z n f e=>(a.2 b (lt b o z)).trans (x.base.keep b o z n f e),λb o z n f e=>?_,x.base.free,λb o z e=>?_,x.base.tups,x.base.frzs,x.base.tbls],#[h,k,λi y v u g _=>?_],λy c z=>?_,x.free,x.freeC,λp l=>?_,λb v q=>?_,by simp]
 ·obtain⟨m,q⟩:=x.base.slot b o z n f e;exact#[m,(a.2 b (lt b o z)).trans q]
 ·obtain⟨r,q⟩:=x.base.there b o z e;exact#[r,(a.2 b (lt b o z)).trans q]
 ·rw[ID]at g;split at g<;>cases g
 ·obtain⟨w,q⟩:=x.cell y c z;exact#[w,q.sameBut a (x.cne y c z)]
 ·obtain⟨z,n,ne,nf,t⟩:=x.pin p l;exact#[(a.2 p.1 ne).trans z,n,ne,nf,t]
 ·refine(x.hok b v q).stay (λc o d z=>(a.2 c λy=>?_).trans z) (λ_ z=>z) λ_ _ z=>z
  rcases d with d|d
  ·rw[d]at y;rw[y,x.free]at q;cases q
  ·rw[y,x.free]at d;cases d
theorem qQ{i:Nat}{l n:Ae}{np:Az}{M:Au}{a:U Au}{Ax:U ExceptHandler}{v:Aa}{Q:Flow->Ab->Prop}{Q':VK}(ys:Y.stack=Y.env::Y.outer)(yf:Y.env.frame=Z Y.env.locals)(t:Kj Y pins I H D v s')
  (hm:Y.mg l=Z (.ref G)) (hg:Gl Y l) (hx:exmOne Y.K (.ref D) (.ref G)=Z J') (hN:Y.N.Nodup) (hi:Y.N[i]?=Z n) (p:Y.env.scope.names.lookup n=Z .local)
  (k:∀x r m,H x=J->Ai H r->Inv (Y.hand x) pins (I.set i (Z (.ref x))) r m->r x=Z (.ext (E1 x D)) ->
   wpAny (Af Y.prog Y.w) (Y.A.mark (Z (.ref x))) (execs (M::a) Y.env) (λf s4=>∃u vv b H',f=.ret u/\Inv (Y.hand x) pins b H' s4/\RelV vv u/\Q' vv H') (λ_ _=>False) m)
  (fin:∀u vv b H' P,Inv Y pins b H' P->RelV vv u->Q' vv H'->Q (.ret u) P) (hd:Cg l:=by ext):
  wpAny (Af Y.prog Y.w) Y.A (noteFrame v Y.env) (λ_ s2=>wpAny (Af Y.prog Y.w) Y.A (setFlight v J) (λ_ m=>wpAny (Af Y.prog Y.w) Y.A (handleBy v Y.env (.ExceptHandler (Z (.Name l np)) (Z n) (M::a) pos::Ax)) Q E m) E s2) E s':=by
 obtain⟨x,H2,H',s2,rfl,S,e,os,T,sm,u,B,R,kb,d⟩:=t
 have g:=S.ok.frames
 have c:=d
 rw[ys]at g c
 refine YS g yf c λh4 a4 h=>SG (s:={s' with heap:=h4}) a4 λh5 o j=>?_
 rw[<- ys]at o
 obtain⟨_,sm5,I5⟩:=YV S os T sm u R kb d o (h.trans j)
 obtain⟨oe,vs,e1,e2,e3,_⟩:=id o.rcd
 have LT:Looks (Af Y.prog Y.w) h5 (typeOf (.ref x)) (.ref D):=λA' Q' E' s' kk q=>by
  unfold typeOf;exact Al (wpAny_loadPart (kk _ _ e1) (AO (e2 ▸ q)))
 refine wpAny_handleBy_cons (codeAny_handlers_test ?_) (by intro q;cases q)
 refine Mi (X:=Y.hand x) (I5.hand x) hg hm ?_ hd
 refine(exm_one (K:=Y.K) I5.kIn LT hx).here ?_
 refine codeAny_handlers_suite_as (SG (s:={s' with heap:=h5}) o λh6 a6 y=>?_)
 obtain⟨C,F,I6⟩:=YV (s':=s') S os T sm u R kb d a6 ((h.trans j).trans y)
 refine Ra (X:=Y.hand x) (I6.hand x) hN hi (.inl p) (v:=.ref x) rfl (λs7 I7=>?_) (.inr p)
 refine CU (k x _ s7 (e.free C) (e.trans F) I7 ZZ) (λf s8 hf=>?_) λ_ _ z=>z.elim
 obtain⟨uu,vv,b,H8,rfl,I8,rv,q⟩:=hf
 obtain⟨m8,n8,_⟩:=id I8.loc
 exact wpAny_nameGoes p n8 (by rw[S.ok.kind];rfl) λh9 m9 n9 L=>fin uu vv _ H8 _ ((I8.back S.ok).gone n9 L) rv q
end
def DL(Y:Cx)(a:AS)(I:St)(H:Hp)(c:Ae)(e:Aa)(s':Ab):Prop:=∃D,nsIn Y.K BN c=Z (Z (.ref D))/\Kj Y a I H D e s'
def Hb(Y:Cx):Prop:=∀e s,¬ Y.xe e s
theorem DL.from{a:AS}{b:Hp}{c:Ae}{v:Aa}(sm:Ai H b)(t:DL Y a I b c v s'):DL Y a I H c v s':=by
 obtain⟨D,e,t⟩:=t
 exact#[D,e,t.from sm]
structure XT(Y:Cx)(K:Am)(M:Fb)(H0:Hp)(st:Au)(h:VE->Option Ae):Prop where
 h:∀pins s I H ρ c,Inv Y pins I H s->Bn K M H0 ρ I H->h ρ=Z c->wpAny (Af Y.prog Y.w) Y.A (exec st Y.env) (λ_ _=>False) (DL Y pins I H c) s
structure XS(Y:Cx)(K:Am)(M:Fb)(H0:Hp)(st:Au)(h:VE->Option Ae):Prop where
 h:∀pins s I H ρ c,Inv Y pins I H s->Bn K M H0 ρ I H->h ρ=Z c->wpAny (Af Y.prog Y.w) Y.A (exec st Y.env) (λ_ _=>False) (λe s'=>∃σ' H1,Ai H0 H1/\DL Y pins σ' H1 c e s') s
section
variable{K:Am}{a b:U Au}
@[simp] def FP(t:O Bool)(a b:O Ae):O Ae:=match t with
  |some J'=>a
  |some O'=>b
  |none=>J
structure SI(K:Am)(D:Ac):Prop where
 ex:∃nm q N bs bm hdct sn sub ab col dd k0 k1 k2 k3 k5,K.lookup D=Z (excClassObj nm q D N bs bm hdct sn sub ab col dd k0 k1 k2 k3 k5 "ValueError.__new__")/\tailIn K [.type "ValueError",.type "Exception",.type "BaseException",.type "object"] bm=J'/\nsOkIn K N=J'/\nsIn K N "__init__"=Z J
end
section
variable{K:Am}{M:Fb}{x:Ac}
def qS(K:Am):U V->Hp->VK->Prop:=λe H Q=>∃a C d c b,e=[.ref a,d]/\(∀u,RelV d u->u=c)/\H a=Z (.ext (E1 a C))/\F5 K C/\kitOne K (.ref C) c=Z b/\Q (.bl b) H
theorem qT:Ea Y (.builtin "isinstance") (qS Y.K):=by
 rintro d s j H k l Q o r ⟨a,C,m,c,b,rfl,f,g,F,e,q⟩
 obtain⟨u,v,rfl,h,i⟩:=Mr r
 cases h
 cases f v i
 exact kia_one (qJ F) o.kIn (show AY Y.prog Y.w H s.heap a (.ext (E1 a C))from o.hok a _ g).1 e (λz=>nomatch z) λn=>#[.bl b,H,o.tok _,rfl,q]
@[simp] noncomputable def FQ(i:Nat)(a:U Ae)(f:Ae->Bool)(ρ:VE):O D:=match ρ[i]? with
  |some (.exc c)=>if a.contains c=J' then Z (.bl (f c))else J
  |_=>J
set_option tactic.hygienic true in
theorem YW{b:Expr}{e:V}{g:Aa}{n m:Ae}{j p:Az}(i:Nat)(v:U Ae)(f:Ae->Bool)(x:Y.K=K)(y:Y.N[i]?=Z n)(k:Mh Y.env.scope n)(A:PE Y b (tC e))(B:∀u,RelV e u->u=g)
  (E:∀c C,v.contains c=J'->nsIn K BN c=Z (Z (.ref C))->F5 K C/\kitOne K (.ref C) g=Z (f c)) (G:Gl Y m) (X:Y.mg m=J) (P:DO m=Z (.builtin "isinstance"))
  (L:m≠"__name__":=by ext) (l:Cg m:=by ext) (hd:Cg n:=by ext) (o:(n==("__classdict__":Ae))=O':=by ext)
  (w:AE [.Name n j,b] Y.env=(O',Ao (.Name n j) Y.env)::AE [b] Y.env:=by exact Z1 rfl) (r:AE [b] Y.env=(O',Ao b Y.env)::AE [] Y.env:=by exact Z1 rfl) (s:(Ay pos (AE [b] Y.env)).any (·.1)=O':=by rfl):
  JE Y (.Call (.Name m p) [.Name n j,b] [] pos) (tD K M H0 (FQ i v f)):=#[(WI qT G X P (Es (V1 y k hd o) (Es A Bm r) w) L l w s).mono λI H Q h=>by
 subst x
 obtain⟨ρ,d,R,z,q⟩:=h
 unfold FQ at z
 split at z
 ·next c S=>
  obtain⟨t,z⟩:=ZX z
  cases z
  obtain⟨a,C,T,W,e3⟩:=R.slot i _ S
  obtain⟨F,kk⟩:=E c C t W
  exact#[.ref a,ZP T,a,C,e,g,f c,rfl,B,e3,F,kk,q _ H (Ai.refl H) (by erw[As])]
 ·cases z]
end
theorem Je:Hb X.nox:=λ_ _ z=>z
abbrev qU:U Aa:=[.type "ValueError",.type "Exception",.type "BaseException",.type "object"]
noncomputable def FR(t c:Ae):Bool:=c==t||t=="CubeError"||t=="ValueError"
section
variable{K:Am}{D G:Ac}{b:Bool}{cd:ClassData}
theorem mk_of{nm q:Ae}{N:Ac}{bs a:U Aa}{hdct:Bool}{sn:U Ae}{sub:U Aa}{ab:Bool}{col:O Bool}{k0 k1 k2 k3 k5:O Aa}
  (l:K.lookup D=Z (excClassObj nm q D N bs a hdct sn sub ab col dd k0 k1 k2 k3 k5 "ValueError.__new__")) (e:excIn K D qU "ValueError.__new__"=J'):SI K D:=by
 unfold excIn at e
 rw[l]at e
 change (((((_&&_)&&_)&&_)&&_)&&_)=J' at e
 erw[Co,beq_iff_eq,Nd]at e
 exact#[nm,q,N,bs,a,hdct,sn,sub,ab,col,dd,k0,k1,k2,k3,k5,l,e.1.1.2,e.1.2,e.2]
theorem YX{t:Aa}(z:clsIn K G=Z cd)(y:typeIn K (.ref G)=Z (.type "type"))(s:subIn K t (.ref G)=Z b):kitCls K t (.ref G)=Z b:=by
 unfold kitCls
 simp_all
theorem kit_ne(ne:(Ci C==Ci G)=O')(z:clsIn K G=Z cd)(y:typeIn K (.ref G)=Z (.type "type"))(s:subIn K (.ref C) (.ref G)=Z b):kitOne K (.ref C) (.ref G)=Z b:=by
 unfold kitOne
 grind [YX]
theorem kit_self:kitOne K (.ref C) (.ref C)=Z J':=by
 unfold kitOne
 simp_all
theorem kit_V(s:subIn K (.ref C) (.type "ValueError")=Z b):kitOne K (.ref C) (.type "ValueError")=Z b:=by
 unfold kitOne
 rw[if_neg (λq=>by cases(show(Ci C=Value.type "ValueError")from beq_iff_eq.mp q))]
 unfold kitCls
 dsimp only
 rw[if_pos (by decide +kernel)];exact s
theorem exm_of(x:subIn K (.ref G) (.type "BaseException")=Z J')(z:clsIn K G=Z cd)(y:typeIn K (.ref G)=Z (.type "type"))(s:subIn K (.ref C) (.ref G)=Z J'):exmOne K (.ref C) (.ref G)=Z J':=by
 unfold exmOne
 grind [YX]
end
end L2
namespace L2
open PySem PySem.Spec PyProof.Rows
def YZ(i j:Int):Prop:=0<j/\j<2^100
instance (i j:Int):Decidable (YZ i j):=by unfold YZ;exact inferInstance
open PySem.W
def D4(h:Ak)(d:Ac)(es:Array Hv)(ep:Nat):Prop:=∃o,h.get? d=Z o/\o.ExactDict/\o.data=.dict es ep
section
variable{prog:AI}{w:Ah}{A:Ag}{s:Ab}{d it:Ac}{es:Array Hv}{ep i:Nat}
theorem D4.type(x:D4 s.heap d es ep):s.TypeIs (.ref d) "dict":=by
 obtain⟨o,a,b,_⟩:=x
 exact#[o,a,b.1]
theorem D4.at{h h':Ak}(x:D4 h d es ep)(k:∀o,h.get? d=Z o->h'.get? d=Z o):D4 h' d es ep:=by
 obtain⟨o,a,b⟩:=x
 exact#[o,k o a,b]
theorem Y0{Q:AJ}(hd:(d==Gd)=O')(a:D4 s.heap d es ep)
  (e:Q (.ref s.heap.objs.size) {s with heap:=s.heap.push {cls:=.type "dict_keyiterator",data:=.fields (T' [.ref d,.int 0 0,.int es.size 0,.int ep 0])} }):wpAny (Af prog w) A (pyIter (.ref d)) Q E s:=by
 have ty:=a.type
 obtain⟨o,b,f,c⟩:=a
 refine wpAny_pyIter_slot ty PySem.F.slot_dict_iter (JY PySem.F.slot_dict_iter ty PySem.F.entry_dict_iter ?_ (PySem.F.args_dict_iter_1 _))
 unfold Fi.«dict.__iter__» Builtin.Dict.dictSlotNone
 refine Al (Al (wpAny_notOrdered_dict ty ?_))
 refine(AO ?_:wpAny _ _ (AC (Ci d)) _ _ s)
 show wpAny _ _ (Builtin.Dict.showsAll d >>= _) _ _ s
 unfold Builtin.Dict.showsAll
 rw[if_neg (hd ▸ Me)]
 refine Al (AO (Al (wpAny_dictEntries b c (Al (wpAny_dictEpoch b c ?_)))))
 refine Al (IH (AO #[_,rfl,"dict_keyiterator",_,#[_,B4 _ rfl,rfl],PySem.F.slot_dict_keyiterator_next.lookup,?_]))
 simpa[AZ]using e
theorem Pc{Q:O Aa->Ab->Prop}(g:s.heap.IsKeyIter it d i es.size ep)(r:D4 s.heap d es ep)(q:∀(c:i<es.size) h',h'.IsKeyIter it d (i+1) es.size ep->DP it s.heap h'->Q (Z es[i].key) {s with heap:=h' })
  (h:es.size<=i->A.handled=J/\∀h',Heap.ExtBut it s.heap h'->Q J {s with heap:=h' }):wpAny (Af prog w) A (pyNext (.ref it)) Q E s:=by
 have ty:=g.typeIs
 obtain⟨p,f,t,e⟩:=g
 obtain⟨o,j,u,k⟩:=r
 unfold pyNext
 refine Al (wpAny_attempt (K9 (name:=IF "__next__") ty qV (JY qV ty PySem.F.entry_dict_keyiterator_next ?_ (PySem.F.args_dict_keyiterator_next_1 _))))
 refine Al (AO (Al (Al ?_)))
 refine Al (Y1 ty (AO ?_))
 refine Al (wpAny_fieldsOf f e ?_)
 erw[show Builtin.Dict_items.ownsTuple "dict_keyiterator"=O' by ext,Ff,if_false]
 show wpAny _ _ (if(Ci d==Gb)=J' then _ else _) _ _ s
 refine Al (AO (Al (wpAny_dictEntries j k ?_)))
 rw[if_neg (by simp)]
 refine Al (AO (Al (wpAny_dictEpoch j k ?_)))
 rw[if_neg (by simp)]
 refine AO ?_
 by_cases c:i<es.size
 ·erw[show ¬ ((i:Int)<0)from by lia,if_false,Jf,Array.getElem?_eq_getElem c]
  refine Al ?_
  first|refine Al (Y1 ty (AO ?_))|refine Al (wpAny_typeNameOf_keyiter ty (AO ?_))
  refine Al (wpAny_isOneOf_keyiter ty ?_)
  show wpAny _ _ (setField (.ref it) 1 (AZ ((i:Int)+1)) >>= _) _ _ s
  refine Al (Nc f e (by simp) ?_)
  have n:(s.heap.update it (Obj.mapFields (·.setIfInBounds 1 (AZ ((i:Int)+1))))).IsKeyIter it d (i+1) es.size ep:=#[_,My _ f (SE (LH e _)),(Obj.cls_mapFields ..).trans t,by rw[LH e];simp[AZ]]
  exact Al (FC (Al (wpAny_isOneOf_keyiter (s:={s with heap:=s.heap.update it (Obj.mapFields (·.setIfInBounds 1 (AZ ((i:Int)+1))))}) n.typeIs (AO (AO #[_,rfl,AO (q c _ n (Lz ..))])))))
 ·erw[show ¬ ((i:Int)<0)from by lia,if_false,Jf,Array.getElem?_eq_none (Mz c)]
  refine Al ?_
  first|refine Al (Y1 ty (AO ?_))|refine Al (wpAny_typeNameOf_keyiter ty (AO ?_))
  show wpAny _ _ (setField (.ref it) 0 .none >>= _) _ _ s
  refine Al (Nc f e (by simp) ?_)
  refine Al ?_
  refine Al (IH ?_ (by size_fits))
  refine Al (m:=firstArgMember _ _) (wpAny_of_eq (a:=Gb) (by first|rfl|(erw[firstArgMember];rfl)) ?_)
  refine IH ?_ (by size_fits)
  refine Al (wpAny_handled ?_)
  rw[show A.in1.handled=J from(h (Mz c)).1]
  refine Al (AO (wpAny_throw ?_))
  refine Al (wpAny_isInstance (T:="StopIteration") (b:=J') #[_,B4 _ rfl,rfl] isSubtype_stop ?_)
  exact AO ((h (Mz c)).2 _ ((Heap.ExtBut.push (Heap.SameBut.extBut (Lz ..)) _).push _))
theorem qW(n:A.handled=J)(q:Ac)(f:d≠q):Walks prog w A q [q,d] [q] es.size (λi v=>∃e,es[i]?=Z e/\v=e.key) (λi h=>h.IsKeyIter q d i es.size ep/\D4 h d es ep) where
 sub:=λb a=>by simp at a;simp[a]
 frame:=λ_ _ _ st k=>#[st.1.at λo e=>k q (by simp) o e,st.2.at λo e=>k d (by simp) o e]
 item:=λi s Q E l st c=>Pc st.1 st.2 (λ_ g p m=>c _ g s.toks #[es[i],Array.getElem?_eq_getElem l,rfl] #[p,st.2.at λo e=>m.extBut _ _ f e] λb o a e=>m.extBut b o (λh=>a (by simp[h])) e) λz=>absurd l (Nat.not_lt.mpr z)
 done:=λs Q E st c=>Pc st.1 st.2 (λz=>absurd z (Hw _)) λ_=>#[n,λg j=>c g s.toks λb o a e=>j b o (λh=>a (by simp[h])) e]
 self:=λ_ _ _ _ st c=>wpAny_pyIter_keyiter st.1 c
theorem Y2(lo:(d==Gd)=O'):KdlSrc prog w "dict" d d es.size (λi v=>∃e,es[i]?=Z e/\v=e.key) (λh=>D4 h d es ep) where
 type:=λ_ a=>a.type
 there:=λ_ a=>by obtain⟨o,b,_⟩:=a;exact#[Br b,Br b]
 keep:=λ_ _ a f=>a.at λo e=>f d (.inl rfl) o e
 notList:=by ext
 notTuple:=by ext
 hint:=λ_ _ _ _ a c=>kdl_hint_dict a.type c
 iter:=λ_ s g a=>#[_,_,(λ_ _ c=>Y0 lo a c),qW g _ (by obtain⟨o,b,_⟩:=a;exact BX (Br b)),#[#[_,B4 _ rfl,rfl,rfl],a.at λo e=>Bp _ e]]
end
theorem Ng{w:Ah}:∀{tr:U T3}{es:U Hv},JL w (tr.map (·.1)) (DK tr) es->An (tr.map λt=>t.2.1) (es.map λe=>e.key):=by
 intro tr
 induction tr with
 |nil=>
  rintro es ⟨_,e⟩
  subst e
  exact .nil
 |cons t r b=>
  rintro es ⟨kv,v,j,e,k,a,c,d,_,_,_,f⟩
  erw[DK,O2]at a
  obtain⟨g,h,i⟩:=a
  subst c g h i
  exact .cons d (b f)
section
theorem Y3{es:Array Hv}{acc:Array Aa}(h:ItemsOf (λi v=>∃e,es[i]?=Z e/\v=e.key) acc es.size):acc.toList=es.toList.map λe=>e.key:=by
 refine J5 λi=>?_
 cases a:acc[i]? with
 |some v=>
  obtain⟨e,b,c⟩:=h.2 i v a
  simp_all
 |none=>
  have d:es[i]?=J:=Array.getElem?_eq_none_iff.mpr (h.1 ▸ (show acc.size<=i by grind))
  grind
theorem qX(h:X.calm=J'):Ea X (.type "list") (λxs H Q=>∃a tr,xs=[.ref a]/\Cr X.K H a tr/\∀l,H l=J->Q (.ref l) (AN H l (.lst (tr.map λt=>t.2.1)))):=by
 rintro d s B H xs C Q E r ⟨a,tr,rfl,hd,q⟩
 obtain⟨u,rfl,i⟩:=EW r
 cases i
 obtain⟨z,j,nd,o,c,e,k,m,n,f⟩:=hd.1.ok E.hok
 have g:tr.length<=AA:=by simpa using z
 refine kdl_call (Y2 (es:=c) (ep:=e) j) (E.ok.hd h) #[o,k,m,n] ((show tr.length=c.size by have:=(Ng f).length;simpa using this) ▸ g) λp v b x kp y A=>?_
 refine#[.ref s.heap.objs.size,_,E.laid (t':=v) kp (A5 _) (show AY X.prog X.w _ p _ (.lst (tr.map λt=>t.2.1))from#[by simpa using g,b.toList,x,Y3 A ▸ (Ng f),by simpa using y]),rfl,q _ (E.hok.fresh (A5 _))]
end
def Kk:U D->A2
 |[.lst b .d]=>(Eh b).map λa=>a.map λp=>kD p.1
 |_=>J
@[simp] theorem SJ(kvs:A6):Kk [.lst (Zb kvs) .d]=Z (kvs.map λp=>kD p.1):=by simp[Kk]
section
variable{K:Am}{N:Fb}
theorem PD.kden{tr:U T3}(h:PD K N H kvs tr):Ad K N H (kvs.map λp=>kD p.1) (tr.map λt=>t.2.1):=by
 induction h with
 |nil=>exact Ad.nil
 |cons h _ a=>exact Ad.cons h.2.1 a
set_option tactic.hygienic true in
theorem qY:OJ K (λxs H Q=>∃a tr,xs=[.ref a]/\Cr K H a tr/\∀l,H l=J->Q (.ref l) (AN H l (.lst (tr.map λt=>t.2.1)))) Kk:=by
 intro N H j k xs Q m h e q
 unfold Kk at e
 split at e
 ·next n=>
  obtain⟨c,d,e⟩:=BG.mp e
  cases e
  obtain⟨v,rfl,b⟩:=Paired.one' h
  rw[GB d]at b
  obtain⟨p,o,rfl,r,hd⟩:=b
  obtain⟨tr,f,g⟩:=Ja r hd
  exact#[p,tr,rfl,f,λl i=>q _ l i g.kden]
 ·cases e
end
section
variable{prog:AI}{w:Ah}{A:Ag}{s:Ab}{T:String}{r d:Ac}{n:Nat}{P:Nat->Aa->Prop}{OK:Ak->Prop}
theorem qZ{Q:U Aa->Ab->Prop}(K:KdlSrc prog w T r d n P OK)(t:A.handled=J)(hok:OK s.heap)(u:n<=AA)
  (v:∀h' g acc,(∀b o,s.heap.get? b=Z o->h'.get? b=Z o)->ItemsOf P acc n->Q acc.toList {s with heap:=h',toks:=g}):wpAny (Af prog w) A (collect (.ref r)) Q E s:=by
 obtain⟨x,ld⟩:=K.there _ hok
 refine Al (wpAny_runValue (IM F.entry_proto_collect ?_))
 refine Al (IH ?_)
 refine AO #[Ld F.plain_list_iadd _,IM F.entry_list_iadd ?_]
 have i:∀j,(∃h' g acc l,j={s with heap:=h',toks:=g}/\(∀b o,s.heap.get? b=Z o->h'.get? b=Z o)/\h'.get? s.heap.objs.size=Z {cls:=.type "list",dict:=J,data:=.seq acc l,slots:=(T' [])}/\ItemsOf P acc n)->wpAny (Af prog w) A (match Ci s.heap.objs.size with
   |Ci a=>do
    match(<- load a).data with
     |Data.seq y _=>AC y.toList
     |_=>unsupported "internal:collect"
   |_=>unsupported "internal:collect") Q E j:=by
  rintro j ⟨h',g,acc,l,rfl,m,k,p⟩
  exact Al (wpAny_load k (AO (v h' g acc m p)))
 refine CU (kdl_extend (R:=λr j=>r=.ok (.ret (.ref s.heap.objs.size))/\∃h' g acc l,j={s with heap:=h',toks:=g}/\(∀b o,s.heap.get? b=Z o->h'.get? b=Z o)/\h'.get? s.heap.objs.size=Z {cls:=.type "list",dict:=J,data:=.seq acc l,slots:=(T' [])}/\ItemsOf P acc n) (s:={s with heap:=s.heap.push {cls:=.type "list",data:=.seq ([]:U Aa).toArray} }) K t (K.keep _ _ hok λb _ o e=>Bp _ e) s.heap.objs.size (Gi x) (Gi ld) _ 0 (B4 _ rfl) (λh' g acc l m k p=>#[rfl,h',g,acc,l,rfl,λb o e=>m b o (BX (Br e)) (Bp _ e),k,p]) u) (λfin j h=>?_) (λe j h=>?_)
 ·cases fin with
  |done f=>
   obtain⟨e,h⟩:=h
   cases e
   exact i j h
  |again c=>
   refine#[h.1,K6 h.2 λr q z=>?_]
   obtain⟨rfl,h⟩:=z
   exact i q h
 ·exact nomatch h.1
end
end L2
namespace L2
open PySem PySem.Spec PyProof.Rows
def Y4:Nat->(U Aa->Prop)->Prop
 |0,P=>P []
 |n+1,P=>∀a,Y4 n λl=>P (a::l)
theorem Y5{n:Nat}{P:U Aa->Prop}(h:Y4 n P)(us:U Aa)(e:us.length=n):P us:=by
 induction us generalizing n P with
 |nil=>cases e;exact h
 |cons a r b=>cases e;exact b (h a) rfl
structure DI(K:Am)(mg:Bl)(nm:Ae)(st:Au)(ps:List Ae)(a:Ac)(fd:B6):Prop where
 m:mg nm=Z (.ref a)
 F:HE K nm nm st a fd
 b:Binds K fd ps []
theorem di{K:Am}{mg:Bl}{h:Ak}{nm:Ae}{st:Au}{i:U Ae}{m:Aa}{n e:O Ac}{j:Array (O Aa)}{f d g b ct:Aa}(X:K.In h)(G:h.Ns BN mg)
  (A:PySem.W.nsIn K BN nm=Z (Z (.ref a)))
  (l:K.lookup a=Z #[m,n,.func (IE nm nm (GZ st) (ZI st) (Zf st) .none f d g e b ct),j]) (c:PySem.W.codeIn K b nm=J') (k:Hz K (.ref a)=J')
  (o:∀(f d g:Aa) (e:O Ac) (b ct:Aa) (us:U Aa),us.length=i.length->bindArgs (IE nm nm (GZ st) (ZI st) (Zf st) .none f d g e b ct) #[us,[]]=AC (i.zip us):=by
   exact λ_ _ _ _ _ _=>Y5 (by(repeat intro _);rfl)):
  DI K mg nm st i a (IE nm nm (GZ st) (ZI st) (Zf st) .none f d g e b ct):=
 #[PySem.W.mg_of X G A,W4 l c k,.all (o f d g e b ct)]
theorem Kl{N P:U Ae}{a:Scope}(b:a.kind=.function:=by rfl)(c:a.isCoroutine=O':=by rfl)(d:a.isGenerator=O':=by rfl)(e:N.Nodup:=by decide +kernel)(f:N.take P.length=P:=by rfl)
  (g:∀x∈P,a.names.lookup x=Z .local\/a.names.lookup x=Z .cell:=by decide +kernel) (h:∀y∈a.names,y.2≠.free:=by decide +kernel):Z8 N P a:=#[b,c,d,e,f,g,h]
section
variable{K:Am}{M:Fb}{k n:Nat}{fn:Ac}{fd:B6}{x nm:Ae}{st:Au}{F:U Sl->O Rv}{e a b:Expr}{p:Az}{f g:AB}
theorem q0(G:AQ X.prog X.w X.K X.mg X.base Bg k fn fd ps (AU K F))(a:AF n X.A)(D:DI X.K X.mg x st ps fn fd)(c:JA X (e::es) (CL K M H0 fa))(d:k<=n:=by ext)(f:Gl X x:=by rfl)(hz:CA X x e es pos:=by exact Fj):JE X (.Call (.Name x p) (e::es) [] pos) (tD K M H0 (Zh F fa)):=
 nu G (a.mono d) f D.m D.F.kp D.b (E:=E0) IK c hz
theorem q5(G:AQ X.prog X.w X.K X.mg X.base Bg k fn fd ps (AU K F))(a:AF n X.A)(D:DI X.K X.mg x st ps fn fd)(c:JA X (e::es) (CL K M H0 fa))(d:k<=n:=by ext)(f:Gl X x:=by rfl)(hz:CA X x e es pos:=by exact Fj):JE X (.Call (.Name x p) (e::es) [] pos) (tF K M H0 (Dz F fa)):=
 nv G (a.mono d) f D.m D.F.kp D.b (E:=E0) IK c hz
theorem q8(i:Nat){y:Ae}{p vp:Az}(a:X.mg "len"=J)(b:NV X i y:=by exact EB)(c:Gl X "len":=by rfl)(hz:CA X "len" (.Name y vp) [] pos:=by exact Fj):
  JE X (.Call (.Name "len" p) [.Name y vp] [] pos) (tD X.K M H0 (Zl Zt λρ=>Zs (Ec ρ i) (Z []))):=Gx Wu XQ c a rfl (OI (Sh i b) RN) (hz:=hz)
theorem q9(i:Nat){y t:Ae}{n:String}{p vp b:Az}(c:X.mg "isinstance"=J)(d:X.mg t=J)(e:DO t=Z (.type n):=by rfl)(f:t≠"__name__":=by ext)(hd:Cg t:=by ext)(g:NV X i y:=by exact EB)(h:Gl X "isinstance":=by rfl)(a:Gl X t:=by rfl)(hz:CA X "isinstance" (.Name y vp) [.Name t b] pos:=by exact Fj):
  JE X (.Call (.Name "isinstance" p) [.Name y vp,.Name t b] [] pos) (tD X.K M H0 (Zl Ca λρ=>Zs (Ec ρ i) (Zs (Ed (Z (.ty n))) (Z [])))):=Gx X7 X8 h c rfl (OI (Sh i g) (OI (Xl (Sg a d e f hd)) RN)) (hz:=hz)
theorem ra {i j pos}:JE X (.Constant (.int i) j pos) (tP K M H0 λ_=>Z (.int i)):=Xg Xh
theorem rb(c:JE X a (tP X.K M H0 f))(d:JE X b (tP X.K M H0 g))(e:Lb b:=by exact λ_ _=>rfl):JE X (.Subscript a b pos) (tD X.K M H0 (Za Ap f g)):=oJ c d e
theorem re(i:Nat){x:Ae}(a:X.N.Nodup)(b:X.N[i]?=Z x:=by rfl)(c:Loc X.env.scope x:=by first|exact .inl rfl|exact .inr rfl)(d:X.fn x=J'\/X.env.scope.names.lookup x=Z .local:=by first|exact .inl rfl|exact .inr rfl|assumption):
  JG X (.Name x pos) (tG K M H0 [i] (Zc i)):=nN a b c d
theorem rf(i:Nat){x:Ae}{a:Az}(b:X.N.Nodup)(c:JE X e (tD K M H0 f))(d:X.N[i]?=Z x:=by rfl)(g:Loc X.env.scope x:=by first|exact .inl rfl|exact .inr rfl)(h:Dv e (Z (.Name x a)) pos.line X.env=AC O':=by rfl)
  (j:X.fn x=J'\/X.env.scope.names.lookup x=Z .local:=by first|exact .inl rfl|exact .inr rfl|assumption):JS X (.Assign [.Name x a] e pos) (tS K M H0 λρ=>ZF i (f ρ) ρ):=nI b d g c h j
theorem rg{P:AI}{w:Ah}{mg:Bl}{base:Ak}{N:U Ae}{g c:Ar}(D:DI K mg nm st ps fn fd)(S:Z8 N ps (Zf st))
  (d:∀(a:Aa) (A:Ag) (outer:U Env) (s:Ab) (H:Hp) (E:XK) (M:Fb) (H0:Hp),AF k (A.deeper (A0 nm (Zf st) s.heap.objs.size fn a)) ->
   JB (CK Bg P w K mg base N nm (Zf st) fn a A outer s H E).nox (ZI st) (tS K M H0 c)) (e:c=g:=by rfl) (b:ps.length<=N.length:=by ext):AQ P w K mg base Bg (k+1) fn fd ps (AU K (AL ps.length N.length g)):=
 Xu D.F S b (e ▸ d)
end
open PySem.W
abbrev ME(X:Cx)(o:Expr)(m:Ae)(es:U Expr)(pl:Sem Bool)(a pos:Az):Prop:=Ao (.Call (.Attribute o m a) es [] pos) X.env=(do
 let c <- Ao o X.env
 standAt a.atName
 let(f,b) <- D8 [c] (getMethod c m pl)
 callWith pos f b (Ay pos (AE es X.env)) (Gm pos (Gn [] X.env)))
theorem Jg{K:Am}{c:Ae}(h:nsIn K BN c=Z (Z (.ref C))):OE K c=C:=by grind [OE]
@[simp] noncomputable def Cz(c f:Ae):D->O D
  |.lst a (.i ns b)=>if b=c then(ns.zip a).lookup f else J
  |_=>J
section
variable{K:Am}{N:Fb}
theorem Y6{f:Ae}{d:D}:∀{ns:U Ae}{xs:U D}{vs:U V},Ad K N H xs vs->(ns.zip xs).lookup f=Z d->∃v,(ns.zip vs).lookup f=Z v/\As K N H d v
 |[],_,_,_,e=>by simp at e
 |_::_,[],_,_,e=>by simp at e
 |n::ns,x::xs,vs,h,e=>by
  obtain⟨v,r,rfl,q,t⟩:=h
  erw[HH,List.lookup_cons]at e ⊢
  cases a:f==n with
  |true=>rw[a]at e;cases e;exact#[v,rfl,q]
  |false=>rw[a]at e;exact Y6 t e
theorem Nh{m:Ae}:∀{ns:U Ae}{vs:U V},ns.contains m=O'->(ns.zip vs).lookup m=J
 |[],_,_=>by simp
 |_::_,[],_=>by simp
 |n::ns,v::vs,h=>by
  erw[List.contains_cons,Bool.or_eq_false_iff]at h
  erw[HH,List.lookup_cons,h.1]
  exact Nh h.2
@[simp] noncomputable def Km(c m:Ae):Sl->Bool
  |.val (.lst _ (.i ns a))=>decide (a=c)&&!ns.contains m
  |.lent _ (.i ns a)=>decide (a=c)&&!ns.contains m
  |_=>O'
theorem rh{c m:Ae}{s:Sl}{v:V}(h:Km c m s=J')(b:Cn K N H s v):∃a d fs,v=.ref a/\Rd H a (.ins (OE K c) d fs)/\fs.lookup m=J:=by
 unfold Km at h
 split at h
 ·erw[Co,decide_eq_true_eq,Nd]at h
  obtain⟨rfl,h⟩:=h
  obtain⟨a,f,e,q,_⟩:=b
  rcases q with⟨_,q⟩|⟨g,z,_⟩
  ·exact#[a,_,_,e,q,Nh h]
  ·cases z
 ·erw[Co,decide_eq_true_eq,Nd]at h
  obtain⟨rfl,h⟩:=h
  obtain⟨a,f,e,_,q,_⟩:=b
  exact#[a,_,_,e,q,Nh h]
 ·cases h
theorem ri{r:Rv}{v:V}(c:∀a,N a->H a≠J)(h:MD K N H H' r v):As K N H' (Dd r) v:=by
 cases r with
 |val d=>exact h
 |own l m=>
  obtain⟨a,f,e,g,i,j⟩:=h
  exact#[a,f,e,.of (λn=>c a n g) i,j.nw λb k=>.inl (.inl k)]
end
@[simp] def Hc(c m:Ae)(F:U Sl->O Rv)(o:O Sl)(a:O (U Sl)):O Rv:=o.bind λs=>if Km c m s=J' then a.bind λb=>F (s::b)else J
section
variable{K:Am}{M:Fb}{e o:Expr}{f go:AB}{F:U Sl->O Rv}{k:Nat}{fn:Ac}{fd:B6}{c m:Ae}{E:XK}
theorem rj{f:Ae}(j:nsIn X.K BN c=Z (Z (.ref C)))(k:Er X.K C)(l:Bx X.K C f)(m:JE X o (tP X.K M H0 go))(n:Gk o f X.env (Ao o X.env)=Ao o X.env:=by rfl):JE X (.Attribute o f pos) (tD X.K M H0 λρ=>(go ρ).bind (Cz c f)):=
 #[(Wx m.h n).mono λB H Q p=>by
   obtain⟨ρ,d,R,e,q⟩:=p
   obtain⟨E,t,b⟩:=BL.mp e
   unfold Cz at b
   split at b
   ·split at b
    ·next g=>
     subst g
     refine#[ρ,_,R,t,λv w s x=>?_]
     obtain⟨a,G,y,i,r⟩:=x
     obtain⟨u,z,A⟩:=Y6 r b
     erw[CO,Jg j]at i
     exact#[a,C,_,_,u,y,i,k,l,z,q u w s A]
    ·cases b
   ·cases b]
theorem rk(j:nsIn K BN c=Z (Z (.ref C))){r:Rv}{Q:VK}(R:Bn K M H0 ρ I H)(e:Hc c m F (fo ρ) (fa ρ)=Z r)(q:∀v b H',Ai H b->Ai b H'->MD K (Nf M ρ I) b H' r v->Q v H'):
  JV C m (AU K F) [] E (Gv K M H0 fo) (CL K M H0 fa) I H Q:=by
 obtain⟨s,k,e⟩:=BL.mp e
 obtain⟨l,e⟩:=ZX e
 obtain⟨g,n,o⟩:=BL.mp e
 refine#[ρ,s,R,k,λv b d h=>?_]
 obtain⟨a,p,t,u,i,x⟩:=rh l h
 rw[Jg j]at i
 exact#[a,p,t,u,i,x,ρ,g,R.st d,n,λy z f A=>#[Nf M ρ I,s::g,r,((R.st d).st f).nh,#[v,y++[],rfl,h.same f,by rw[Eb];exact A],o,λw B G L=>q w z B (d.trans f) G L]]
theorem rl{Q:U V->Hp->Prop}(h:CL K M H0 (λ_=>Z []) I H Q):Mt I H Q:=by
 obtain⟨a,b,R,e,q⟩:=h
 cases e
 exact q [] H (Ai.refl H) rfl
theorem rm{Q:VK}(h:JV C m sp [] E (Gv K M H0 fo) (CL K M H0 λ_=>Z []) I H Q):JV C m sp [] E (Gv K M H0 fo) Mt I H Q:=by
 obtain⟨b,d,R,e,q⟩:=h
 refine#[b,d,R,e,λv c s f=>?_]
 obtain⟨a,g,i,j,k,l,t⟩:=q v c s f
 exact#[a,g,i,j,k,l,rl t]
theorem ro(b:nsIn K BN c=Z (Z (.ref C))){Q:VK}(h:tD K M H0 (λρ=>(Hc c m F (fo ρ) (fa ρ)).map Dd) I H Q):JV C m (AU K F) [] E (Gv K M H0 fo) (CL K M H0 fa) I H Q:=by
 obtain⟨ρ,d,R,e,q⟩:=h
 obtain⟨r,f,rfl⟩:=BG.mp e
 exact rk b R f λv j g a i h=>q v g (a.trans i) (ri (R.st a).nh h)
section
variable(hC:nsIn X.K BN c=Z (Z (.ref C)))(cl:Er X.K C)(hm:IA X.K C m fn)(G:AQ X.prog X.w X.K X.mg X.base CX k fn fd ps (AU X.K F))(hr:AF k X.A)(hb:Binds X.K fd ps [])(hx:EY CX X E)(ho:JE X o (Gv X.K M H0 fo))
include hC cl hm G hr hb hx ho
theorem rp
  (a:ME X o m [] pl apos pos:=by rfl):
  JE X (.Call (.Attribute o m apos) [] [] pos) (tD X.K M H0 λρ=>(Hc c m F (fo ρ) (Z [])).map Dd):=#[(WA ho.h cl hm G hr hb .nil hx a).mono λ_ _ _ h=>rm (ro hC h)]
end
end
def rq(H:Hp)(x:Ac):Hp:=λb=>if b=x then J else H b
structure rz(K:Am)(N:Fb)(a:Ac)(H H':Hp)(ys:List D)(b:Kd)(d:D)(v:V):Prop where
 sm:Ai (rq H a) H'
 at_:∃ws,H' a=Z (CO K b a ys ws)/\Ad K N H' ys ws
 de:As K N H' d v
abbrev RB:=U D×Kd×D
def Y7(K:Am)(N:Fb)(a:Ac)(H:Hp):Sl->V->Prop
 |.val d,v=>As K N H d v
 |.lent e b,v=>∃c f,v=.ref c/\(N c/\c≠a)/\Rd H c (CO K b c e f)/\Ad K N H e f
 |_,_=>False
def rA(K:Am)(F:U Sl->Sl->U Sl->O RB):Sp:=λk H Q _=>∃N a g h d e f b i r,k=d++.ref a::e/\(∀c,N c->H c≠J)/\N a/\H a=Z (CO K b a f i)/\Ad K N H f i/\Paired (Y7 K N a H) g d/\Paired (Y7 K N a H) h e /\
 F g (.own f b (Z a)) h=Z r/\∀v j,rz K N a H j r.1 r.2.1 r.2.2 v->Q v j
section
variable{b:Kd}
theorem Jh{a b:Type}{F:a->b->Prop}{l:U a}{m:U b}(h:Paired F l m):l.length=m.length:=h.length
theorem Y8{a b:Type}{F:a->b->Prop}{x:a}:∀{l:U a}{m:U b}{i:Nat},Paired F l m->l[i]?=Z x->∃y,m[i]?=Z y/\F x y
 |_,_,0,.cons h _,e=>by cases e;exact#[_,rfl,h]
 |_,_,i+1,.cons _ t,e=>by simpa using Y8 (i:=i) t (by simpa using e)
end
section
variable{K:Am}{F:U Sl->Sl->U Sl->O RB}{n:Nat}{fn:Ac}{fd:B6}{c m:Ae}{E:XK}
section
variable(hC:nsIn X.K BN c=Z (Z (.ref C)))(cl:Er X.K C)(hm:IA X.K C m fn)(G:AQ X.prog X.w X.K X.mg X.base CX n fn fd ps (rA X.K F))(hr:AF n X.A)(hb:Binds X.K fd ps [])(hx:EY CX X E)
include hC cl hm G hr hb hx
end
end
@[simp] noncomputable def putN(f:Ae):U Ae->U Ae
  |[]=>[f]
  |n::ns=>if n=f then n::ns else n::putN f ns
@[simp] noncomputable def DM{a:Type}(f:Ae)(y:a):U Ae->U a->U a
  |n::ns,x::b=>if n=f then y::b else x::DM f y ns b
  |_,_=>[y]
theorem Y9{f:Ae}{y:V}:∀{ns:U Ae}{vs:U V},ns.length=vs.length->EA f y (ns.zip vs)=(putN f ns).zip (DM f y ns vs)
 |[],[],_=>rfl
 |n::ns,v::vs,h=>by
  erw[HH,EA,putN,DM]
  by_cases e:n=f
  ·rw[if_pos e,if_pos e,if_pos e];rfl
  ·rw[if_neg e,if_neg e,if_neg e,Y9 (by simpa using h)];rfl
mutual
/-- no list,no instance within -/
def Pd:D->Bool
 |.lst _ _=>O'
 |.tup a=>Pe a
 |.non=>J'
 |.bl _=>J'
 |.int _=>J'
 |.str _=>J'
 |.ty _=>J'
def Pe:U D->Bool
 |[]=>J'
 |x::a=>Pd x&&Pe a
end
mutual
theorem As.free{K:Am}{N f:Fb}{H:Hp}:∀(d:D)(v:V),Pd d=J'->As K N H d v->As K f H d v
 |.non,_,_,h=>by simpa only[As]using h
 |.bl _,_,_,h=>by simpa only[As]using h
 |.int _,_,_,h=>by simpa only[As]using h
 |.str _,_,_,h=>by simpa only[As]using h
 |.ty _,_,_,h=>by simpa only[As]using h
 |.tup g,v,b,h=>by
  erw[Pd]at b
  erw[As]at h ⊢
  obtain⟨a,c,e,q,r⟩:=h
  exact#[a,c,e,q,Ad.free g c b r]
 |.lst _ _,_,b,_=>by erw[Pd]at b;cases b
theorem Ad.free{K:Am}{N b:Fb}{H:Hp}:∀(xs:U D)(vs:U V),Pe xs=J'->Ad K N H xs vs->Ad K b H xs vs
 |[],_,_,h=>by simpa only[Ad]using h
 |x::xs,vs,a,h=>by
  erw[Pe,Co]at a
  erw[Ad]at h ⊢
  obtain⟨v,r,e,q,t⟩:=h
  exact#[v,r,e,As.free x v a.1 q,Ad.free xs r a.2 t]
end
open AutoSeq1 (wpAny_loadPart')
open PySem.MeetsSeq in
theorem rB(l:Ac)(items:Array Aa)(n:Nat)(x:Aa)(e:Aa->Bool)(j:Nat)(q:j<items.size)(v:e items[j]=J')(f:items.size<=AA)(k:Nat):
  ∀i:Nat,j-i=k->i<=j->(∀m (r:m<items.size),i<=m->m<j->e items[m]=O')->Meets (Fi.«list.remove.loop» #[[.ref l,x,AZ i],[]])
   (λA R s=>s.heap.get? l=Z {cls:=.type "list",dict:=J,data:=.seq items n,slots:=(T' [])}/\(∀y,y∈items->SeqAt.EqAt A.in1 s y x (e y))/\R (.ok (.ret .none)) {s with heap:=s.heap.update l (Fe λxs=>xs.eraseIdxIfInBounds j)}):=by
 induction k with
 |zero=>
  intro i z p a prog w A R s h
  obtain⟨B,g,d,C,os⟩:=s;obtain⟨c,o,h⟩:=h
  have E:i=j:=by lia
  subst E
  wp_walk using Eu c
  rw[show items[((i:Nat):Int).toNat]?=Z items[i] by simp[q]]
  refine Al (o _ (Array.getElem_mem q) prog w _ _ ?_)
  have t:(items.eraseIdxIfInBounds i).size<=AA+1:=BJ (size_erased items _) (Ni f)
  wp_walk using(wpAny_updateSeq c rfl (hz:=f) (_hz':=t)),Eu c
  simpa using h
 |succ k G=>
  intro i z p a prog w A R s h
  obtain⟨B,g,d,C,os⟩:=s;obtain⟨c,o,h⟩:=h
  have b:i<items.size:=by lia
  wp_walk using Eu c
  rw[show items[((i:Nat):Int).toNat]?=Z items[i] by simp[b]]
  refine Al (o _ (Array.getElem_mem b) prog w _ _ ?_)
  rw[a i b (A5 _) (by lia)]
  wp_walk
  exact#[Ld plain_remove_loop _,IM entry_remove_loop (by
   exact G (i+1) (by lia) (by lia) (λm r u H=>a m r (by lia) H) prog w A R _ #[c,o,h])]
open PySem.MeetsSeq in
theorem rC(l:Ac)(items:Array Aa)(n:Nat)(x:Aa)(e:Aa->Bool)(j:Nat)(k:j<items.size)(a:e items[j]=J')(b:∀m (f:m<items.size),m<j->e items[m]=O')(c:items.size<=AA):
  Meets (Fi.«list.remove» #[[.ref l,x],[]])
   (λA R s=>s.heap.get? l=Z {cls:=.type "list",dict:=J,data:=.seq items n,slots:=(T' [])}/\(∀y,y∈items->SeqAt.EqAt A.in1 s y x (e y))/\R (.ok (.ret .none)) {s with heap:=s.heap.update l (Fe λxs=>xs.eraseIdxIfInBounds j)}):=by
 intro prog w A R s h
 obtain⟨q,g,d,r,os⟩:=s;obtain⟨i,o,h⟩:=h
 wp_walk using Eu i
 exact#[Ld plain_remove_loop _,IM entry_remove_loop (by
  exact rB l items n x e j k a c _ 0 rfl (F2 _) (λm f _ p=>b m f p) prog w A R _ #[i,o,h])]
def rD(K:Am):V->U V->Hp->VK->Prop:=λx c H Q=>∃l a y N d b j,x=.ref l/\c=[y]/\H l=Z (.lst a)/\Ad K N H b a/\Aw K N H d y/\AT ZT d=J'/\b.all (AT ZT)=J'/\b.findIdx? (λz=>AG z d)=Z j/\Q .non (AN H l (.lst (a.eraseIdx j)))
section
variable{K:Am}{M:Fb}{e:Expr}{f:AB}{i:Nat}{x:Ae}
theorem rE(hu:X.A.units+64<Aq):Ry X "list.remove" (rD X.K):=by
 rintro G s I H x vs v us Q S P T ⟨l,R,y,N,d,M,j,rfl,rfl,L,hd,Y,od,c,hj,q⟩
 cases P
 obtain⟨u,rfl,ru⟩:=T.one
 obtain⟨z,a,n,r,hl,e⟩:=S.lstM L
 obtain⟨h,i,k⟩:=List.findIdx?_eq_some_iff_getElem.mp hj
 have hln:=hd.length
 have f:∀m (o:m<a.toArray.size) (b:m<M.length),FM X.K N H d a.toArray[m]=AG M[m] d:=λm o b=>by
  obtain⟨w,t,dw⟩:=hd.get (B8 b)
  obtain⟨w',B,C⟩:=r.get t
  have:a.toArray[m]=w':=by
   rw[List.getElem_toArray];exact(Cm.mp B).2
  rw[this]
  exact R5 S dw.p C (CZ.mp c _ (FL b))
 have g:j<a.toArray.size:=by rw[BR];lia
 refine call_meets F.slot_list_remove #[_,e,rfl] F.entry_list_remove (F.args_list_remove_2 _ _)
  (rC l a.toArray n u (FM X.K N H d) j g (f j g h ▸ i) (λm o E=>by rw[f m o (by lia)];simpa using k m E) (by rw[BR];lia)) #[e,λw t=>R7 S (show X.A.in1.units+ZT<Aq by rw[MV];unfold ZT;lia) od Y ru hd r c w (by simpa using t),?_]
 refine#[.non,_,S.lset (its':=a.eraseIdx j) L e ?_ (r.eraseIdx j) ?_,rfl,q]
 ·show a.toArray.eraseIdxIfInBounds j=(a.eraseIdx j).toArray
  rw[List.eraseIdxIfInBounds_toArray]
 ·have:=WZ R j
  lia
theorem Ad.erase{N:Fb}(h:Ad K N H xs vs)(j:Nat):Ad K N H (xs.eraseIdx j) (vs.eraseIdx j):=by
 rw[List.eraseIdx_eq_take_drop_succ,List.eraseIdx_eq_take_drop_succ]
 exact(h.take j).append (h.drop (j+1))
end
end L2
namespace L2
open PySem PySem.Spec PyProof.Rows PySem.W
section
set_option tactic.hygienic true in
end
end L2
namespace L2
open PySem PySem.Spec PyProof.Rows
def C5(a:Ac)(o:Obj)(u:HO)(H:Hp):Hp:=λb=>@ite _ (b=a/\H b=Z u) (OO _) (Z (.frz o u)) (H b)
def Kn(a:Ac)(o:Obj)(u:HO)(H:Hp):Hp:=λb=>@ite _ (b=a/\H b=Z (.frz o u)) (OO _) (Z u) (H b)
section
variable{u:HO}{b:Ac}{v:HO}
theorem Ko(h:H a=Z u):C5 a o u H a=Z (.frz o u):=if_pos #[rfl,h]
theorem Hd(h:¬ (b=a/\H b=Z u)):C5 a o u H b=H b:=if_neg h
theorem SM(h:H a=Z (.frz o u)):Kn a o u H a=Z u:=if_pos #[rfl,h]
theorem Pf(h:¬ (b=a/\H b=Z (.frz o u))):Kn a o u H b=H b:=if_neg h
theorem Dj:C5 a o u H b=J↔H b=J:=by grind [Ko,Hd]
theorem aa(h:H b=Z v)(c:F3 v=O')(d:F3 u=J'):C5 a o u H b=Z v:=by grind [Hd]
theorem ac(h:H b=Z v)(c:∀o u,v≠.frz o u):Kn a o u H b=Z v:=by grind [Pf]
theorem Rd.fz(c:F3 u=J')(h:Rd H b v):Rd (C5 a o u H) b v:=by
 rcases h with h|⟨d,h⟩
 ·by_cases z:b=a/\H b=Z u
  ·obtain⟨rfl,z⟩:=z
   rw[h]at z;cases z
   exact .inr #[o,Ko h]
  ·exact .inl (Hd z ▸ h)
 ·exact .inr #[d,aa h rfl c]
theorem Rd.ufz(c:∀o u,v≠.frz o u)(h:Rd H b v):Rd (Kn a o u H) b v:=by
 rcases h with h|⟨d,h⟩
 ·exact .inl (ac h c)
 ·by_cases z:b=a/\H b=Z (.frz o u)
  ·obtain⟨rfl,z⟩:=z
   rw[h]at z;cases z
   exact .inl (SM h)
  ·exact .inr #[d,Pf z ▸ h]
theorem Ai.fz(f:F3 u=J')(s:Ai H0 H)(b:∀w,H0 a=Z w->H a=Z u->w=u):Ai (C5 a o u H0) (C5 a o u H):=by
 intro c w e
 by_cases z:c=a/\H0 c=Z u
 ·obtain⟨rfl,z⟩:=z
  rw[Ko z]at e;cases e
  exact Ko (s _ _ z)
 ·rw[Hd z]at e
  rw[Hd]
  ·exact(s _ _ e)
  ·rintro⟨rfl,d⟩
   exact z #[rfl,by rw[e,b w e d]]
end
mutual
theorem As.rd{K:Am}{N:Fb}{H H':Hp}(k:∀b v,(∀o u,v≠HO.frz o u)->Rd H b v->Rd H' b v):∀(d:D)(v:V),As K N H d v->As K N H' d v
 |.non,_,h=>h
 |.bl _,_,h=>h
 |.int _,_,h=>h
 |.str _,_,h=>h
 |.ty _,_,h=>h
 |.tup f,v,h=>by
  erw[As]at h ⊢
  obtain⟨a,c,e,q,r⟩:=h
  refine#[a,c,e,?_,Ad.rd k f c r]
  rcases q with q|q
  ·exact .inl (k _ _ (λ_ _ z=>nomatch z) q)
  ·exact .inr q
 |.lst f g,v,h=>by
  erw[As]at h ⊢
  obtain⟨a,c,e,q,r⟩:=h
  refine#[a,c,e,?_,Ad.rd k f c r]
  rcases q with⟨n,q⟩|q
  ·exact .inl #[n,k _ _ (λ_ _ z=>by cases g<;>cases z) q]
  ·exact .inr q
theorem Ad.rd{K:Am}{N:Fb}{H H':Hp}(k:∀b v,(∀o u,v≠HO.frz o u)->Rd H b v->Rd H' b v):∀(xs:U D)(vs:U V),Ad K N H xs vs->Ad K N H' xs vs
 |[],_,h=>h
 |x::xs,vs,h=>by
  erw[Ad]at h ⊢
  obtain⟨v,r,e,q,t⟩:=h
  exact#[v,r,e,As.rd k x v q,Ad.rd k xs r t]
end
theorem ae(K:Am)(b:Kd)(a:Ac)(xs:U D)(vs:U V):∀o u,CO K b a xs vs≠HO.frz o u:=λ_ _ z=>by cases b<;>cases z
section
variable{K:Am}{M:Fb}{u:HO}
theorem Bn.fz(m:F3 u=J')(R:Bn K M H0 ρ I H)(t:H a=Z u)(y:∀(i:Nat)(xs:U D)(b:Kd)(r:O Ac),ρ[i]?=Z (Sl.own xs b r)->I[i]?≠Z (Z (V.ref a))):Bn K M (C5 a o u H0) ρ I (C5 a o u H) where
 len:=R.len
 same:=R.same.fz m λw e _=>by have:=R.same _ _ e;rw[t]at this;cases this;rfl
 mh:=λc h z=>R.mh c h (Dj.mp z)
 slot:=λi s e=>by
  have q:=R.slot i s e
  have l:∀b v,(∀o u,v≠HO.frz o u)->Rd H b v->Rd (C5 a o u H) b v:=λb v _ h=>Rd.fz m h
  cases s with
  |no=>trivial
  |val d=>obtain⟨v,e,h⟩:=q;exact#[v,e,As.rd l d v h]
  |own xs A r=>
   obtain⟨c,g,j,f,k,n,p⟩:=q
   refine#[c,g,j,#[Dj.mpr f.1,f.2],k,?_,Ad.rd l xs g p]
   rw[Hd,n]
   grind
  |lent xs A=>obtain⟨c,g,j,⟨f,k⟩,n,p⟩:=q;exact#[c,g,j,#[f,λz=>k (Dj.mp z)],l _ _ (ae _ _ _ _ _) n,Ad.rd l xs g p]
  |exc c=>obtain⟨x,C,j,f,k⟩:=q;exact#[x,C,j,f,aa k rfl m]
 inj:=R.inj
end
section
variable{s:Ab}{u:HO}
theorem B7.swap{P:AI}{w:Ah}{h:Ak}{u f:HO}(x:B7 P w H h)(g:H a=Z u)(j:∀y,u≠.own y)(k:∀xs,u≠.tup xs)(ne:∀b,b≠a->H' b=H b)(d:H' a=Z f)(new:AY P w H' h a f):B7 P w H' h:=λb v e=>by
 by_cases i:b=a
 ·subst i
  rw[d]at e;cases e
  exact new
 ·rw[ne b i]at e
  refine(x b v e).stay (λc v _ q=>q) (λc q=>?_) λc xs q=>?_
  ·rw[ne c λz=>by rw[z,g]at q;cases q;exact j _ rfl];exact q
  ·rw[ne c λz=>by rw[z,g]at q;cases q;exact k _ rfl];exact q
theorem SN(a:F3 u=J'):(∀y,u≠.own y)/\(∀xs,u≠.tup xs)/\(∀o v,u≠.frz o v)/\∀b,u≠.tbl b:=by
 refine#[λ_ z=>?_,λ_ z=>?_,λ_ _ z=>?_,λ_ z=>?_]<;>rw[z]at a<;>cases a
theorem Inv.plain(h:Inv X pins I H s)(b:H a=Z u)(d:F3 u=J'):(∀xs,X.H₀ a≠Z (.tup xs))/\(∀o v,X.H₀ a≠Z (.frz o v))/\∀c,X.H₀ a≠Z (.tbl c):=by
 obtain⟨_,e,f,g⟩:=SN d
 refine#[λxs z=>?_,λo v z=>?_,λc z=>?_]
 ·have:=h.base.tups a xs z;rw[b]at this;cases this;exact e _ rfl
 ·have:=h.base.frzs a o v z;rw[b]at this;cases this;exact f _ _ rfl
 ·obtain⟨_,this⟩:=h.base.tbls a c z;rw[b]at this;cases this;exact g _ rfl
theorem Inv.swap{u h:HO}(r:Inv X pins I H s)(f:H a=Z u)(i:∀y,u≠.own y)(j:∀xs,u≠.tup xs)(pl:(∀xs,X.H₀ a≠Z (.tup xs))/\(∀o v,X.H₀ a≠Z (.frz o v))/\∀d,X.H₀ a≠Z (.tbl d))(ne:∀b,b≠a->H' b=H b)(g:H' a=Z h)(new:AY X.prog X.w H' s.heap a h):Inv X pins I H' s where
 ok:=r.ok
 os:=r.os
 bare:=r.bare
 base:=#[r.base.keep,r.base.slot,λb o e n k=>by
   have:=r.base.free b o e n k
   rw[ne b λz=>by rw[z,f]at this;cases this];exact this,r.base.there,
  λb xs e=>by rw[ne b λz=>pl.1 xs (z ▸ e)];exact r.base.tups b xs e,λb o v e=>by rw[ne b λz=>pl.2.1 o v (z ▸ e)];exact r.base.frzs b o v e,λb d e=>by rw[ne b λz=>pl.2.2 d (z ▸ e)];exact r.base.tbls b d e]
 loc:=r.loc
 cell:=r.cell
 free:=by rw[ne _ λz=>by have:=r.free;rw[z,f]at this;cases this];exact r.free
 freeC:=λx c e=>by
  have:=r.freeC x c e
  grind
 pin:=λp l=>by
  obtain⟨p1,m,q⟩:=r.pin p l
  grind
 hok:=r.hok.swap f i j ne g new
 len:=r.len
theorem Inv.fz(e:F3 u=J')(m:Inv X pins I H s)(d:H a=Z u)(h:s.heap.get? a=Z o):Inv X pins I (C5 a o u H) s:=by
 obtain⟨f,g,j,k⟩:=SN e
 have ne:∀b,b≠a->C5 a o u H b=H b:=λb i=>Hd λz=>i z.1
 refine m.swap d f g (m.plain d e) ne (Ko d) #[h,(m.hok a u d).stay (λ_ _ _ q=>q) (λc q=>?_) λc l q=>?_]
 ·rw[ne c λz=>by rw[z,d]at q;cases q;exact f _ rfl];exact q
 ·rw[ne c λz=>by rw[z,d]at q;cases q;exact g _ rfl];exact q
theorem Inv.ufz(g:Inv X pins I H s)(d:H a=Z (.frz o u))(pl:(∀xs,X.H₀ a≠Z (.tup xs))/\(∀o v,X.H₀ a≠Z (.frz o v))/\∀e,X.H₀ a≠Z (.tbl e)):Inv X pins I (Kn a o u H) s:=by
 have ne:∀b,b≠a->Kn a o u H b=H b:=λb f=>Pf λz=>f z.1
 refine g.swap d (λ_ z=>nomatch z) (λ_ z=>nomatch z) pl ne (SM d) ((g.hok a _ d).2.stay (λ_ _ _ q=>q) (λc q=>?_) λc xs q=>?_)
 ·rw[ne c λz=>by rw[z,d]at q;cases q];exact q
 ·rw[ne c λz=>by rw[z,d]at q;cases q];exact q
end
open PySem.W
def Pg(a:Ac)(o:Obj)(u:HO)(b:U V):It:=#[λi H=>H a=Z (.frz o u)/\i<b.length,λi H x c=>c=H/\b[i]?=Z x,λi H=>H a=Z (.frz o u)/\b.length<=i]
theorem rF{P:AI}{w:Ah}{K:Am}{B:Expr}{it:Ac}{u:HO}{es:Array Hv}{ep:Nat}{p:U V}(r:o.ExactDict)(t:o.data=.dict es ep)(v:An p (es.toList.map λe=>e.key)):
  GU P w K B (Pg a o u p) [it] it (λi h=>h.IsKeyIter it a i es.size ep):=by
 refine Mm (n:="dict_keyiterator") (by ext) (λi h st=>?_) (λi h g st k=>st.at k) (λX i x s R H E Q T C S st=>?_) λ_ _ _ _ _ st h=>wpAny_pyIter_keyiter st h
 ·obtain⟨o,e,c,d⟩:=st;exact#[o,_,e,c,d]
 ·have f:=v.length
  simp at f
  constructor<;>intro y q
  ·obtain⟨j,l⟩:=y
   obtain⟨k,G,F⟩:=v.get (B8 l)
   have A:i<es.size:=by lia
   exact Pc st #[o,(S.hok a _ j).1,r,t] (λ_ g m L=>q _ _ g s.toks m (λb o M e=>(L.2 b M).trans e) (by rw[show es[i].key=k by simpa[A]using G];exact F) #[rfl,B8 l]) λz=>absurd A (Nat.not_lt.mpr z)
  ·obtain⟨j,l⟩:=y
   exact Pc st #[o,(S.hok a _ j).1,r,t] (λz=>absurd z (by lia)) λ_=>#[C,λg N=>q g s.toks N]
abbrev DV(tr:U T3):HO:=.dct (tr.map (·.1)) (DK tr)
section
variable{l:Expr}
def af(K:Am)(c:TE):TI:=λd H R=>c d H λx b=>∃a tr,x=.ref a/\Cr K b a tr/\∀o,(C5 a o (DV tr) b) a=Z (.frz o (DV tr))->R (Pg a o (DV tr) (tr.map λt=>t.2.1)) (C5 a o (DV tr) b)
theorem ag{m:TE}(t:PE X l m):PI X tg l (af X.K m):=by
 intro c s n H R M h
 refine AV (t c s n H _ M h) λv f u=>?_
 obtain⟨x,g,i,w,a,tr,e,hd,q⟩:=u
 subst e
 cases w
 obtain⟨z,A,nd,o,G,F,j,p,r,B⟩:=hd.1.ok i.hok
 obtain⟨k,C⟩:Inv X c n (C5 a o (DV tr) g) f/\(C5 a o (DV tr) g) a=Z (.frz o (DV tr)):=by
  rcases hd.1 with d|⟨L,d⟩
  ·exact#[i.fz rfl d j,Ko d]
  ·have:=(i.hok a _ d).1
   rw[j]at this;cases this
   have:C5 a o (DV tr) g=g:=funext λb=>Hd (by rintro⟨rfl,y⟩;rw[d]at y;cases y)
   rw[this];exact#[i,d]
 refine Y0 A #[o,j,p,r] ?_
 refine#[f.heap.objs.size,[f.heap.objs.size],_,_,_,rfl,k.kept (t':=f.toks) λb o e=>Bp _ e,rF p r (Ng B),#[_,B4 _ rfl,rfl,rfl],λb E=>?_,q o C]
 have e:b=f.heap.objs.size:=by simpa using E
 subst e
 exact k.fpOk (A5 _) (k.hok.fresh (A5 _))
end
def Cv(X:Cx)(Q:Hp->Prop)(H':Hp):Prop:=Q H'\/∃a o u,((∀b,X.H₀ a≠Z (.tup b))/\(∀o v,X.H₀ a≠Z (.frz o v))/\∀c,X.H₀ a≠Z (.tbl c))/\H' a=Z (.frz o u)/\Q (Kn a o u H')
def Ends.cv(X:Cx)(D:Ends):Ends:={nx:=λa=>Cv X (D.nx a),rt:=λv=>Cv X (D.rt v),bk:=λa=>Cv X (D.bk a),ct:=λa=>Cv X (D.ct a)}
theorem SP.cv{c:AS}{D:Ends}{f:Flow}{s:Ab}(h:SP X c (D.cv X) f s):SP X c D f s:=by
 have k:∀{j:St} {H:Hp} {Q:Hp->Prop},Inv X c j H s->Cv X Q H->∃i,Inv X c j i s/\Q i:=λn q=>by
  rcases q with q|⟨a,o,u,l,m,q⟩
  ·exact#[_,n,q]
  ·exact#[_,n.ufz m l,q]
 cases f with
 |next=>obtain⟨b,i,n,q⟩:=h;obtain⟨d,e,g⟩:=k n q;exact#[b,d,e,g]
 |brk=>obtain⟨b,i,n,q⟩:=h;obtain⟨d,e,g⟩:=k n q;exact#[b,d,e,g]
 |cont=>obtain⟨b,i,n,q⟩:=h;obtain⟨d,e,g⟩:=k n q;exact#[b,d,e,g]
 |ret u=>obtain⟨v,b,i,n,r,q⟩:=h;obtain⟨d,e,g⟩:=k n q;exact#[v,b,d,e,r,g]
def FS(d:D):A2:=match d with
 |.lst b .d=>(Eh b).map λa=>a.map λp=>kD p.1
 |_=>J
theorem As.at_any{K:Am}{N b:Fb}{a:At}{v:V}(h:As K N H (aD a) v):As K b H (aD a) v:=by cases a<;>exact h
theorem Ad.at_any{K:Am}{N b:Fb}{H:Hp}:∀{l:U At}{vs:U V},Ad K N H (l.map aD) vs->Ad K b H (l.map aD) vs
 |[],_,h=>h
 |a::l,vs,h=>by
  obtain⟨v,r,e,q,t⟩:=h
  exact#[v,r,e,q.at_any,Ad.at_any t]
theorem As.key_any{K:Am}{N b:Fb}{k:KT}{v:V}(h:As K N H (kD k) v):As K b H (kD k) v:=by
 cases k with
 | «at» a=>exact As.at_any h
 |tup l=>
  obtain⟨p,c,e,q,r⟩:=h
  exact#[p,c,e,q,Ad.at_any r]
theorem rG{K:Am}{M N k:Fb}{f:Hp}{tr:U T3}(g:PD K k f kvs tr)(hz:C5 a o (DV tr) f a=Z (.frz o (DV tr))):Lj K M N (C5 a o (DV tr) f) (Pg a o (DV tr) (tr.map λt=>t.2.1)) (kvs.map λp=>kD p.1):=λq r S i=>by
 have c:=S.kp a _ hz (.inr (.inr rfl))
 refine#[λd hd=>?_,λe=>#[c,by rw[<- g.kden.length];lia]]
 refine#[#[c,g.kden.length ▸ ((Cm.mp hd).1)],λx s y=>?_]
 obtain⟨rfl,l⟩:=y
 refine#[Ai.refl _,?_]
 obtain⟨w,j,m⟩:=g.kden.get hd
 rw[l]at j;cases j
 rw[DQ]at hd
 obtain⟨p,n,hd⟩:=BG.mp hd
 cases hd
 exact As.step S _ _ ((As.rd (λb v _ h=>Rd.fz rfl h) _ _ m).key_any)
theorem rH{K:Am}{M:Fb}(R:Bn K M H0 ρ I H)(d:¬ Nf M ρ I a\/M a):∀(i:Nat)(xs:U D)(b:Kd)(e:O Ac),ρ[i]?=Z (Sl.own xs b e)->I[i]?≠Z (Z (V.ref a)):=λi xs j e f g=>by
 rcases d with d|d
 ·exact d (.inr #[i,xs,j,e,f,g])
 ·obtain⟨c,k,h,_,l,_⟩:=R.slot i _ f
  rw[g]at h
  cases h
  exact l d
theorem Inv.plain2{b:AS}{g:Hp}{s:Ab}{u:HO}(l:Inv X b I H s)(c:Ai H g)(d:g a=Z u)(h:F3 u=J'):(∀xs,X.H₀ a≠Z (.tup xs))/\(∀o v,X.H₀ a≠Z (.frz o v))/\∀f,X.H₀ a≠Z (.tbl f):=by
 obtain⟨_,i,j,k⟩:=SN h
 refine#[λxs z=>?_,λo v z=>?_,λf z=>?_]
 ·have y:=c _ _ (l.base.tups a xs z);rw[d]at y;cases y;exact i _ rfl
 ·have y:=c _ _ (l.base.frzs a o v z);rw[d]at y;cases y;exact j _ _ rfl
 ·obtain⟨m,e⟩:=l.base.tbls a f z
  have y:=c _ _ e
  rw[d]at y;cases y;exact k _ rfl
section
set_option tactic.hygienic true in
end
def rJ(K:Am):V->U V->Hp->VK->Prop:=λx b H Q=>∃a tr k y,x=.ref a/\b=[y]/\Cr K H a tr/\HV k tr/\Ev K H k y/\Q ((Cy tr k).getD .non) H
@[simp] def Nj(x y:D):O D:=match x with
  |.lst b .d=>match Eh b,Dg y with
   |some a,Z k=>if Dh k a then Z ((Zo a k).getD .non)else J
   |_,_=>J
  |_=>J
section
variable{M:Fb}{o ek:Expr}{fo fk:AB}
theorem rK(E:X.A.units+64<Aq):Mx X "dict.get" (rJ X.K):=by
 rintro j s G H x L v f Q M r t ⟨a,tr,k,y,rfl,rfl,hd,m,n,q⟩
 cases r
 obtain⟨u,rfl,o⟩:=t.one
 cases k with
 | «at» b=>
  cases n
  obtain⟨z,i,nd,f,g,h⟩:=M2 M hd m
  have c:=g.val b
  refine call_meetsIn PySem.F.slot_dict_get h.typeIs PySem.F.entry_dict_get (PySem.F.args_dict_get_2 _ _) (meets_dict_get (ZC X.prog X.w) a (G9 o) i) #[_,h.mapOf,?_]
  cases d:Cy tr (.at b)with
  |none=>
   rw[d]at q
   cases e:valueAt f b with
   |none=>exact#[.non,H,M.tok _,rfl,q]
   |some w=>rw[d,e]at c;exact c.elim
  |some w=>
   rw[d]at q
   cases e:valueAt f b with
   |none=>rw[d,e]at c;exact c.elim
   |some B=>rw[d,e]at c;exact#[w,H,M.tok _,c,q]
 |tup l=>
  obtain⟨p,rfl,C⟩:=n
  cases(show u=Ci p from o)
  obtain⟨z,i,nd,f,g,h⟩:=Lw M hd m
  have c:=g.val l
  refine call_meetsIn PySem.F.slot_dict_get h.typeIs PySem.F.entry_dict_get (PySem.F.args_dict_get_2 _ _) (meetsH_dict_get (tupleKind (ZC X.prog X.w)) a p i) #[Lx (by lia),l,f,IY M C,h,?_]
  cases d:Cy tr (.tup l)with
  |none=>
   rw[d]at q
   cases e:atKey f l with
   |none=>exact#[.non,H,M.tok _,rfl,q]
   |some w=>rw[d,e]at c;exact c.elim
  |some w=>
   rw[d]at q
   cases e:atKey f l with
   |none=>rw[d,e]at c;exact c.elim
   |some B=>rw[d,e]at c;exact#[w,H,M.tok _,c,q]
set_option tactic.hygienic true in
theorem rL(G:X.A.units+64<Aq)(zA:JE X o (tP X.K M H0 fo))(P:JE X ek (tP X.K M H0 fk))
  (c:Gk o "get" X.env (Ao o X.env)=Ao o X.env:=by rfl)
  (f:((Ay cpos (AE [ek] X.env)).all (λx=>!x.1)&&(Gm cpos (Gn [] X.env)).all (λx=>x.1.isSome)
   && decide ([ek].length+([]:U Et).length+(if([]:U Et).isEmpty then 0 else 1)<30))=J':=by rfl)
  (e:(apos.endLine==cpos.line)=J':=by rfl) (g:AE [ek] X.env=(O',Ao ek X.env)::AE [] X.env:=by exact Z1 rfl) (l:(Ay cpos (AE [] X.env)).any (·.1)=O':=by rfl):
  JE X (.Call (.Attribute o "get" apos) [ek] [] cpos) (tD X.K M H0 (Za Nj fo fk)):=
 #[(J0 PySem.F.plainAttrs_dict PySem.F.slot_dict_get PySem.F.type_dict_get (rK G) zA.h (Es P.h Bm g) c f e g l).mono λI H Q L=>by
   obtain⟨t,d,R,ex,q⟩:=L
   obtain⟨x,y,N,S,ex⟩:=Xi ex
   unfold Nj at ex
   split at ex
   ·next xs=>
    split at ex
    ·next m k n p=>
     obtain⟨T,ex⟩:=ZX ex
     cases ex
     have r:=GB n
     subst r
     refine#[t,_,R,N,λv H1 z W=>?_]
     obtain⟨a,vs,rfl,B,hd⟩:=W
     refine#[.inr (.inr #[rfl,_,_,B]),t,y,R.st z,S,λw Y s C=>?_]
     obtain⟨tr,dc,E⟩:=Ja (B.same s) (hd.same s)
     rw[IZ p]at C
     have b:=E.val k
     refine#[a,tr,k,w,rfl,rfl,dc,E.hom T,I0 (HX C),q _ Y (z.trans s) ?_]
     cases i:Zo m k with
     |none=>
      rw[i]at b
      cases j:Cy tr k with
      |none=>erw[Option.getD,As]
      |some u=>rw[j]at b;exact b.elim
     |some d0=>
      rw[i]at b
      cases j:Cy tr k with
      |none=>rw[j]at b;exact b.elim
      |some u=>rw[j]at b;exact b
    ·cases ex
   ·cases ex]
end
end L2
namespace L2
open PySem PySem.Spec PyProof.Rows
structure He(P:AI)(w:Ah)(i:Ac)(fp:List Ac)(n:Nat)(is:Nat->Aa->Prop)(st:Nat->Ak->Prop):Prop where
 frame:∀k h h',st k h->(∀b,b=i\/b∈fp->∀o,h.get? b=Z o->h'.get? b=Z o)->st k h'
 lt:∀k h,st k h->i<h.objs.size
 item:∀(A:Ag) (E:AJ) (s:Ab) (k:Nat) (Q:AJ),k<n->st k s.heap->(∀v h' tk,is k v->st (k+1) h'->DP i s.heap h'->Q v {s with heap:=h',toks:=tk})->wpAny (Af P w) A (ah (.ref i)) Q E s
 fin:∀(A:Ag) (E:AJ) (s:Ab) (k:Nat) (Q:AJ),A.handled=J->n<=k->st k s.heap->(∀h' e,Heap.ExtBut i s.heap h'->(∃o,h'.get? e=Z o/\o.cls=.type "StopIteration")->E (.ref e) {s with heap:=h' }) ->
  wpAny (Af P w) A (ah (.ref i)) Q E s
section
variable{prog:AI}{w:Ah}{A:Ag}{s:Ab}
theorem ai{i f:Ac}{k:Nat}{b:Array Aa}{Q:AJ}(h:s.heap.IsTupleIter i f k)(n:s.heap.IsTuple f b)(q:∀v,b[k]?=Z v->∀h',h'.IsTupleIter i f (k+1)->DP i s.heap h'->Q v {s with heap:=h' })
  (j:b[k]?=J->A.handled=J/\∀h' e,Heap.ExtBut i s.heap h'->(∃o,h'.get? e=Z o/\o.cls=.type "StopIteration")->E (.ref e) {s with heap:=h' }):wpAny (Af prog w) A (ah (.ref i)) Q E s:=by
 obtain⟨u,d,p,c⟩:=id h
 obtain⟨y,r,_,z,t⟩:=n
 refine Al (K9 (name:=IF "__next__") h.typeIs PySem.F.slot_tuple_iterator_next (JY PySem.F.slot_tuple_iterator_next h.typeIs PySem.F.entry_tuple_iterator_next ?_ (PySem.F.args_tuple_iterator_next_1 _)))
 show wpAny _ _ (field (.ref i) 0 >>= _) _ _ s
 refine Al (D2 d c (x:=.ref f) rfl ?_)
 refine Al (D2 d c (x:=.int k 0) rfl ?_)
 refine Al (wpAny_seqItems r t ?_)
 erw[Jf]
 cases g:b[k]? with
 |some v=>
  exact Al (Nc d c (by simp) (AO #[v,rfl,AO (q _ g _ #[_,My _ d (SE (LH c _)),(Obj.cls_mapFields ..).trans p,by rw[LH c];simp[AZ]] (Lz ..))]))
 |none=>
  refine Al (IG (Al (Nc d c (by simp) ?_)))
  refine Al ?_
  refine Al (IH ?_ (show(0:Nat)<=AA by ext))
  refine Al (m:=firstArgMember _ _) (wpAny_of_eq (a:=Gb) (by first|rfl|(unfold firstArgMember;rfl)) ?_)
  refine IH ?_ (by size_fits)
  refine Al (wpAny_handled ?_)
  first|rw[(j g).1]|rw[show A.in1.handled=J from(j g).1]
  exact Al (AO (wpAny_throw ((j g).2 _ _ ((Heap.ExtBut.push (Heap.SameBut.extBut (Lz ..)) _).push _) #[_,B4 _ rfl,rfl])))
theorem rM{P:AI}{w:Ah}{i l:Ac}{xs:U V}(d:Array Aa)(r:An xs d.toList):He P w i [l] xs.length (λk v=>∃x,xs[k]?=Z x/\RelV x v) (λk h=>h.IsListIter i l k/\h.IsList l d) where
 frame:=λk h j ⟨a,b⟩ kp=>#[a.at λo e=>kp i (.inl rfl) o e,b.at λo e=>kp l (.inr (by simp)) o e]
 lt:=λk h ⟨⟨o,e,_⟩,_⟩=>Br e
 item:=λA E s k Q g ⟨a,b⟩ q=>by
  obtain⟨u,t,y⟩:=r.get (B8 g)
  refine wpAny_nextOf_list_item a b (x:=u) (by simpa using t) λj z m=>?_
  by_cases f:l=i
  ·subst f
   obtain⟨o,e,c,_⟩:=a
   obtain⟨C,n,p,_⟩:=b
   rw[e]at n;cases n
   rw[c]at p
   exact absurd p (by ext)
  ·exact q _ j s.toks #[_,B8 g,y] #[z,b.extBut m.extBut f] m
 fin:=λA E s k Q B g ⟨a,b⟩ q=>wpAny_nextOf_list_end B a b (Array.getElem?_eq_none (by have f:=r.length;simp at f;exact le_of_eq_of_le f.symm g)) q
theorem rN{P:AI}{w:Ah}{i l:Ac}{xs:U V}(d:Array Aa)(r:An xs d.toList):He P w i [l] xs.length (λk v=>∃x,xs[k]?=Z x/\RelV x v) (λk h=>h.IsTupleIter i l k/\h.IsTuple l d) where
 frame:=λk h n ⟨a,b⟩ kp=>#[a.at λo e=>kp i (.inl rfl) o e,b.at λo e=>kp l (.inr (by simp)) o e]
 lt:=λk h ⟨⟨o,e,_⟩,_⟩=>Br e
 item:=λA E s k Q j ⟨a,b⟩ q=>by
  obtain⟨u,m,B⟩:=r.get (B8 j)
  have m:d[k]?=Z u:=by simpa using m
  refine ai a b (λv f n C p=>?_) λz=>by rw[m]at z;cases z
  rw[m]at f;cases f
  by_cases g:l=i
  ·subst g
   obtain⟨o,e,c,_⟩:=a
   obtain⟨H,t,y,_⟩:=b
   rw[e]at t;cases t
   rw[c]at y
   exact absurd y (by ext)
  ·exact q _ n s.toks #[_,B8 j,B] #[C,b.at λo e=>p.extBut _ _ g e] p
 fin:=λA E s k Q G j ⟨a,b⟩ q=>ai a b (λv f=>by rw[Array.getElem?_eq_none (by have g:=r.length;simp at g;exact le_of_eq_of_le g.symm j)]at f;cases f) λ_=>#[G,q]
noncomputable def LI(x:Ae):String:=if x.cps.all (·<128)=J' then "str_ascii_iterator" else "str_iterator"
def FU(x:Ae):U V:=x.cps.toList.map λc=>.str #[(T' [c])]
theorem rO{P:AI}{w:Ah}{i:Ac}(x:Ae):He P w i [] (FU x).length (λk v=>∃y,(FU x)[k]?=Z y/\RelV y v) (λk h=>∃t,h.IsStrIter i (LI x) x t k) where
 frame:=λk h f ⟨t,o,e,r⟩ kp=>#[t,o,kp i (.inl rfl) o e,r]
 lt:=λk h ⟨t,o,e,_⟩=>Br e
 item:=λA E s k Q g ⟨t,a⟩ q=>by
  have b:k<x.cps.size:=by simpa[FU]using g
  unfold LI at a q
  by_cases d:x.cps.all (·<128)=J'
  ·rw[if_pos d]at a q
   exact wpAny_nextOf_ascii_item a (c:=x.cps[k]) (by simp[b]) λf j l=>q _ f (s.toks+1) #[.str #[(T' [x.cps[k]])],by simp[FU,b],_,rfl] #[t,j] l
  ·rw[if_neg d]at a q
   exact wpAny_nextOf_wide_item a (c:=x.cps[k]) (by simp[b]) λf j l=>q _ f (s.toks+1) #[.str #[(T' [x.cps[k]])],by simp[FU,b],_,rfl] #[t,j] l
 fin:=λA E s k Q m g ⟨t,a⟩ q=>by
  have b:x.cps.size<=k:=by simpa[FU]using g
  unfold LI at a
  by_cases d:x.cps.all (·<128)=J'
  ·rw[if_pos d]at a
   exact wpAny_nextOf_ascii_end m a (by simp[b]) q
  ·rw[if_neg d]at a
   exact wpAny_nextOf_wide_end m a (by simp[b]) q
structure Cf(z tin tout ia ib:Ac)(fa fb:List Ac):Prop where
 n1:tin≠z
 n2:tout≠z
 n3:ia≠z
 n4:ib≠z
 n5:tin≠tout
 n6:tin≠ia
 n7:tin≠ib
 n8:tout≠ia
 n9:tout≠ib
 n10:ia≠ib
 fz:∀b,b∈fa\/b∈fb->b≠z/\b≠tout/\b≠ia/\b≠ib
section
variable{z tin tout ia ib:Ac}{fa fb:U Ac}{n m k:Nat}{isB:Nat->Aa->Prop}{sa sb:Nat->Ak->Prop}{a b:Aa}
theorem Cf.keepA(D:Cf z tin tout ia ib fa fb)(f:He prog w ia fa n isA sa){h h':Ak}(st:sa k h){c:Ac}(d:c=z\/c=tout\/c=ib)(a:DP c h h'):sa k h':=
 f.frame k h h' st λx b o e=>by
  refine a.extBut x o ?_ e
  rcases b with rfl|b
  ·rcases d with rfl|rfl|rfl
   ·exact D.n3
   ·exact B0 D.n8
   ·exact D.n10
  ·obtain⟨g,i,q3,j⟩:=D.fz x (.inl b)
   rcases d with rfl|rfl|rfl
   ·exact g
   ·exact i
   ·exact j
theorem Cf.keepB(D:Cf z tin tout ia ib fa fb)(SB:He prog w ib fb n isB sb){h h':Ak}(st:sb k h){c:Ac}(d:c=z\/c=tout\/c=ia)(a:DP c h h'):sb k h':=
 SB.frame k h h' st λx b o e=>by
  refine a.extBut x o ?_ e
  rcases b with rfl|b
  ·rcases d with rfl|rfl|rfl
   ·exact D.n4
   ·exact B0 D.n9
   ·exact B0 D.n10
  ·obtain⟨f,g,q3,i⟩:=D.fz x (.inr b)
   rcases d with rfl|rfl|rfl
   ·exact f
   ·exact g
   ·exact q3
theorem aj{Q:O Aa->Ab->Prop}(D:Cf z tin tout ia ib fa fb)(i:He prog w ia fa n isA sa)(SB:He prog w ib fb m isB sb)
  (hz:IsZip s.heap z tin tout .none) (hi:IsPair s.heap tin (.ref ia) (.ref ib)) (ho:IsPair s.heap tout a b) (ha:sa k s.heap) (hb:sb k s.heap)
  (q:k<n->k<m->∀x y h' r,isA k x->isB k y->IsZip h' z tin tout (AZ s.heap.objs.size)->IsPair h' tout x y->sa (k+1) h'->sb (k+1) h'->IsPair h' s.heap.objs.size x y->h'.objs.size=s.heap.objs.size+1 ->
   (∀c o,c≠z->c≠tout->c≠ia->c≠ib->s.heap.get? c=Z o->h'.get? c=Z o)->Q (Z (.ref s.heap.objs.size)) {s with heap:=h',toks:=r})
  (R:n<=k\/m<=k->A.handled=J/\∀h' r,(∀c o,c≠z->c≠tout->c≠ia->c≠ib->s.heap.get? c=Z o->h'.get? c=Z o)->Q J {s with heap:=h',toks:=r}):
  wpAny (Af prog w) A (pyNext (.ref z)) Q E s:=by
 have j:n<=k\/m<=k->∀(h':Ak) (r:Nat) (e:Ac),(∀c o,c≠z->c≠tout->c≠ia->c≠ib->s.heap.get? c=Z o->h'.get? c=Z o)->(∃o,h'.get? e=Z o/\o.cls=.type "StopIteration") ->
   wpAny (Af prog w) A (do if(<- isInstance (.ref e) (.type "StopIteration"))=J' then AC (J:O Aa)else throw (Ci e)) Q E {s with heap:=h',toks:=r}:=λkn h' r e kp ⟨o,g,d⟩=>
  Al (wpAny_isInstance (T:="StopIteration") (b:=J') #[o,g,d] isSubtype_stop (AO ((R kn).2 h' r kp)))
 refine Al (wpAny_attempt (K9 (name:=IF "__next__") #[_,hz,rfl] PySem.F.slot_zip_next (JY PySem.F.slot_zip_next #[_,hz,rfl] PySem.F.entry_zip_next ?_ (PySem.F.args_zip_next_1 _))))
 show wpAny _ _ (field (.ref z) 2 >>= _) _ _ _
 refine Al (D2 hz rfl (x:=.bool O') rfl ?_)
 refine Al (D2 hz rfl (x:=.ref tin) rfl ?_)
 refine Al (wpAny_seqItems hi rfl ?_)
 refine Al ?_
 refine Al (D2 hz rfl (x:=.none) rfl (AO ?_))
 refine Al (IG ?_)
 refine Al (D2 hz rfl (x:=.ref tout) rfl ?_)
 refine Al (Hf hz (by simp) λg1 M l=>?_)
 refine Al ?_
 refine Al (Al (wpAny_onRaise ?_))
 by_cases H:n<=k
 ·refine Al (i.fin A.in1 _ _ k _ (R (.inl H)).1 H (D.keepA i ha (.inl rfl) l) λg2 e Y he=>?_)
  obtain⟨oe,g,d⟩:=he
  exact Hf (Y _ _ (B0 D.n3) M) (by simp) λg3 _ f=>j (.inl H) g3 s.toks e (λc o d _ t _ x=>f.extBut _ _ d (Y _ _ t (l.extBut _ _ d x))) #[oe,f.extBut _ _ (λx=>by subst x;rw[Y _ _ (B0 D.n3) M]at g;cases g;simp at d) g,d]
 ·refine Al (i.item _ _ _ k _ (Nat.lt_of_not_le H) (D.keepA i ha (.inl rfl) l) λx g2 tk2 hx a2 u=>AO ?_)
  have o2:IsPair g2 tout a b:=u.extBut _ _ D.n8 (l.extBut _ _ D.n2 ho)
  refine Al (wpAny_seqItems o2 rfl ?_)
  refine Al (wpAny_updateSeq_pair o2 λg3 o3 f=>?_)
  refine Al (wpAny_letGo (AO ?_))
  refine Al (Al (wpAny_onRaise ?_))
  have S:sb k g3:=D.keepB SB (D.keepB SB (D.keepB SB hb (.inl rfl) l) (.inr (.inr rfl)) u) (.inr (.inl rfl)) f
  by_cases K:m<=k
  ·refine Al (SB.fin A.in1 _ _ k _ (R (.inr K)).1 K S λg4 e x4 he=>?_)
   obtain⟨oe,g,d⟩:=he
   have z4:IsZip g4 z tin tout .ellipsis:=x4 _ _ (B0 D.n4) (f.extBut _ _ (B0 D.n2) (u.extBut _ _ (B0 D.n3) M))
   exact Hf z4 (by simp) λh _ p=>j (.inr K) h tk2 e (λc o d B t L x=>p.extBut _ _ d (x4 _ _ L (f.extBut _ _ B (u.extBut _ _ t (l.extBut _ _ d x))))) #[oe,p.extBut _ _ (λx=>by subst x;rw[z4]at g;cases g;simp at d) g,d]
  ·refine Al (SB.item _ _ _ k _ (Nat.lt_of_not_le K) S λy g4 tk4 hy a4 C=>AO ?_)
   refine Al (wpAny_seqItems (C.extBut _ _ D.n9 o3) rfl ?_)
   refine Al (wpAny_updateSeq_pair (C.extBut _ _ D.n9 o3) λh N p=>?_)
   have N:IsPair h tout x y:=N
   refine Al (wpAny_letGo (AO (AO ?_)))
   refine Al (wpAny_seqItems N rfl ?_)
   refine Al (wpAny_newTuple ?_)
   have sz:h.objs.size=s.heap.objs.size:=by rw[p.1,C.1,f.1,u.1,l.1]
   have z5:IsZip h z tin tout .ellipsis:=p.extBut _ _ (B0 D.n2) (C.extBut _ _ (B0 D.n4) (f.extBut _ _ (B0 D.n2) (u.extBut _ _ (B0 D.n3) M)))
   have kp:∀c o,c≠z->c≠tout->c≠ia->c≠ib->s.heap.get? c=Z o->h.get? c=Z o:=λc o d B t L e=>
    p.extBut _ _ B (C.extBut _ _ L (f.extBut _ _ B (u.extBut _ _ t (l.extBut _ _ d e))))
   refine Al ?_
   refine Al (Hf (Bp _ z5) (by simp) λg7 z7 b7=>?_)
   refine Hf z7 (by simp) λG z8 b8=>?_
   have P:∀c o,c≠z->h.get? c=Z o->G.get? c=Z o:=λc o d e=>b8.extBut _ _ d (b7.extBut _ _ d (Bp _ e))
   have new:IsPair G h.objs.size x y:=b8.extBut _ _ (Gi (Br z5)) (b7.extBut _ _ (Gi (Br z5)) (B4 _ rfl))
   have s8:G.objs.size=h.objs.size+1:=by rw[b8.1,b7.1,K5]
   have a8:sa (k+1) G:=i.frame _ _ _ (D.keepA i (D.keepA i (D.keepA i a2 (.inr (.inl rfl)) f) (.inr (.inr rfl)) C) (.inr (.inl rfl)) p) λc v o e=>P c o (by
    rcases v with rfl|v
    ·exact D.n3
    ·exact(D.fz c (.inl v)).1) e
   have b8':sb (k+1) G:=SB.frame _ _ _ (D.keepB SB a4 (.inr (.inl rfl)) p) λc v o e=>P c o (by
    rcases v with rfl|v
    ·exact D.n4
    ·exact(D.fz c (.inr v)).1) e
   rw[sz]at z8 new s8
   refine AO #[_,rfl,AO ?_]
   rw[sz]
   exact q (Nat.lt_of_not_le H) (Nat.lt_of_not_le K) x y G tk4 hx hy z8 (P _ _ D.n2 N) a8 b8' new s8 λc o d B t L e=>P c o d (kp c o d B t L e)
end
end
inductive AH where
 |l (a:Ac)
 |t (a:Ac)
 |x (s:Ae)
@[reducible] noncomputable def AH.v:AH->V
  |.l a=>.ref a
  |.t a=>.ref a
  |.x s=>.str s
@[reducible] def AH.fp:AH->U Ac
  |.l a=>[a]
  |.t a=>[a]
  |.x _=>[]
def AH.sq(K:Am)(H:Hp):AH->U V->Prop
 |.l a=>BF K H a
 |.t a=>B1 K H a
 |.x s=>λb=>b=FU s
def AH.nm:AH->String
 |.l _=>"list_iterator"
 |.t _=>"tuple_iterator"
 |.x s=>LI s
def AH.ok(h:Ak)(xs:U V):AH->Prop
 |.l a=>∃b:Array Aa,An xs b.toList/\h.IsList a b
 |.t a=>∃b:Array Aa,An xs b.toList/\h.IsTuple a b
 |.x s=>xs=FU s
def AH.it(h:Ak)(i:Ac)(k:Nat):AH->Prop
 |.l a=>h.IsListIter i a k
 |.t a=>h.IsTupleIter i a k
 |.x s=>∃t,h.IsStrIter i (LI s) s t k
theorem AH.of(S:AH){c:AS}{s:Ab}{xs:U V}(d:Inv X c I H s)(h:S.sq X.K H xs):S.ok s.heap xs:=by
 cases S with
 |l a=>obtain⟨b,r,p,z⟩:=d.list h;exact#[b.toArray,r,p.isList]
 |t a=>obtain⟨b,r,p,z⟩:=d.tuple h;exact#[b.toArray,r,(show s.heap.IsTuple a b.toArray from p)]
 |x s=>exact h
theorem AH.inj(S:AH){b:AS}{s:Ab}{xs:U V}(c:Inv X b I H s)(h:S.sq X.K H xs)(h':S.sq X.K H ys):xs=ys:=by
 cases S with
 |l a=>exact c.list_inj h h'
 |t a=>exact c.tuple_inj h h'
 |x s=>exact(show xs=FU s from h).trans (show ys=FU s from h').symm
theorem AH.lt(S:AH){h:Ak}{xs:U V}(p:S.ok h xs):∀b∈S.fp,b<h.objs.size:=by
 intro b c
 cases S with
 |l a=>rw[D9.mp c];obtain⟨d,_,o,e,_⟩:=p;exact Br e
 |t a=>rw[D9.mp c];obtain⟨d,_,o,e,_⟩:=p;exact Br e
 |x s=>cases c
theorem AH.okAt(S:AH){h h':Ak}{xs:U V}(p:S.ok h xs)(k:∀b∈S.fp,∀o,h.get? b=Z o->h'.get? b=Z o):S.ok h' xs:=by
 cases S with
 |l a=>obtain⟨c,r,q⟩:=p;exact#[c,r,Heap.IsList.at q (k a (by simp))]
 |t a=>obtain⟨c,r,q⟩:=p;exact#[c,r,Heap.IsTuple.at q (k a (by simp))]
 |x s=>exact p
theorem AH.itAt(S:AH){h h':Ak}{i:Ac}{n:Nat}(p:S.it h i n)(k:∀o,h.get? i=Z o->h'.get? i=Z o):S.it h' i n:=by
 cases S with
 |l a=>exact Heap.IsListIter.at p k
 |t a=>exact Heap.IsTupleIter.at p k
 |x s=>obtain⟨t,o,e,r⟩:=p;exact#[t,o,k o e,r]
theorem AH.itOb(S:AH){h:Ak}{i:Ac}{n:Nat}(p:S.it h i n):∃o,h.get? i=Z o/\∀v,o.data≠.cell v:=by
 cases S with
 |l a=>obtain⟨o,e,c,d⟩:=p;exact#[o,e,λv z=>by rw[d]at z;cases z]
 |t a=>obtain⟨o,e,c,d⟩:=p;exact#[o,e,λv z=>by rw[d]at z;cases z]
 |x s=>obtain⟨t,o,e,c,d⟩:=p;exact#[o,e,λv z=>by rw[d]at z;cases z]
theorem AH.sub(S:AH){P:AI}{w:Ah}{i:Ac}{h:Ak}{xs:U V}(p:S.ok h xs):∃st:Nat->Ak->Prop,He P w i S.fp xs.length (λk v=>∃x,xs[k]?=Z x/\RelV x v) st/\(∀k,S.it h i k->st k h)/\∀k h',st k h'->S.it h' i k:=by
 cases S with
 |l a=>obtain⟨b,r,q⟩:=p;exact#[_,rM b r,λk e=>#[e,q],λk h' e=>e.1]
 |t a=>obtain⟨b,r,q⟩:=p;exact#[_,rN b r,λk e=>#[e,q],λk h' e=>e.1]
 |x s=>rw[show xs=FU s from p];exact#[_,rO s,λk e=>e,λk h' e=>e]
def AH.obj(S:AH)(u:Aa):Obj:={cls:=.type S.nm,data:=.fields (T' [u,.int 0 0])}
set_option tactic.hygienic true in
theorem AH.pyIter(S:AH){prog:AI}{w:Ah}{A:Ag}{E:AJ}{s:Ab}{xs:U V}{u:Aa}(c:RelV S.v u){Q:AJ}(p:S.ok s.heap xs)
  (q:Q (.ref s.heap.objs.size) {s with heap:=s.heap.push (S.obj u)}):wpAny (Af prog w) A (pyIter u) Q E s:=by
 cases S with
 |l a=>obtain⟨d,r,p⟩:=p;have e:u=.ref a:=c;subst e;exact Oo p q
 |t a=>obtain⟨d,r,p⟩:=p;have e:u=.ref a:=c;subst e;exact wpAny_pyIter_tuple p q
 |x x=>
  obtain⟨t,rfl⟩:=(show ∃t,u=Value.str x t from c)
  unfold AH.obj AH.nm LI at q
  by_cases b:x.cps.all (·<128)=J'
  ·erw[b,if_true]at q;exact wpAny_pyIter_ascii b q
  ·erw[b,if_false]at q;exact wpAny_pyIter_wide (by simpa using b) q
theorem AH.new(S:AH){h:Ak}(b:RelV S.v u):S.it (h.push (S.obj u)) h.objs.size 0:=by
 cases S with
 |l a=>have e:u=.ref a:=b;subst e;exact#[_,B4 _ rfl,rfl,rfl]
 |t a=>have e:u=.ref a:=b;subst e;exact#[_,B4 _ rfl,rfl,rfl]
 |x x=>obtain⟨t,rfl⟩:=(show ∃t,u=Value.str x t from b);exact#[t,_,B4 _ rfl,rfl,rfl]
@[reducible] def Nk(h:Ak)(A:AH)(u:Aa):Ak:=h.push (A.obj u)
@[reducible] def Nl(h:Ak)(A B:AH)(u v:Aa):Ak:=(Nk h A u).push (B.obj v)
@[reducible] def Ph(h:Ak)(A B:AH)(u v:Aa):Ak:=(Nl h A B u v).push {cls:=.type "tuple",data:=.seq (T' [.ref h.objs.size,.ref (Nk h A u).objs.size])}
@[reducible] def Pj(h:Ak)(A B:AH)(u v:Aa):Ak:=(Ph h A B u v).push {cls:=.type "tuple",data:=.seq (T' [.none,.none])}
@[reducible] def LJ(h:Ak)(A B:AH)(u v:Aa):Ak:=(Pj h A B u v).push {cls:=.type "zip",data:=.fields (T' [.none,.bool O',.bool O',.ref (Nl h A B u v).objs.size,.ref (Ph h A B u v).objs.size])}
theorem rP(A B:AH){v:Aa}(a:RelV A.v u)(c:RelV B.v v)(xs ys:U V):Meets (Fi.«zip.__new__» #[[.type "zip",u,v],[]]) (λ_ R s=>A.ok s.heap xs/\B.ok s.heap ys/\R (.ok (.ret (.ref (Pj s.heap A B u v).objs.size))) {s with heap:=LJ s.heap A B u v}):=
 .of_wp λprog w j R s h=>by
  obtain⟨k,g,d,l,os⟩:=s;obtain⟨f,i,q⟩:=h
  have m:=sub_zip
  wp_walk using A.pyIter a f,B.pyIter c (B.okAt i λb _ o e=>Bp _ e)
  exact#[_,rfl,q]
section
variable{prog:AI}{w:Ah}{A:Ag}{s:Ab}
theorem rQ{S T:AH}{xs:U V}{v:Aa}(i:RelV S.v u)(j:RelV T.v v){Q:AJ}(p1:S.ok s.heap xs)(p:T.ok s.heap ys)
  (q:∀h',IsZip h' (s.heap.objs.size+4) (s.heap.objs.size+2) (s.heap.objs.size+3) .none->IsPair h' (s.heap.objs.size+2) (.ref s.heap.objs.size) (.ref (s.heap.objs.size+1)) ->
   IsPair h' (s.heap.objs.size+3) .none .none->S.it h' s.heap.objs.size 0->T.it h' (s.heap.objs.size+1) 0->(∀c o,s.heap.get? c=Z o->h'.get? c=Z o)->Q (.ref (s.heap.objs.size+4)) {s with heap:=h' }):
  wpAny (Af prog w) A (call (.type "zip") [u,v]) Q E s:=by
 refine callType_new PySem.F.called_zip (by ext) (PySem.F.typeCall_zip_2 _ _) (PySem.F.newCall_zip_2 _ _) (λobj=>PySem.F.args_object_init_3 obj _ _) PySem.F.entry_zip_new (rP S T i j xs ys) #[p1,p,?_]
 have a:(Nk s.heap S u).objs.size=s.heap.objs.size+1:=K5 ..
 have b:(Nl s.heap S T u v).objs.size=s.heap.objs.size+2:=by rw[K5,a]
 have d:(Ph s.heap S T u v).objs.size=s.heap.objs.size+3:=by rw[K5,b]
 have k:(Pj s.heap S T u v).objs.size=s.heap.objs.size+4:=by rw[K5,d]
 have f:(LJ s.heap S T u v).get? (Pj s.heap S T u v).objs.size=Z _:=B4 _ rfl
 have l:(LJ s.heap S T u v).get? (Ph s.heap S T u v).objs.size=Z _:=Bp _ (B4 _ rfl)
 have m:(LJ s.heap S T u v).get? (Nl s.heap S T u v).objs.size=Z _:=Bp _ (Bp _ (B4 _ rfl))
 have g:∀c o,(Nl s.heap S T u v).get? c=Z o->(LJ s.heap S T u v).get? c=Z o:=λc o e=>Bp _ (Bp _ (Bp _ e))
 have n:T.it (LJ s.heap S T u v) (Nk s.heap S u).objs.size 0:=T.itAt (T.new (h:=Nk s.heap S u) j) λo e=>g _ o e
 rw[b,d,k]at f
 rw[a,b]at m
 rw[d]at l
 rw[a]at n
 rw[k]
 exact#[#[_,f,rfl],q _ f m l (S.itAt (S.new (h:=s.heap) i) λo e=>g _ o (Bp _ e)) n λc o e=>g _ _ (Bp _ (Bp _ e))]
end
def ak(K:Am)(S T:AH):It:=
 #[λi H=>∃a b x y,S.sq K H a/\T.sq K H b/\a[i]?=Z x/\b[i]?=Z y,
  λi H v c=>∃p x y,v=.ref p/\H p=J/\c=AN H p (.tup [x,y])/\(∀a,S.sq K H a->a[i]?=Z x)/\∀b,T.sq K H b->b[i]?=Z y,
  λi H=>∃a b,S.sq K H a/\T.sq K H b/\(a.length<=i\/b.length<=i)]
theorem am{n:Nat}{S T:AH}(a:∀b∈S.fp,b<n)(c:∀b∈T.fp,b<n):Cf (n+4) (n+2) (n+3) n (n+1) S.fp T.fp where
 n1:=by(show @Ne Nat _ _;exact W.Z.off_ne n 2 4 rfl)
 n2:=by(show @Ne Nat _ _;exact W.Z.off_ne n 3 4 rfl)
 n3:=by(show @Ne Nat _ _;lia)
 n4:=by(show @Ne Nat _ _;exact W.Z.off_ne n 1 4 rfl)
 n5:=by(show @Ne Nat _ _;exact W.Z.off_ne n 2 3 rfl)
 n6:=by(show @Ne Nat _ _;lia)
 n7:=by(show @Ne Nat _ _;exact W.Z.off_ne n 2 1 rfl)
 n8:=by(show @Ne Nat _ _;lia)
 n9:=by(show @Ne Nat _ _;exact W.Z.off_ne n 3 1 rfl)
 n10:=by(show @Ne Nat _ _;exact Nat.ne_add_one n)
 fz:=λb d=>by
  grind
theorem rR{P:AI}{w:Ah}{K:Am}{m:U Expr} {x1} (S T:AH) (n:Nat) (h1:∀b∈S.fp,b<n) (h2:∀b∈T.fp,b<n):
  GU P w K (.Tuple m x1 pos) (ak K S T) [n+4,n+2,n+3,n,n+1] (n+4) (λi h=>IsZip h (n+4) (n+2) (n+3) .none/\IsPair h (n+2) (.ref n) (.ref (n+1))/\(∃a b,IsPair h (n+3) a b)/\S.it h n i/\T.it h (n+1) i) where
 mem:=by simp
 obj:=λi h z0 q f=>by
  obtain⟨z,a,⟨x,y,b⟩,c,d⟩:=z0
  erw[BK,HU,or_false]at f
  rcases f with rfl|rfl|rfl|rfl|rfl
  ·exact#[_,z,λv e=>nomatch (show Data.fields _=Data.cell v from e)]
  ·exact#[_,a,λv e=>nomatch (show Data.seq _ _=Data.cell v from e)]
  ·exact#[_,b,λv e=>nomatch (show Data.seq _ _=Data.cell v from e)]
  ·exact S.itOb c
  ·exact T.itOb d
 keep:=λi h t ⟨z,a,⟨x,y,b⟩,c,d⟩ k=>#[k _ (by simp) _ z,k _ (by simp) _ a,#[x,y,k _ (by simp) _ b],S.itAt c λo e=>k _ (by simp) o e,T.itAt d λo e=>k _ (by simp) o e]
 item:=by
  intro X F L M hc i g s I H E zB A #[z,a,#[u,v,b],c,d] #[xs,ys,x,y,B,C,ex,N]
  subst F L M
  obtain⟨sa,R,Q,c2⟩:=S.sub (P:=X.prog) (w:=X.w) (i:=n) (S.of zB B)
  obtain⟨zA,SB,Y,d2⟩:=T.sub (P:=X.prog) (w:=X.w) (i:=n+1) (T.of zB C)
  have l1:=(Cm.mp ex).1
  have l2:=(Cm.mp N).1
  refine aj (am h1 h2) R SB z a b (Q _ c) (Y _ d) (λ_ _ x' y' t G hx' hy' z' to' c' d' new sz kp=>?_) λhl=>absurd hl (by lia)
  obtain⟨x2,p,ru1⟩:=hx'
  obtain⟨y2,r,ru2⟩:=hy'
  rw[ex]at p;cases p
  rw[N]at r;cases r
  refine#[_,rfl,wpAny_letOwnedTupleGo_zip z' λj z2 zA=>?_]
  have hlt:n+4<s.heap.objs.size:=Br z
  have l:∀q o,q≠n+4->t.get? q=Z o->j.get? q=Z o:=λq o f e=>zA.extBut _ _ f e
  have I1:Inv X g I (AN H s.heap.objs.size (.tup [x,y])) {s with heap:=j,toks:=G}:=by
   refine Inv.tok (s:={s with heap:=j}) ?_ G
   exact zB.yielded A (λq o f e=>l q o (λz=>f (by simp[z])) (kp q o (λz=>f (by simp[z])) (λz=>f (by simp[z])) (λz=>f (by simp[z])) (λz=>f (by simp[z])) e)) (A5 _) #[show 2<=AA by ext,[x',y'],.cons ru1 (.cons ru2 .nil),#[_,l _ _ (by(show @Ne Nat _ _;exact B0 (BX hlt))) new,rfl,_,rfl]]
  refine#[.ref s.heap.objs.size,_,I1,rfl,#[_,x,y,rfl,zB.hok.fresh (A5 _),rfl,λzs hz=>S.inj zB hz B ▸ ex,λzs hz=>T.inj zB hz C ▸ N],#[z2,l _ _ (by(show @Ne Nat _ _;exact W.Z.off_ne n 2 4 rfl)) (kp _ _ (by(show @Ne Nat _ _;exact W.Z.off_ne n 2 4 rfl)) (by(show @Ne Nat _ _;exact W.Z.off_ne n 2 3 rfl)) (by(show @Ne Nat _ _;lia)) (by(show @Ne Nat _ _;exact W.Z.off_ne n 2 1 rfl)) a),#[x',y',l _ _ (by(show @Ne Nat _ _;exact W.Z.off_ne n 3 4 rfl)) to'],S.itAt (c2 _ _ c') λo e=>l _ o (by(show @Ne Nat _ _;lia)) e,T.itAt (d2 _ _ d') λo e=>l _ o (by(show @Ne Nat _ _;lia)) e],λq f=>?_]
  rw[Zq]
  ·exact(A q f).1
  ·erw[BK,HU,or_false]at f
   rcases f with rfl|rfl|rfl|rfl|rfl<;>(show @Ne Nat _ _;lia)
 done:=by
  intro X F L M hc i g s I H E zB A #[z,a,#[u,v,b],c,d] #[xs,ys,B,C,hl]
  subst F L M
  obtain⟨sa,R,Q,c2⟩:=S.sub (P:=X.prog) (w:=X.w) (i:=n) (S.of zB B)
  obtain⟨zA,SB,Y,d2⟩:=T.sub (P:=X.prog) (w:=X.w) (i:=n+1) (T.of zB C)
  exact aj (am h1 h2) R SB z a b (Q _ c) (Y _ d) (λz1 z2=>absurd hl (by lia)) λ_=>#[zB.ok.hd hc,λt G kp=>#[rfl,Inv.tok (s:={s with heap:=t}) (zB.turnedL A λq o f e=>kp q o (λz=>f (by simp[z])) (λz=>f (by simp[z])) (λz=>f (by simp[z])) (λz=>f (by simp[z])) e) G]]
 self:=λ_ _ _ _ _ ⟨z,_⟩ q=>wpAny_pyIter_zip z q
theorem rS:DO "zip"=Z (.type "zip"):=by decide +kernel
@[simp] noncomputable def Z9:D->A2
  |.lst a=>Z a
  |.tup a=>Z a
  |.str s=>Z (s.cps.toList.map λc=>.str #[(T' [c])])
  |_=>J
theorem SO{K:Am}{M N:Fb}{d:D}{v:V}(h:ON K M N H d v)(e:Z9 d=Z xs):
  ∃(S:AH) (vs:U V),v=S.v/\Ad K N H xs vs/\∀g f,Step M N g H f->S.sq K f vs:=by
 cases d with
 |lst k m=>
  cases m with
  |d=>cases e
  |i _ _=>cases e
  |l=>
  cases e
  obtain⟨a,vs,j,b,hd⟩:=h
  refine#[.l a,vs,j,hd,λg f S=>?_]
  rcases b with⟨n,b⟩|b
  ·exact .inl (b.step S (by rcases n with z|z;exact .inl z;exact .inr (.inl z)))
  ·exact b.sq
 |tup k=>
  cases e
  obtain⟨a,vs,j,b,hd⟩:=h
  exact#[.t a,vs,j,hd,λg f S=>b.step S]
 |str s=>
  cases e
  refine#[.x s,FU s,h,?_,λ_ _ _=>rfl]
  unfold FU
  generalize s.cps.toList=l
  induction l with
  |nil=>exact Ad.nil
  |cons c l o=>exact Ad.cons (by erw[As]) o
 |_=>cases e
@[simp] def FV(f g:AB):VE->A2:=λa=>match(f a).bind Z9,(g a).bind Z9 with
  |some b,Z c=>Z (Dk (λx y=>D.tup [x,y]) b c)
  |_,_=>J
theorem rT{K:Am}{M N:Fb}{S T:AH}{ys:U D}{us:U V}(h:Ad K N H xs us)(j:Ad K N H ys vs)(n:∀c b,Step M N c H b->S.sq K b us)(o:∀c b,Step M N c H b->T.sq K b vs):
  Lj K M N H (ak K S T) (Dk (λx y=>D.tup [x,y]) xs ys):=λc b St i=>by
 have e:=n _ _ St
 have f:=o _ _ St
 refine#[λd a=>?_,λa=>#[us,vs,e,f,?_]]
 ·rw[List.getElem?_zipWith]at a
  cases ex:xs[i]? with
  |none=>rw[ex]at a;cases a
  |some x=>
   cases g:ys[i]? with
   |none=>rw[ex,g]at a;cases a
   |some y=>
    rw[ex,g]at a;cases a
    obtain⟨u,k,q⟩:=(Ad.step St _ _ h).get ex
    obtain⟨v,l,r⟩:=(Ad.step St _ _ j).get g
    refine#[#[us,vs,u,v,e,f,k,l],λz C s=>?_]
    obtain⟨p,E,G,t,m,w,A,B⟩:=s
    have:=A us e;rw[k]at this;cases this
    have:=B vs f;rw[l]at this;cases this
    subst t w
    exact#[Xd m,MQ m (Ad.cons q (Ad.cons r Ad.nil))]
 ·have l1:=h.length
  have F:=j.length
  erw[List.length_zipWith]at a
  lia
section
variable{M:Fb}{f g:AB}{a b:Expr}{p tpos:Az}
set_option tactic.hygienic true in
theorem rV {x1} (hg:Gl X "zip") (hm:X.mg "zip"=J) (E:JE X a (tQ X.K M H0 f)) (l:JE X b (tQ X.K M H0 g)) (Y:AE [a,b] X.env=[(O',Ao a X.env),(O',Ao b X.env)]:=by rfl) (c:AE [b] X.env=[(O',Ao b X.env)]:=by rfl) (G:AE [] X.env=[]:=by rfl):
  JI X (.Tuple elts x1 tpos) (.Call (.Name "zip" p) [a,b] [] pos) (tI X.K M H0 (FV f g)):=#[have E:=E.h;have l:=l.h;by
 intro o s t H Q zA #[d,ds,R,e,q]
 unfold FV at e
 split at e
 ·next xs ys ex y=>
  cases e
  cases F:f d with
  |none=>rw[F]at ex;cases ex
  |some d1=>
   cases i:g d with
   |none=>rw[i]at y;cases y
   |some d2=>
    rw[F]at ex
    rw[i]at y
    refine Call_ (GS zA hg hm rS (Mn (AV ((Es E (Es l Bm (by rw[c,G])) (by rw[Y,c])) pos o s t H (λvs m=>∃S T u w,vs=[AH.v S,AH.v T]/\Ai H m/\Ad X.K (Nf M d t) m xs u/\Ad X.K (Nf M d t) m ys w/\(∀A n,Step M (Nf M d t) A m n->S.sq X.K n u)/\∀A n,Step M (Nf M d t) A m n->T.sq X.K n w) zA ?_) λu L ⟨vs,H1,x,r1,N⟩=>?_) (by rw[Y,c]) (by rw[c];rfl)))
    ·refine#[d,d1,R,F,λv1 H1 z1 N=>#[d,d2,R.st z1,i,λv2 m P q2=>?_]]
     obtain⟨S,u,e1,j,B⟩:=SO N ex
     obtain⟨T,w,e2,k,C⟩:=SO q2 y
     exact#[S,T,u,w,by rw[e1,e2],z1.trans P,j.same P,k,λA n St=>B _ _ ((Step.of_same P).trans St),C]
    ·obtain⟨S,T,us',w,rfl,z,j,k,B,C⟩:=N
     cases r1 with
     |cons r W=>
      cases W with
      |cons r' W=>
       cases W
       have o1:=S.of x (B _ _ Step.refl)
       have o2:=T.of x (C _ _ Step.refl)
       refine rQ r r' o1 o2 λh' a1 a2 a3 a4 a5 kp=>wpAny_pyIter_zip a1 ?_
       refine#[_,_,_,_,H1,rfl,x.kept (t':=L.toks) kp,rR S T L.heap.objs.size (S.lt o1) (T.lt o2),#[a1,a2,#[_,_,a3],a4,a5],λb l=>?_,q _ _ z (rT j k B C)]
       have hl:L.heap.objs.size<=b:=by
        erw[BK,HU,or_false]at l
        rcases l with rfl|rfl|rfl|rfl|rfl<;>(show @LE.le Nat _ _ _;lia)
       exact x.fpOk hl (x.hok.fresh hl)
 ·cases e]
end
open PySem.W
structure Q4 where
 k:KT
 kv:V
 b:Ac
 z:List D
def q3(q:Q4):T3:=(q.k,q.kv,.ref q.b)
def qz(q:Q4):KT×U D:=(q.k,q.z)
section
set_option tactic.hygienic true in
end
structure MI(K:Am)(C:Ac)(nm qual:Ae)(st:Au)(ps:List Ae)(a:Ac)(fd:B6):Prop where
 M:IA K C nm a
 F:HE K nm qual st a fd
 b:Binds K fd ps []
theorem mi{K:Am}{nm b:Ae}{st:Au}{j:U Ae}{n:Aa}{o f:O Ac}{m:Array (O Aa)}{g e h d ct:Aa}
  (A:findIn K (.ref C) nm=Z (Z (.ref a))) (i:isFn K (.ref a)=J')
  (l:K.lookup a=Z #[n,o,.func (fnOf nm b (GZ st) (ZI st) (Zf st) .none g e h f d ct),m]) (c:codeIn K d b=J') (k:keepIn K (.ref a)=J')
  (p:∀(g e h:Aa) (f:O Ac) (d ct:Aa) (us:U Aa),us.length=j.length->bindArgs (fnOf nm b (GZ st) (ZI st) (Zf st) .none g e h f d ct) #[us,[]]=AC (j.zip us):=by
   exact λ_ _ _ _ _ _=>Y5 (by(repeat intro _);rfl)):
  MI K C nm b st j a (fnOf nm b (GZ st) (ZI st) (Zf st) .none g e h f d ct):=
 #[#[A,i,k],W4 l c k,.all (p g e h f d ct)]
structure CI(K:Am)(mg:Bl)(c:Ae)(C:Ac):Prop where
 cof:nsIn K BN c=Z (Z (.ref C))
 cl:Er K C
 m:mg c=Z (.ref C)
 mks:makesIn K C=J'
 kp:keepIn K (.ref C)=J'
theorem ci{K:Am}{mg:Bl}{h:Ak}{c:Ae}(X:K.In h)(G:h.Ns BN mg)(A:nsIn K BN c=Z (Z (.ref C)))(pg:plainGet K C Str.empty=J')(hd:hasDictIn K C=J')(po:plainOver K C=J')(sa:findIn K (.ref C) "__setattr__"=Z (Z (.builtin "object.__setattr__")))(a:makesIn K C=J')(b:keepIn K (.ref C)=J'):CI K mg c C:=
 #[A,#[pg,hd,po,sa],mg_of X G A,a,b]
theorem CI.mkB{K:Am}{mg:Bl}{b:Ae}{st:Au}{d:U Ae}{fd:B6}{c':Ae}(c:CI K mg c' C)(q:MI K C "__init__" b st d a fd):Mk K C a:=#[c.mks,q.M.at_,q.M.fn,c.kp]
theorem rW{K:Am}{k:Nat}{fn:Ac}{fd:B6}{b:U Ae}{nm a:Ae}{st:Au}{P:AI}{w:Ah}{mg:Bl}{base:Ak}{N:U Ae}{g f:Ar}(D:MI K C nm a st b fn fd)(S:Z8 N b (Zf st))
  (h:∀(c:Aa) (A:Ag) (outer:U Env) (s:Ab) (H:Hp) (E:XK) (M:Fb) (H0:Hp),AF k (A.deeper (A0 a (Zf st) s.heap.objs.size fn c)) ->
   JB (CK Bg P w K mg base N a (Zf st) fn c A outer s H E).nox (ZI st) (tS K M H0 f)) (e:f=g:=by rfl) (d:b.length<=N.length:=by ext):AQ P w K mg base Bg (k+1) fn fd b (AU K (AL b.length N.length g)):=
 Xu D.F S d (e ▸ h)
section
variable{M:Fb}{l:Expr}{f:AB}{b:D->VE->O VE}{t:VE->O Bool}{e:AB}
set_option tactic.hygienic true in
theorem ao{n:Nat}{oix:U Nat}(hw:∀j∈ws,j<n){E:AS}{s:Ab}{Q:VK}(W:Inv X E I H s)(h:tF X.K M H0 (Zi n oix (λρ=>(f ρ).bind FS) b t e) I H Q):OA n oix (af X.K (tQ X.K M H0 f)) (ML X.K ws b) (MM X.K t) (MN X.K e) I H (λv=>Cv X (Q v)):=by
 obtain⟨ρ,N,R,g,q⟩:=h
 unfold Zi at g
 dsimp only at g
 cases P:f ρ with
 |none=>rw[P]at g;cases g
 |some d=>
 rw[P]at g
 erw[De]at g
 cases i:FS d with
 |none=>rw[i]at g;cases g
 |some ds=>
 rw[i]at g
 unfold FS at i
 split at i
 ·next ys=>
  cases T:Eh ys with
  |none=>rw[T]at i;cases i
  |some G=>
  rw[T]at i
  cases i
  refine#[ρ,_,R,P,λv r C dq=>?_]
  rw[GB T]at dq
  obtain⟨a,u,rfl,hN,hr,dl⟩:=dq
  obtain⟨tr,dc,pd⟩:=Ja hr dl
  refine#[a,tr,rfl,dc,λo hz=>?_]
  have S:=R.st C
  have fin:∀m,Bn X.K M m ρ I (C5 a o (DV tr) r)->(∀p u A,Ai (C5 a o (DV tr) r) A->C5 a o (DV tr) r p=J->A p=Z (CO X.K .l p N u)->Ad X.K (λb=>Nf M ρ I b\/b=p) A N u->Cv X (Q (.ref p)) A) ->
    RH n oix (ML X.K ws b) (MM X.K t) (MN X.K e) (Pg a o (DV tr) (tr.map λt=>t.2.1)) I (C5 a o (DV tr) r) (λv=>Cv X (Q v)):=λm R2 q2=>by
   obtain⟨ρ',ds',R',e',k⟩:=(MO (K:=X.K) (M:=M) (H0:=m) (f:=λ_=>Z (G.map λ(p:KT×D)=>kD p.1)) (b:=b) (t:=t) (e:=e) (oix:=oix) (k:=n) hw (wi:=tI X.K M m λ_=>Z (G.map λ(p:KT×D)=>kD p.1)) (λ_ _ _ z=>z) (I:=I) (H:=C5 a o (DV tr) r) (Q:=λv=>Cv X (Q v)) #[ρ,N,R2,g,q2])
   cases e'
   exact k _ _ (Ai.refl _) (rG pd hz)
  rcases dc.1 with F|⟨o',F⟩
  ·refine fin _ (S.fz rfl F (rH S hN)) λp u A sm Y L B=>?_
   have hf':=sm a _ (Ko F)
   refine .inr #[a,o,DV tr,W.plain2 C F rfl,hf',q p u _ (λc w e=>?_) (C.none (Dj.mp Y)) (ac L (ae _ _ _ _ _)) (Ad.rd (λb v L h=>Rd.ufz L h) _ _ B)]
   have e1:=C c w e
   by_cases y:c=a
   ·grind [SM]
   ·rw[Pf λx=>y x.1];exact sm c w (by rw[Hd λx=>y x.1];exact e1)
  ·have e:C5 a o (DV tr) r=r:=funext λb=>Hd (by rintro⟨rfl,y⟩;rw[F]at y;cases y)
   rw[e]at fin ⊢
   exact fin _ S λp u A sm Y L B=>.inl (q p u A (C.trans sm) (C.none Y) L B)
 ·cases i
variable(own outs:U Ae)(oix:U Nat)(S:HF own outs scope X.env.scope)(hox:oix.map (λj=>X.N[j]?)=outs.map Z)(hc:X.calm=J')
include S hox hc
theorem rX(k:JE X l (tQ X.K M H0 f))
  (d:CB X.K X own outs scope tg ifs elt ws b t e) (m:∀j∈ws,j<own.length)
  (n:∀x,EU l X.env x=AC x:=by intro _;rfl):
  JE X (.ListComp elt [#[tg,l,ifs,0]] scope pos) (tF X.K M H0 (Zi own.length oix (λρ=>(f ρ).bind FS) b t e)):=#[λc s p H Q B h=>by
 refine AV (W8 own outs oix S hox hc (ag k.h) d.g d.t d.e n c s p H (λv=>Cv X (Q v)) B (ao m B h)) λu A h=>?_
 obtain⟨v,q,i,r,z⟩:=h
 rcases z with z|⟨a,o,u,w,y,z⟩
 ·exact#[v,q,i,r,z]
 ·exact#[v,_,i.ufz y w,r,z]]
theorem rY{i:Nat}{x:Ae}{a c:Az}(o:X.N.Nodup)(k:X.N[i]?=Z x)(p:X.env.scope.names.lookup x=Z .local)(q:JE X l (tQ X.K M H0 f))
  (m:CB X.K X own outs scope tg ifs elt ws b t e) (r:∀j∈ws,j<own.length)
  (n:Dv (.ListComp elt [#[tg,l,ifs,0]] scope pos) (Z (.Name x a)) c.line X.env=AC J':=by rfl) (u:∀x,EU l X.env x=AC x:=by intro _;rfl):
  JS X (.Assign [.Name x a] (.ListComp elt [#[tg,l,ifs,0]] scope pos) c) (tS X.K M H0 λρ=>ZS i (Zi own.length oix (λρ=>(f ρ).bind FS) b t e ρ) ρ):=#[λd s v H D w h=>
 AV (OB own outs oix S hox hc o k p (ag q.h) m.g m.t m.e n u d s v H (D.cv X) w (ao r w (RQ h))) λ_ _ h=>SP.cv h]
end
section
variable{P:AI}{w:Ah}{T:Type}[DecidableEq T]{hk:HeapKind P w T}{A:Ag}{s:Ab}{us:U (T×Ac×Aa)}
theorem rZ(hk:HeapKind P w T)(b:(a==Gd)=O'):MeetsIn P w (Fi.«dict.__len__» #[[.ref a],[]]) (λ_ R t=>∃us,t.heap.DictOfH hk a us/\R (.ok (.ret (.int us.length t.toks))) {t with toks:=t.toks+1}):=.of_wp λA R t c=>by
 obtain⟨us,⟨o,g,h,d,_,e,f,_⟩,q⟩:=c
 rw[(size_of_entries f).symm]at q
 change wpAny _ _ (dictSize a >>= _) _ _ t
 unfold dictSize;refine Al (Al (wpAny_dictEntries d e (AO (?_:wpAny _ _ (Builtin.Dict.pendingCount a >>= _) _ _ t))))
 exact Al (wpAny_pendingCount_other b (wpAny_ret_mkInt (by rw[Nat.add_zero];exact q)))
theorem r6{Q:AJ}(c:(a==Gd)=O')(d:s.heap.DictOfH hk a us)(z:(us.length:Int)<2^63)(q:Q (.int us.length (s.toks+1)) {s with toks:=s.toks+1+1}):wpAny (Af P w) A (Fi.«len» #[[.ref a],[]]) (λf t=>∃r,f=.done (.ret r)/\Q r t) E s:=by
 unfold Fi.«len»;refine Al (m:=oneArg "len" _) (AO (Al (m:=callSpecial? (.ref a) (IF "__len__")) (K9 (name:=IF "__len__") d.typeIs F.slot_dict_len (call_meetsIn F.slot_dict_len d.typeIs F.entry_dict_len (F.args_dict_len_1 _) (rZ hk c) #[us,d,?_]))))
 change wpAny _ _ _ _ _ {s with toks:=s.toks+1}
 refine Al (FC (AO (Al (wpAny_letGo ?_))))
 change wpAny _ _ (if((us.length:Nat):Int)<0 then _ else _) _ _ _
 change wpAny _ _ (if((us.length:Nat):Int)≥2^63 then _ else _) _ _ _
 rw[if_neg (by exact Int.not_le.mpr z:¬ ((us.length:Nat):Int)≥2^63)]
 exact Al (wpAny_mkInt (AO #[_,rfl,q]))
end
section
variable{K:Am}
theorem r9:Ea X (.builtin "len") (λxs H Q=>∃a tr,xs=[.ref a]/\Cr X.K H a tr/\(∀t∈tr,∃l,t.1=KT.tup l)/\Q (.int tr.length) H):=by
 rintro c s i H xs d Q j r ⟨a,tr,rfl,hd,e,q⟩
 obtain⟨u,rfl,f⟩:=EW r
 cases f
 obtain⟨z,g,nd,d,b,h⟩:=Lw j hd e
 refine ap kind_len plain_len entry_len (args_len1 _) (r6 g h (by rw[<- (Gc b)];rw[Iy]at z;lia) ?_)
 rw[<- (Gc b)]
 exact#[.int _,H,j.tok _,#[_,rfl],q]
def LK:D3
 |[.lst b .d]=>(Eh b).bind λa=>if a.all (λp=>!EG p.1)then Z (.int a.length)else J
 |_=>J
set_option tactic.hygienic true in
theorem sd:FJ K (λxs H Q=>∃a tr,xs=[.ref a]/\Cr K H a tr/\(∀t∈tr,∃l,t.1=KT.tup l)/\Q (.int tr.length) H) LK:=by
 intro N H m n d Q o h e q
 unfold LK at e
 split at e
 ·next xs=>
  obtain⟨c,f,e⟩:=BL.mp e
  obtain⟨g,e⟩:=ZX e
  cases e
  obtain⟨v,rfl,b⟩:=Paired.one' h
  rw[GB f]at b
  obtain⟨p,s,rfl,r,hd⟩:=b
  obtain⟨tr,i,j⟩:=Ja r hd
  refine#[p,tr,rfl,i,j.hom (k:=.tup []) (by simpa[Dh,EG]using g),?_]
  grind [Gc,Ai.refl,Fk]
 ·cases e
end
end L2
namespace L2
open PySem PySem.Spec PyProof.Rows
section
variable{prog:AI}{w:Ah}{A:Ag}{s:Ab}
noncomputable abbrev SQ(i:Ac):Obj:={cls:=.type "enumerate",data:=.fields (T' [.none,.bool O',.ref i,AZ 0,.none,.none])}
set_option tactic.hygienic true in
theorem se(S:AH)(a:RelV S.v u)(xs:U V):Meets (Fi.«enumerate.__new__» #[[.type "enumerate",u],[]]) (λ_ R s=>S.ok s.heap xs/\R (.ok (.ret (.ref (s.heap.push (S.obj u)).objs.size))) {s with heap:=(s.heap.push (S.obj u)).push (SQ s.heap.objs.size)}):=
 .of_wp λprog w A R s h=>by
  obtain⟨b,g,d,f,os⟩:=s;obtain⟨e,q⟩:=h
  have i:=sub_enumerate
  wp_walk using S.pyIter a e
  refine wpAny_stack_any λst=>AO ?_
  split
  ·rename_i c _ _ _ _ _
   cases(c==Value.type "enumerate")
   ·wp_walk using S.pyIter a e
    exact#[_,rfl,q]
   ·wp_walk using S.pyIter a e
    exact#[_,rfl,q]
  ·wp_walk using S.pyIter a e
   exact#[_,rfl,q]
theorem sf{S:AH}(a:RelV S.v u){xs:U V}{Q:AJ}(p:S.ok s.heap xs)
  (q:∀h',IsEnum h' (s.heap.objs.size+1) s.heap.objs.size 0 .none->S.it h' s.heap.objs.size 0->(∀b o,s.heap.get? b=Z o->h'.get? b=Z o)->Q (.ref (s.heap.objs.size+1)) {s with heap:=h' }):
  wpAny (Af prog w) A (call (.type "enumerate") [u]) Q E s:=by
 have d:(s.heap.push (S.obj u)).objs.size=s.heap.objs.size+1:=by simp
 have c:IsEnum ((s.heap.push (S.obj u)).push (SQ s.heap.objs.size)) (s.heap.objs.size+1) s.heap.objs.size 0 .none:=by
  have:=B4 (s.heap.push (S.obj u)) (o:=SQ s.heap.objs.size) rfl
  grind
 refine callType_new PySem.F.called_enumerate (by ext) (PySem.F.typeCall_enumerate_1 _) (PySem.F.newCall_enumerate_1 _) (λobj=>PySem.F.args_object_init_2 obj _) PySem.F.entry_enumerate_new (se S a xs) #[p,?_]
 rw[d]
 exact#[#[_,c,rfl],(q _ c (S.itAt (S.new (h:=s.heap) a) λo e=>Bp _ e) λb o e=>Bp _ (Bp _ e))]
section
variable{e it:Ac}{fa:U Ac}{n k:Nat}{sa:Nat->Ak->Prop}{old:Aa}
theorem sh{Q:O Aa->Ab->Prop}(SA:He prog w it fa n isA sa)(a:IsEnum s.heap e it k old)(ha:sa k s.heap)(kn:k<n)(u:e≠it)(hfe:e∉fa)
  (q:∀x h' t' v,isA k x->IsEnumOut h' e it ((k:Int)+1) x s.heap.objs.size->sa (k+1) h'->h'.get? s.heap.objs.size=Z {cls:=.type "tuple",data:=.seq (T' [.int k t',x])} ->
   (∀b o,b≠e->b≠it->s.heap.get? b=Z o->h'.get? b=Z o)->Q (Z (.ref s.heap.objs.size)) {s with heap:=h',toks:=v}):
  wpAny (Af prog w) A (pyNext (.ref e)) Q E s:=by
 obtain⟨i,g,d,tk,os⟩:=s
 refine Al (wpAny_attempt (K9 (name:=IF "__next__") #[_,a,rfl] SR (JY SR #[_,a,rfl] PySem.F.entry_enumerate_next ?_ (PySem.F.args_enumerate_next_1 _))))
 have fr:∀{h h':Ak},sa (k+1) h->(∀b o,b≠e->h.get? b=Z o->h'.get? b=Z o)->sa (k+1) h':=λst kp=>SA.frame _ _ _ st λb c o x=>kp b o (by
  grind) x
 show wpAny _ _ (field (.ref e) 2 >>= _) _ _ _
 refine Al (D2 a rfl (x:=.ref it) rfl ?_)
 refine Al (SA.item _ _ _ k _ kn ha λx y j hx a1 l=>?_)
 replace l:DP it i y:=l
 have B:IsEnum y e it k old:=(l.2 e u).trans a
 refine Al (D2 B rfl (x:=AZ k) rfl ?_)
 refine Al (D2 B rfl (x:=.none) rfl ?_)
 refine Al (wpAny_mkInt ?_)
 refine Al (Hf B (by simp) λC G m=>?_)
 replace m:DP e y C:=m
 replace G:IsEnum C e it ((k:Int)+1) old:=G
 refine Al (Hf G (by simp) λf H p=>?_)
 replace p:DP e C f:=p
 replace H:IsEnum f e it ((k:Int)+1) old:=H
 refine Al (wpAny_newTuple ?_)
 have sz:f.objs.size=i.objs.size:=by rw[p.1,m.1,l.1]
 have r:IsEnum (f.push {cls:=.type "tuple",data:=.seq (T' [.int k j,x])}) e it ((k:Int)+1) old:=Bp _ H
 have t4:(f.push {cls:=.type "tuple",data:=.seq (T' [.int k j,x])}).get? i.objs.size=Z {cls:=.type "tuple",data:=.seq (T' [.int k j,x])}:=sz ▸ B4 _ rfl
 have k4:∀b o,b≠e->b≠it->i.get? b=Z o->(f.push {cls:=.type "tuple",data:=.seq (T' [.int k j,x])}).get? b=Z o:=λb o a S c=>
  Bp _ (p.extBut b o a (m.extBut b o a (l.extBut b o S c)))
 have a4:sa (k+1) (f.push {cls:=.type "tuple",data:=.seq (T' [.int k j,x])}):=fr a1 λb o c z=>Bp _ (p.extBut b o c (m.extBut b o c z))
 generalize (f.push {cls:=.type "tuple",data:=.seq (T' [.int k j,x])})=h4 at r t4 k4 a4 ⊢
 rw[sz]
 refine Al ?_
 refine Al (D2 r rfl (x:=.none) rfl (AO ?_))
 refine Al (IG ?_)
 refine Al (D2 r rfl (x:=old) rfl ?_)
 refine Al (Hf r (by simp) λK L M=>?_)
 replace M:DP e h4 K:=M
 replace L:IsEnum K e it ((k:Int)+1) x:=L
 refine Al ?_
 refine Al (Hf L (by simp) λN P T=>?_)
 replace T:DP e K N:=T
 replace P:IsEnumOut N e it ((k:Int)+1) x i.objs.size:=P
 refine Hf P (by simp) λt R Y=>?_
 replace Y:DP e N t:=Y
 replace R:IsEnumOut t e it ((k:Int)+1) x i.objs.size:=R
 have up:∀b o,b≠e->h4.get? b=Z o->t.get? b=Z o:=λb o c z=>Y.extBut b o c (T.extBut b o c (M.extBut b o c z))
 refine Al (wpAny_letGo (AO #[_,rfl,AO (q x t _ _ hx R (fr a4 up) (up _ _ (Gi (Br a)) t4) λb o a S z=>up b o a (k4 b o a S z))]))
theorem si{Q:O Aa->Ab->Prop}(d:A.handled=J)(f:He prog w it fa n isA sa)(a:IsEnum s.heap e it k old)(g:sa k s.heap)(h:n<=k)
  (q:∀h',Heap.ExtBut it s.heap h'->Q J {s with heap:=h' }):wpAny (Af prog w) A (pyNext (.ref e)) Q E s:=by
 refine Al (wpAny_attempt (K9 (name:=IF "__next__") #[_,a,rfl] SR (JY SR #[_,a,rfl] PySem.F.entry_enumerate_next ?_ (PySem.F.args_enumerate_next_1 _))))
 show wpAny _ _ (field (.ref e) 2 >>= _) _ _ _
 refine Al (D2 a rfl (x:=.ref it) rfl ?_)
 refine Al (f.fin _ _ _ k _ (by exact d) h g λh' x i j=>?_)
 obtain⟨o,l,m⟩:=j
 exact Al (wpAny_isInstance (T:="StopIteration") (b:=J') #[o,l,m] isSubtype_stop (AO (q _ i)))
theorem sj{a:U Expr} {b} {i:Int} {v:Aa} {T:Ac} (hz:IsEnumOut s.heap e it i v T)
  (q:∀h',IsEnum h' e it i v->DP e s.heap h'->Q () {s with heap:=h' }):wpAny (Af prog w) A (letOwnedTupleGo (.Tuple a b pos) (.ref e) (.ref T)) Q E s:=by
 refine Al (wpAny_load hz ?_)
 show wpAny _ _ (if(["enumerate","zip","dict_itemiterator","dict_reverseitemiterator","odict_iterator","itertools.zip_longest","itertools.pairwise"].contains "enumerate"&&((T' [AZ T,.bool O',.ref it,AZ i,.none,v]):Array Aa)[0]?==Z (AZ T))=J' then _ else _) Q E s
 rw[if_pos (by simp)]
 exact Al (IG (Hf hz (by simp) λh' z c=>q h' z c))
end
end
def aq(K:Am)(S:AH):It:=
 #[λi H=>∃a x,S.sq K H a/\a[i]?=Z x,
  λi H v b=>∃p x,v=.ref p/\H p=J/\b=AN H p (.tup [.int i,x])/\(∀a,S.sq K H a->a[i]?=Z x),
  λi H=>∃a,S.sq K H a/\a.length<=i]
theorem sk{P:AI}{w:Ah}{K:Am}{g:U Expr} {T} (S:AH) (n:Nat) (W:∀b∈S.fp,b<n):
  GU P w K (.Tuple g T pos) (aq K S) [n+1,n] (n+1) (λi h=>(∃f,IsEnum h (n+1) n i f)/\S.it h n i) where
 mem:=by simp
 obj:=λi h Y q a=>by
  obtain⟨⟨x,z⟩,c⟩:=Y
  erw[BK,HU,or_false]at a
  rcases a with rfl|rfl
  ·exact#[_,z,λv e=>nomatch (show Data.fields _=Data.cell v from e)]
  ·exact S.itOb c
 keep:=λi h m ⟨⟨x,z⟩,c⟩ k=>#[#[x,k _ (by simp) _ z],S.itAt c λo e=>k _ (by simp) o e]
 item:=by
  intro X t u y L i d s M H E zA p #[#[f,z],c] #[xs,x,r,ex]
  subst t u y
  obtain⟨sa,A,B,N⟩:=S.sub (P:=X.prog) (w:=X.w) (i:=n) (S.of zA r)
  have hlt:n+1<s.heap.objs.size:=Br z
  refine sh A z (B _ c) ((Cm.mp ex).1) (by(show @Ne Nat _ _;lia)) (λz=>absurd (show @LT.lt Nat _ _ _ from W _ z) (by show ¬ @LT.lt Nat _ _ _;lia)) λR m t1 Q C z' c' new kp=>?_
  obtain⟨x2,j,G⟩:=C
  rw[ex]at j;cases j
  refine#[_,rfl,sj (s:={s with heap:=m,toks:=Q}) z' λl z2 sb=>?_]
  have F:∀q o,q≠n+1->m.get? q=Z o->l.get? q=Z o:=λq o a e=>sb.extBut _ _ a e
  have I1:Inv X d M (AN H s.heap.objs.size (.tup [.int i,x])) {s with heap:=l}:=by
   exact zA.yielded p (λq o a e=>F q o (λz=>a (by simp[z])) (kp q o (λz=>a (by simp[z])) (λz=>a (by simp[z])) e)) (A5 _) #[show 2<=AA by ext,[.int i t1,R],.cons #[_,rfl] (.cons G .nil),#[_,F _ _ (by(show @Ne Nat _ _;lia)) new,rfl,_,rfl]]
  refine#[.ref s.heap.objs.size,_,I1.tok Q,rfl,#[_,x,rfl,zA.hok.fresh (A5 _),rfl,λzs hz=>S.inj zA hz r ▸ ex],#[#[R,?_],S.itAt (N _ _ c') λo e=>F _ o (by(show @Ne Nat _ _;lia)) e],λq a=>?_]
  ·have:((i+1:Nat):Int)=(i:Int)+1:=by lia
   exact z2
  rw[Zq]
  ·exact(p q a).1
  ·erw[BK,HU,or_false]at a
   rcases a with rfl|rfl<;>(show @Ne Nat _ _;lia)
 done:=by
  intro X t u y L i d s M H E zA p #[#[f,z],c] #[xs,r,hl]
  subst t u y
  obtain⟨sa,A,B,N⟩:=S.sub (P:=X.prog) (w:=X.w) (i:=n) (S.of zA r)
  refine si (zA.ok.hd L) A z (B _ c) hl λm kp=>#[rfl,zA.turnedL p λq o a e=>kp q o (λz=>a (by simp[z])) e]
 self:=λ_ _ _ _ _ ⟨⟨_,z⟩,_⟩ q=>wpAny_pyIter_enum z q
@[simp] def H9(f:AB):VE->A2:=λa=>match(f a).bind Z9 with
  |some b=>Z (C3 0 b)
  |none=>J
theorem so{K:Am}{M N:Fb}{S:AH}{us:U V}(e:Ad K N H xs us)(j:∀f b,Step M N f H b->S.sq K b us):Lj K M N H (aq K S) (C3 0 xs):=λf b St i=>by
 have c:=j _ _ St
 refine#[λd a=>?_,λa=>#[us,c,?_]]
 ·rw[Ye]at a
  obtain⟨x,ex,a⟩:=BG.mp a
  cases a
  obtain⟨u,g,k⟩:=(Ad.step St _ _ e).get ex
  refine#[#[us,u,c,g],λz q l=>?_]
  obtain⟨p,r,m,h,n,o⟩:=l
  have:=o us c;rw[g]at this;cases this
  subst m n
  exact#[Xd h,MQ h (Ad.cons (by simp[As]) (Ad.cons k Ad.nil))]
 ·have l1:=e.length
  rw[Si]at a
  lia
section
variable{M:Fb}{f:AB}{a:Expr}{p tpos:Az}
set_option tactic.hygienic true in
theorem sr {G} (F:Gl X "enumerate") (L:X.mg "enumerate"=J) (k:JE X a (tQ X.K M H0 f)) (w:AE [a] X.env=[(O',Ao a X.env)]:=by rfl) (l:AE [] X.env=[]:=by rfl):
  JI X (.Tuple elts G tpos) (.Call (.Name "enumerate" p) [a] [] pos) (tI X.K M H0 (H9 f)):=#[have k:=k.h;by
 intro d s m H Q zA #[n,ds,R,e,q]
 unfold H9 at e
 split at e
 ·next N ex=>
  cases e
  obtain⟨P,T,ex⟩:=BL.mp ex
  refine Call_ (GS zA F L pG (Mn (AV ((Es k Bm (by rw[w,l])) pos d s m H (λx o=>∃S g,x=[AH.v S]/\Ai H o/\Ad X.K (Nf M n m) o N g/\(∀W y,Step M (Nf M n m) W o y->S.sq X.K y g)) zA ?_) λg t ⟨x,A,i,Y,u⟩=>?_) w rfl))
  ·refine#[n,P,R,T,λv1 A z1 u=>?_]
   obtain⟨S,g,e1,c,j⟩:=SO u ex
   exact#[S,g,by rw[e1],z1,c,j]
  ·obtain⟨S,us',rfl,z,c,j⟩:=u
   cases Y with
   |cons r rr=>
    cases rr
    have B:=S.of i (j _ _ Step.refl)
    refine sf r B λh' C a4 kp=>wpAny_pyIter_enum C ?_
    refine#[_,_,_,_,A,rfl,i.kept (t':=t.toks) kp,sk S t.heap.objs.size (S.lt B),#[#[_,C],a4],λb hb=>?_,q _ _ z (so c j)]
    have E:t.heap.objs.size<=b:=by
     grind
    exact i.fpOk E (i.hok.fresh E)
 ·cases e]
end
open PySem.W
inductive IV where
 |no|val (d:D)|cel (n:Nat)|exc (c:Ae)
inductive Cl where
 |dead|dat (k:Kd) (xs:List D)|mix (k:Kd) (xs:List IV)
abbrev Gh:=U Cl
variable{FX:U IV->Gh->O Ae}
abbrev IS:=U IV×Gh
variable{gx:IS->O (IV×Gh)}{gp:IS->O Nat}{gb:IS->O (Bool×Gh)}{gf:IS->O (U D)}
@[simp] def un:IV->D
  |.val d=>d
  |_=>.non
@[simp] def Cl.kd:Cl->O Kd
  |.dead=>J
  |.dat k _=>Z k
  |.mix k _=>Z k
def LV(φ:Nat->Ac)(G:Gh):Fb:=λa=>∃n c k,G[n]?=Z c/\c.kd=Z k/\φ n=a
def A9(K:Am)(φ:Nat->Ac)(L:Nat)(N:Fb)(H:Hp):IV->V->Prop
 |.no,_=>False
 |.val d,v=>As K N H d v
 |.cel n,v=>n<L/\v=.ref (φ n)
 |.exc c,v=>∃a C,v=.ref a/\nsIn K BN c=Z (Z (.ref C))/\H a=Z (.ext (E1 a C))
def SS(K:Am)(φ:Nat->Ac)(L:Nat)(N:Fb)(H:Hp)(a:Ac):Cl->Prop
 |.dead=>True
 |.dat k b=>∃c,H a=Z (CO K k a b c)/\Ad K N H b c
 |.mix k b=>∃c,H a=Z (CO K k a (b.map un) c)/\Paired (A9 K φ L N H) b c
structure Bq(K:Am)(φ:Nat->Ac)(G:Gh)(H:Hp):Prop where
 cell:∀n c,G[n]?=Z c->SS K φ G.length (LV φ G) H (φ n) c
 inj:∀n m c c' k k',G[n]?=Z c->G[m]?=Z c'->c.kd=Z k->c'.kd=Z k'->φ n=φ m->n=m
structure Bb(K:Am)(φ:Nat->Ac)(s:IS)(I:St)(H:Hp):Prop where
 len:s.1.length=I.length
 g:Bq K φ s.2 H
 slot:∀(i:Nat) (x:IV),s.1[i]?=Z x->x=.no\/∃v,I[i]?.join=Z v/\A9 K φ s.2.length (LV φ s.2) H x v
structure Go(φ:Nat->Ac)(G:Gh)(H:Hp)(φ':Nat->Ac)(G':Gh)(H':Hp):Prop where
 ext:∀n,n<G.length->φ' n=φ n
 len:G.length<=G'.length
 st:Step (λ_=>False) (LV φ G) (LV φ' G') H H'
section
variable{K:Am}{φ1 φ2:Nat->Ac}{G G1 G2:Gh}{H1 H2:Hp}{s:IS}
theorem Go.same(sm:Ai H H'):Go φ G H φ G H':=#[λ_ _=>rfl,A5 _,Step.of_same sm]
theorem Go.trans(a:Go φ G H φ1 G1 H1)(b:Go φ1 G1 H1 φ2 G2 H2):Go φ G H φ2 G2 H2:=
 #[λn h=>(b.ext n (BE h a.len)).trans (a.ext n h),BJ a.len b.len,a.st.trans b.st]
theorem A9.go(g:Go φ G H φ1 G1 H1){x:IV}{v:V}(h:A9 K φ G.length (LV φ G) H x v):A9 K φ1 G1.length (LV φ1 G1) H1 x v:=by
 cases x with
 |no=>exact h
 |val d=>exact As.step g.st d v h
 |cel n=>exact#[BE h.1 g.len,g.ext n h.1 ▸ h.2]
 |exc c=>obtain⟨a,C,e,b,f⟩:=h;exact#[a,C,e,b,g.st.kp _ _ f (.inr (.inr rfl))]
theorem Bq.same(R:Bq K φ G H)(sm:Ai H H'):Bq K φ G H':=#[λn c e=>by
 have h:=R.cell n c e
 cases c with
 |dead=>trivial
 |dat k f=>obtain⟨a,b,d⟩:=h;exact#[a,sm _ _ b,d.same sm]
 |mix k f=>obtain⟨a,b,d⟩:=h;exact#[a,sm _ _ b,Paired.mapP d λ_ _ q=>A9.go (Go.same sm) q],R.inj]
theorem Bb.go(R:Bb K φ s I H)(a:Bq K φ1 G1 H1)(g:Go φ s.2 H φ1 G1 H1):Bb K φ1 (s.1,G1) I H1:=
 #[R.len,a,λi x e=>(R.slot i x e).imp id λ⟨v,b,c⟩=>#[v,b,c.go g]]
theorem Bb.same(R:Bb K φ s I H)(sm:Ai H H'):Bb K φ s I H':=R.go (R.g.same sm) (Go.same sm)
theorem Bq.has(R:Bq K φ G H){n:Nat}{c:Cl}{k:Kd}(e:G[n]?=Z c)(a:c.kd=Z k):∃xs vs,H (φ n)=Z (CO K k (φ n) xs vs):=by
 have h:=R.cell n c e
 cases c with
 |dead=>cases a
 |dat k xs=>cases a;obtain⟨vs,b,_⟩:=h;exact#[_,vs,b]
 |mix k xs=>cases a;obtain⟨vs,b,_⟩:=h;exact#[_,vs,b]
theorem Bq.nh(R:Bq K φ G H)(h:LV φ G a):H a≠J:=by
 obtain⟨n,c,k,e,b,rfl⟩:=h
 obtain⟨d,f,q⟩:=R.has e b
 simp_all
end
@[simp] def vk:Nat->Kd->Bool
  |0,_=>O'
  |1,.l=>O'
  |_,_=>J'
@[simp] def Nm:U (O D)->A2
  |[]=>Z []
  |o::r=>Zs o (Nm r)
@[simp] noncomputable def tr(m:Nat)(G:Gh):Nat->IV->O D
  |_,.val d=>Z d
  |f+1,.cel n=>match G[n]? with
   |some (.dat k a)=>if vk m k=J' then Z (.lst a k)else J
   |some (.mix k a)=>if vk m k=J' then(Nm (a.map (tr m G f))).map λl=>.lst l k else J
   |_=>J
  |_,_=>J
@[simp] def Ej(m:Nat)(G:Gh):IV->Sl
  |.val d=>.val d
  |.no=>.no
  |.exc c=>.exc c
  |.cel n=>match tr m G 3 (.cel n)with
   |some d=>.val d
   |none=>match G[n]? with
    |some (.dat k a)=>if vk m k=J' then .no else .lent a k
    |_=>.no
@[simp] def vw(m:Nat)(s:IS):VE:=s.1.map (Ej m s.2)
def NW(m:Nat)(φ:Nat->Ac)(G:Gh):Fb:=λa=>∃n c k,G[n]?=Z c/\c.kd=Z k/\vk m k=O'/\φ n=a
mutual
/-- no container within of a kind that m reads as data -/
noncomputable def Bt(m:Nat):D->Bool
 |.lst a k=>!vk m k&&C6 m a
 |.tup a=>C6 m a
 |.non=>J'
 |.bl _=>J'
 |.int _=>J'
 |.str _=>J'
 |.ty _=>J'
noncomputable def C6(m:Nat):U D->Bool
 |[]=>J'
 |x::a=>Bt m x&&C6 m a
end
section
variable{K:Am}{G:Gh}{s:IS}{m:Nat}{B:Fb}
theorem NW.lv(h:NW m φ G a):LV φ G a:=let⟨n,c,k,b,d,_,e⟩:=h;#[n,c,k,b,d,e]
theorem ss:∀{f:Nat}{x:IV}{d:D},tr m G f x=Z d->MB (un x)=MB d
 |f,.val d,_,h=>by erw[tr]at h;cases h;rfl
 |0,.cel n,_,h=>by erw[tr]at h;cases h
 |f+1,.cel n,d,h=>by
  unfold tr at h
  split at h
  ·split at h<;>cases h;rfl
  ·obtain⟨_,h⟩:=ZX h
   obtain⟨l,_,rfl⟩:=BG.mp h;rfl
  ·cases h
 |f,.no,_,h=>by erw[tr]at h;cases h
 |f,.exc _,_,h=>by erw[tr]at h;cases h
theorem ar{f:Nat}:∀{xs:U IV}{b:U D},Nm (xs.map (tr m G f))=Z b->IQ (xs.map un)=IQ b
 |[],_,h=>by cases h;rfl
 |[x],_,h=>by
  obtain⟨d,r,c,a,rfl⟩:=HK h
  cases a;rfl
 |x::y::r,_,h=>by
  obtain⟨d,l,c,a,rfl⟩:=HK h
  obtain⟨g,i,j,e,rfl⟩:=HK a
  erw[A3,IQ,ss c,ar e]
theorem su{f:Nat}{xs:U IV}{b:U D}{k:Kd}(h:Nm (xs.map (tr m G f))=Z b):CO K k a (xs.map un) vs=CO K k a b vs:=by
 cases k<;>erw[CO,ar h]
theorem Bq.nnv(R:Bq K φ G H){n:Nat}{c:Cl}{k:Kd}(e:G[n]?=Z c)(a:c.kd=Z k)(i:vk m k=J'):¬ NW m φ G (φ n):=λ⟨j,b,d,f,g,l,h⟩=>by
 have:=R.inj j n b c d k f e g a h
 simp_all
set_option tactic.hygienic true in
theorem au(R:Bq K φ G H):∀{f:Nat}{x:IV}{d:D}{v:V},tr m G f x=Z d->A9 K φ G.length (LV φ G) H x v->As K (NW m φ G) H d v
 |f,.val d,_,v,h,q=>by erw[tr]at h;cases h;exact As.nw q λa i=>.inl i.lv
 |0,.cel n,_,_,h,_=>by erw[tr]at h;cases h
 |f,.no,_,_,h,_=>by erw[tr]at h;cases h
 |f,.exc _,_,_,h,_=>by erw[tr]at h;cases h
 |f+1,.cel n,d,v,h,q=>by
  obtain⟨_,rfl⟩:=q
  unfold tr at h
  split at h
  ·next k c e=>
   obtain⟨j,h⟩:=ZX h
   cases h
   obtain⟨b,g,o⟩:=R.cell n _ e
   exact#[_,b,rfl,.of (R.nnv e rfl j) g,o.nw λa i=>.inl i.lv]
  ·next k c e=>
   obtain⟨j,h⟩:=ZX h
   obtain⟨l,p,rfl⟩:=BG.mp h
   obtain⟨b,g,o⟩:=R.cell n _ e
   rw[su p]at g
   refine#[_,b,rfl,.of (R.nnv e rfl j) g,?_]
   have all:∀{c:U IV} {b:U V} {l:U D},Paired (A9 K φ G.length (LV φ G) H) c b->Nm (c.map (tr m G f))=Z l->Ad K (NW m φ G) H l b:=by
    intro c b l h
    induction h generalizing l with
    |nil=>intro e;cases e;exact Ad.nil
    |cons q t s=>
     intro e
     obtain⟨d,r,u,w,rfl⟩:=HK e
     exact Ad.cons (au R u q) (s w)
   exact all o p
  ·cases h
theorem sv{k:Kd}{b:Ac}{ys:U D}{ws:U V}(h:CO K k a xs vs=CO K k' b ys ws):vk m k=vk m k':=by
 cases k<;>cases k'<;>first|rfl|cases h|(cases m with|zero=>rfl|succ j=>cases j<;>rfl)
mutual
theorem As.up(R:Bq K φ G H)(sm:Ai H H'):∀(d:D)(v:V),Bt m d=J'->As K (λa=>NW m φ G a\/B a) H' d v->As K (λa=>LV φ G a\/B a) H' d v
 |.non,_,_,h=>by simpa only[As]using h
 |.bl _,_,_,h=>by simpa only[As]using h
 |.int _,_,_,h=>by simpa only[As]using h
 |.str _,_,_,h=>by simpa only[As]using h
 |.ty _,_,_,h=>by simpa only[As]using h
 |.tup g,v,b,h=>by
  erw[Bt]at b
  erw[As]at h ⊢
  obtain⟨a,f,e,q,r⟩:=h
  exact#[a,f,e,q,Ad.up R sm g f b r]
 |.lst g k,v,b,h=>by
  erw[Bt,Co,Nd]at b
  erw[As]at h ⊢
  obtain⟨a,f,e,q,r⟩:=h
  refine#[a,f,e,?_,Ad.up R sm g f b.2 r]
  rcases q with⟨n,q⟩|q
  ·refine .inl #[λz=>z.elim (λ⟨j,c,l,p,s,t⟩=>n (.inl #[j,c,l,p,s,?_,t])) λz=>n (.inr z),q]
   obtain⟨u,w,z⟩:=R.has p s
   have i:=sm _ _ z
   rw[t]at i
   rcases q with q|⟨o,q⟩
   ·rw[i]at q;rw[sv (Gf q)];exact b.1
   ·rw[i]at q;cases l<;>cases q
  ·exact .inr q
theorem Ad.up(R:Bq K φ G H)(sm:Ai H H'):∀(xs:U D)(vs:U V),C6 m xs=J'->Ad K (λa=>NW m φ G a\/B a) H' xs vs->Ad K (λa=>LV φ G a\/B a) H' xs vs
 |[],_,_,h=>by simpa only[Ad]using h
 |x::xs,vs,b,h=>by
  erw[C6,Co]at b
  erw[Ad]at h ⊢
  obtain⟨v,r,e,q,t⟩:=h
  exact#[v,r,e,As.up R sm x v b.1 q,Ad.up R sm xs r b.2 t]
end
theorem aw{i:Nat}{b:Kd}{a:O Ac}:(vw m s)[i]?≠Z (Sl.own xs b a):=λh=>by
 erw[vw,DQ]at h
 cases e:s.1[i]? with
 |none=>rw[e]at h;cases h
 |some x=>
  rw[e]at h
  unfold Ej at h
  grind
theorem SU(h:Nf (NW m φ s.2) (vw m s) I a):NW m φ s.2 a:=h.elim id λ⟨_,_,_,_,h,_⟩=>(aw h).elim
set_option tactic.hygienic true in
theorem Bb.vw(R:Bb K φ s I H):Bn K (NW m φ s.2) H (vw m s) I H:=by
 refine#[by erw[L2.vw,Bh];exact R.len,Ai.refl H,λa h=>R.g.nh h.lv,λi A e=>?_,λi j p B b E _ _ a h=>(aw h).elim]
 erw[L2.vw,DQ]at e
 obtain⟨x,w,e⟩:=BG.mp e
 subst e
 rcases R.slot i x w with rfl|⟨v,l,q⟩
 ·trivial
 ·cases x with
  |no=>exact q.elim
  |val d=>exact#[v,l,As.nw q λa f=>.inl (SU f).lv]
  |exc c=>obtain⟨a,C,rfl,o,r⟩:=q;exact#[a,C,l,o,r]
  |cel n=>
   cases t:tr m s.2 3 (.cel n)with
   |some d=>
    have z:Ej m s.2 (.cel n)=.val d:=by unfold Ej;dsimp only;rw[t]
    rw[z];exact#[v,l,(au R.g t q).nw λa f=>.inl (SU f)]
   |none=>
    obtain⟨_,rfl⟩:=q
    have z:Ej m s.2 (.cel n)=(match s.2[n]? with
     |some (.dat k p)=>if vk m k=J' then .no else .lent p k
     |_=>.no):=by unfold Ej;dsimp only;rw[t]
    rw[z]
    split
    ·next k p e=>
     split
     ·trivial
     ·next u=>
      have u:vk m k=O':=by simpa using u
      obtain⟨y,o,r⟩:=R.g.cell n _ e
      exact#[_,y,l,#[#[n,_,k,e,rfl,u,rfl],by rw[o];exact λz=>nomatch z],.inl o,r.nw λa f=>.inl (SU f).lv]
    ·trivial
end
@[simp] def jO(m:Nat)(o:O D):O D:=o.bind λd=>if Bt m d=J' then Z d else J
@[simp] def jL(m:Nat)(o:A2):A2:=o.bind λd=>if C6 m d=J' then Z d else J
def jE(m:Nat)(f:AB)(s:IS):O D:=jO m (f (vw m s))
def jG(m:Nat)(f:VE->A2)(s:IS):A2:=jL m (f (vw m s))
def jT(m:Nat)(t:VE->O Bool)(s:IS):O Bool:=t (vw m s)
def tJ(K:Am)(g:IS->O D):TE:=λc H Q=>∃b s d,Bb K b s c H/\g s=Z d/\∀v a,Ai H a->As K (LV b s.2) a d v->Q v a
def Nn(fl:Kd)(K:Am)(g:IS->A2):TE:=λh H Q=>∃e s d,Bb K e s h H/\g s=Z d /\
 ∀a f c,Ai H c->H a=J->c a=Z (CO K fl a d f)->Ad K (λb=>LV e s.2 b\/b=a) c d f->Q (.ref a) c
def No(K:Am)(g:IS->O Bool):TT:=λc H Q=>∃d s b,Bb K d s c H/\g s=Z b/\∀a,Ai H a->Q b a
def EJ(K:Am)(g:IS->O Nat):TE:=λb H Q=>∃a s n,Bb K a s b H/\g s=Z n/\(n<s.2.length->Q (.ref (a n)) H)
def CC(K:Am)(g:IS->O (IV×Gh)):TE:=λc H Q=>∃d s r,Bb K d s c H/\g s=Z r /\
 ∀a v b,Bb K a (s.1,r.2) c b->A9 K a r.2.length (LV a r.2) b r.1 v->Go d s.2 H a r.2 b->Q v b
def Fs(K:Am)(g:IS->O (U IV)):TA:=λe H Q=>∃a s c,Bb K a s e H/\g s=Z c /\
 ∀d b,Ai H b->Paired (A9 K a s.2.length (LV a s.2) b) c d->Q d b
def Pl(K:Am)(g:IS->O IV):TE:=λc H Q=>∃a s x,Bb K a s c H/\g s=Z x /\
 ∀v b,Ai H b->A9 K a s.2.length (LV a s.2) b x v->Q v b
section
variable{e:Expr}{f:AB}{ff:VE->A2}{t:VE->O Bool}{g:IS->O D}
theorem sw(m:Nat)(h:∀M H0,JE X e (tD X.K M H0 f)):JE X e (tJ X.K (jE m f)):=#[λb st i H Q t j=>by
 obtain⟨p,s,d,R,e,q⟩:=j
 obtain⟨r,k,e⟩:=BL.mp e
 split at e
 ·next l=>cases e;exact(h _ _).h b st i H Q t #[_,_,R.vw,k,λv n sm o=>q v n sm ((As.up (B:=λ_=>False) R.g sm _ _ l (o.nw λa c=>.inl (.inl (c.resolve_right id)))).nw λa c=>.inl (.inl c))]
 ·cases e]
theorem ay(m:Nat)(h:∀M H0,JE X e (ED fl X.K M H0 ff)):JE X e (Nn fl X.K (jG m ff)):=#[λc st d H Q w f=>by
 obtain⟨t,s,u,R,e,q⟩:=f
 obtain⟨v,i,e⟩:=BL.mp e
 split at e
 ·next j=>
  cases e
  exact(h _ _).h c st d H Q w #[_,_,R.vw,i,λa k l sm n o p=>q a k l sm n o (Ad.up R.g sm _ _ j (p.nw λb r=>.inl (r.imp .inl id)))]
 ·cases e]
theorem Pm(m:Nat)(h:∀M H0,JT X e (BC X.K M H0 t)):JT X e (No X.K (jT m t)):=#[λa st c H Q g d=>by
 obtain⟨f,s,b,R,e,q⟩:=d
 exact(h _ _).h a st c H Q g #[_,b,R.vw,e,q]]
end
section
variable{K:Am}{G:Gh}{s:IS}
theorem Bb.put(R:Bb K φ s I H){x:IV}{v:V}(i:Nat)(h:A9 K φ s.2.length (LV φ s.2) H x v):Bb K φ (s.1.set i x,s.2) (I.set i (Z v)) H:=by
 refine#[by simp[R.len],R.g,λj y e=>?_]
 by_cases a:i=j
 ·subst a
  have b:i<s.1.length:=by have:=(Cm.mp e).1;simpa using this
  rw[Hx b]at e
  cases e
  exact .inr #[v,by rw[Hx (R.len ▸ b)];rfl,h]
 ·rw[Ep a]at e
  rw[Ep a]
  exact R.slot j y e
@[simp] def DW(φ:Nat->Ac)(n:Nat)(a:Ac):Nat->Ac:=λj=>if j=n then a else φ j
theorem az{c:Cl}{k:Kd}(l:c.kd=Z k){b:Ac}:LV (DW φ G.length a) (G++[c]) b↔LV φ G b\/b=a:=by
 constructor
 ·rintro⟨n,g,h,e,d,f⟩
  rw[J7]at e
  split at e
  ·next i=>
   have:n≠G.length:=BX i
   erw[DW,if_neg this]at f
   exact .inl #[n,g,h,e,d,f]
  ·next i=>
   cases m:n-G.length with
   |zero=>
    have:n=G.length:=by lia
    erw[DW,if_pos this]at f
    exact .inr f.symm
   |succ j=>rw[m]at e;cases e
 ·rintro(⟨n,g,h,e,d,f⟩|rfl)
  ·exact#[n,g,h,HA ((Cm.mp e).1) ▸ e,d,by erw[DW,if_neg (BX ((Cm.mp e).1))];exact f]
  ·exact#[G.length,c,k,by rw[Mw (A5 _),Nat.sub_self];rfl,l,by erw[DW,if_true]]
theorem Go.new(sm:Ai H H'){c:Cl}{k:Kd}(f:H a=J)(g:c.kd=Z k):Go φ G H (DW φ G.length a) (G++[c]) H':=by
 refine#[λn d=>by erw[DW,if_neg (BX d)],by simp,λb o e _=>sm b o e,λb h=>?_]
 grind [az]
theorem Bq.new(R:Bq K φ G H)(sm:Ai H H'){c:Cl}{k:Kd}(l:H a=J)(v:c.kd=Z k)(L:SS K (DW φ G.length a) (G++[c]).length (LV (DW φ G.length a) (G++[c])) H' a c):Bq K (DW φ G.length a) (G++[c]) H':=by
 refine#[λn d e=>?_,λn m w x y A B C f g h=>?_]
 ·rw[J7]at e
  split at e
  ·next b=>
   have q:=R.cell n d e
   have z:DW φ G.length a n=φ n:=by erw[DW,if_neg (BX b)]
   rw[z]
   cases d with
   |dead=>trivial
   |dat k E=>obtain⟨o,f,g⟩:=q;exact#[o,sm _ _ f,Ad.step (Go.new sm l v).st _ _ g]
   |mix k E=>obtain⟨o,f,g⟩:=q;exact#[o,sm _ _ f,Paired.mapP g λ_ _ q=>A9.go (Go.new sm l v) q]
  ·next b=>
   cases p:n-G.length with
   |zero=>
    have b:n=G.length:=by lia
    simp_all
   |succ j=>rw[p]at e;cases e
 ·have at_:∀{n:Nat} {d:Cl} {r:Kd},(G++[c])[n]?=Z d->d.kd=Z r->(n<G.length/\G[n]?=Z d/\DW φ G.length a n≠a)\/n=G.length:=λ{n d r} e s=>by
   rw[J7]at e
   split at e
   ·next b=>
    refine .inl #[b,e,?_]
    erw[DW,if_neg (BX b)]
    intro z
    exact R.nh #[n,d,r,e,s,z] l
   ·next b=>
    cases p:n-G.length with
    |zero=>exact .inr (by lia)
    |succ j=>rw[p]at e;cases e
  rcases at_ B f with⟨b,t,M⟩|b<;>rcases at_ C g with⟨i,u,F⟩|i
  ·erw[DW,if_neg (BX b),if_neg (BX i)]at h
   exact R.inj n m w x y A t u f g h
  ·exact(M (by rw[h,i];erw[DW,if_true])).elim
  ·exact(F (by rw[<- h,b];erw[DW,if_true])).elim
  ·rw[b,i]
theorem sA{n:Nat}{c c':Cl}{k:Kd}(e:G[n]?=Z c)(m:c.kd=Z k)(g:c'.kd=Z k'){b:Ac}:LV φ (G.set n c') b↔LV φ G b:=by
 constructor
 ·rintro⟨j,h,i,f,l,a⟩
  by_cases d:n=j
  ·subst d;exact#[n,c,k,e,m,a]
  ·rw[Ep d]at f;exact#[j,h,i,f,l,a]
 ·rintro⟨j,h,i,f,l,a⟩
  by_cases d:n=j
  ·subst d;exact#[n,c',k',by rw[Hx ((Cm.mp e).1)],g,a]
  ·exact#[j,h,i,by rw[Ep d];exact f,l,a]
theorem Bq.chg(R:Bq K φ G H){n:Nat}{c c':Cl}{k:Kd}{u:HO}(e:G[n]?=Z c)(l:c.kd=Z k)(v:c'.kd=Z k')
  (A:∀L N H',Go φ G H φ (G.set n c') H'->H' (φ n)=Z u->L=(G.set n c').length->N=LV φ (G.set n c')->SS K φ L N H' (φ n) c'):
  Bq K φ (G.set n c') (AN H (φ n) u)/\Go φ G H φ (G.set n c') (AN H (φ n) u):=by
 have go:Go φ G H φ (G.set n c') (AN H (φ n) u):=by
  refine#[λ_ _=>rfl,by simp,λa o x z=>?_,λb B=>.inl ((sA e l v).mp B)]
  have ne:a≠φ n:=by
   rintro rfl
   rcases z with z|z|z
   ·exact z #[n,c,k,e,l,rfl]
   ·exact z
   ·obtain⟨y,r,q⟩:=R.has e l
    rw[x]at q;cases q
    rw[Xe]at z;cases z
  rw[Zq ne];exact x
 refine#[#[λj f d=>?_,λj m f w s t d C g p h=>?_],go]
 ·by_cases i:n=j
  ·subst i
   rw[Hx (Cm.mp e).1]at d
   cases d
   exact A _ _ _ go ZZ rfl rfl
  ·rw[Ep i]at d
   have q:=R.cell j f d
   cases f with
   |dead=>trivial
   |dat t y=>
    obtain⟨r,g,p⟩:=q
    exact#[r,by rw[Zq λz=>i (R.inj j n _ _ _ _ d e rfl l z).symm];exact g,Ad.step go.st _ _ p]
   |mix t y=>
    obtain⟨r,g,p⟩:=q
    exact#[r,by rw[Zq λz=>i (R.inj j n _ _ _ _ d e rfl l z).symm];exact g,Paired.mapP p λ_ _ q=>A9.go go q]
 ·have at_:∀{j:Nat} {f:Cl} {s:Kd},(G.set n c')[j]?=Z f->f.kd=Z s->∃w t,G[j]?=Z w/\w.kd=Z t:=λ{j f s} d g=>by
   by_cases i:n=j
   ·subst i;exact#[c,k,e,l]
   ·rw[Ep i]at d;exact#[f,s,d,g]
  obtain⟨E,l1,S,F⟩:=at_ d g
  obtain⟨M,P,Q,T⟩:=at_ C p
  exact R.inj j m E M l1 P S Q F T h
end
@[simp] def xD(o:O D)(s:IS):O (IV×Gh):=o.map λd=>(.val d,s.2)
@[simp] def xF(fl:Kd)(o:A2)(s:IS):O (IV×Gh):=o.map λl=>(.val (.lst l fl),s.2)
@[simp] noncomputable def xC(fl:Kd)(o:A2)(s:IS):O (IV×Gh):=o.map λl=>(.cel s.2.length,s.2++[.dat fl l])
@[simp] noncomputable def xP(o:O Nat)(s:IS):O (IV×Gh):=o.bind λn=>if n<s.2.length then Z (.cel n,s.2)else J
@[simp] noncomputable def Dl(s:IS)(i:Nat):O Nat:=match s.1[i]? with
  |some (.cel n)=>Z n
  |_=>J
@[simp] def Pn(c f:Ae)(s:IS)(o:O Nat):O Nat:=o.bind λn=>match s.2[n]? with
  |some (.mix (.i ns a) b)=>if a=c then match(ns.zip b).lookup f with
   |some (.cel j)=>Z j
   |_=>J
   else J
  |_=>J
section
variable{e o:Expr}{g:IS->O D}{gf:IS->A2}{g1:IS->O IV}{ga:IS->O (U IV)}
theorem SV(h:JE X e (tJ X.K g)):JE X e (CC X.K λs=>xD (g s) s):=#[h.h.mono λi H Q b=>by
 obtain⟨a,s,r,R,e,q⟩:=b
 obtain⟨d,hd,rfl⟩:=BG.mp e
 exact#[a,s,d,R,hd,λv c sm f=>q a v c (R.same sm) f (Go.same sm)]]
theorem sB(h:JE X e (Nn fl X.K gf)):JE X e (CC X.K λs=>xF fl (gf s) s):=#[h.h.mono λp H Q d=>by
 obtain⟨c,s,r,R,e,q⟩:=d
 obtain⟨l,f,rfl⟩:=BG.mp e
 refine#[c,s,l,R,f,λa i j sm k m n=>q c _ j (R.same sm) ?_ (Go.same sm)]
 exact#[a,i,rfl,.of (λz=>R.g.nh z k) m,n.nw λb o=>.inl (.inl o)]]
theorem sC(h:JE X e (Nn fl X.K gf)):JE X e (CC X.K λs=>xC fl (gf s) s):=#[h.h.mono λp H Q d=>by
 obtain⟨f,s,r,R,e,q⟩:=d
 obtain⟨l,i,rfl⟩:=BG.mp e
 refine#[f,s,l,R,i,λa j k sm c m n=>?_]
 refine q _ _ k (R.go (R.g.new sm c rfl #[j,m,n.nw λb o=>.inl ((az rfl).mp o)]) (Go.new sm c rfl)) #[by simp,by erw[DW,if_true]] (Go.new sm c rfl)]
theorem aA(h:JE X e (EJ X.K gp)):JE X e (CC X.K λs=>xP (gp s) s):=#[h.h.mono λf H Q c=>by
 obtain⟨a,s,r,R,e,q⟩:=c
 obtain⟨n,d,e⟩:=BL.mp e
 split at e
 ·next b=>cases e;exact#[a,s,n,R,d,λb=>q a _ H R #[b,rfl] (Go.same (Ai.refl H))]
 ·cases e]
set_option tactic.hygienic true in
theorem sD{i:Nat}{x:Ae}(b:NV X i x:=by exact EB):JE X (.Name x pos) (EJ X.K λs=>Dl s i):=#[(Gs b).mono λc H Q d=>by
 obtain⟨f,s,n,R,e,q⟩:=d
 dsimp only at e
 unfold Dl at e
 split at e
 ·next j g=>
  cases e
  rcases R.slot i _ g with z|⟨v,a,h,rfl⟩
  ·cases z
  ·refine#[.ref (f n),?_,q h]
   cases z:c[i]? with
   |none=>rw[z]at a;cases a
   |some o=>rw[z]at a;cases a;rfl
 ·cases e]
theorem aB{K:Am}{φ:Nat->Ac}{L:Nat}{N:Fb}{H:Hp}{f:Ae}{x:IV}:∀{ns:U Ae}{xs:U IV}{vs:U V},Paired (A9 K φ L N H) xs vs->(ns.zip xs).lookup f=Z x->∃v,(ns.zip vs).lookup f=Z v/\A9 K φ L N H x v
 |[],_,_,_,e=>by simp at e
 |_::_,[],_,_,e=>by simp at e
 |n::ns,y::b,_,.cons q t,e=>by
  erw[HH,List.lookup_cons]at e ⊢
  cases a:f==n with
  |true=>rw[a]at e;cases e;exact#[_,rfl,q]
  |false=>rw[a]at e;exact aB t e
set_option tactic.hygienic true in
theorem sE{c f:Ae}(i:nsIn X.K BN c=Z (Z (.ref C)))(l:Er X.K C)(m:Bx X.K C f)(p:JE X o (EJ X.K gp))(r:Gk o f X.env (Ao o X.env)=Ao o X.env:=by rfl):JE X (.Attribute o f pos) (EJ X.K λs=>Pn c f s (gp s)):=#[(Wx p.h r).mono λE H Q t=>by
 obtain⟨u,s,n,R,e,q⟩:=t
 obtain⟨j,x,w⟩:=BL.mp e
 split at w
 ·next ns G M y=>
  split at w
  ·next a=>
   subst a
   split at w
   ·next k z=>
    cases w
    refine#[u,s,j,R,x,λF=>?_]
    obtain⟨L,d,A⟩:=R.g.cell j _ y
    obtain⟨v,B,b,rfl⟩:=aB A z
    erw[CO,Jg i]at d
    exact#[_,C,_,_,_,rfl,.inl d,l,m,B,q b]
   ·cases w
  ·cases w
 ·cases w]
theorem aC(h:JE X e (tJ X.K g)):JE X e (Pl X.K λs=>(g s).map .val):=#[h.h.mono λi H Q a=>by
 obtain⟨b,s,r,R,e,q⟩:=a
 obtain⟨d,hd,rfl⟩:=BG.mp e
 exact#[b,s,d,R,hd,λv c sm f=>q v c sm f]]
theorem sF(h:JE X e (EJ X.K gp)):JE X e (Pl X.K λs=>(gp s).map .cel):=#[h.h.mono λf H Q a=>by
 obtain⟨b,s,r,R,e,q⟩:=a
 obtain⟨n,c,rfl⟩:=BG.mp e
 exact#[b,s,n,R,c,λd=>q _ H (Ai.refl H) #[d,rfl]]]
theorem aE:JA X [] (Fs X.K λ_=>Z []):=#[Bm.mono λb H Q a=>by
 obtain⟨c,s,d,R,e,q⟩:=a
 cases e
 exact q [] H (Ai.refl H) .nil]
theorem aF(h:JE X e (Pl X.K g1))(d:JA X es (Fs X.K ga))(f:AE (e::es) X.env=(O',Ao e X.env)::AE es X.env:=by exact Z1 rfl):JA X (e::es) (Fs X.K λs=>Zs (g1 s) (ga s)):=#[(Es h.h d.h f).mono λn H Q g=>by
 obtain⟨a,s,o,R,e,q⟩:=g
 obtain⟨x,r,i,j,rfl⟩:=HK e
 exact#[a,s,x,R,i,λv p b k=>#[a,s,r,R.same b,j,λt l c m=>q _ l (b.trans c) (.cons (k.go (Go.same c)) m)]]]
end
inductive RI where
 |fail|next(s:IS)|brk (s:IS)|cont (s:IS)|ret (x:IV) (G:Gh)
abbrev Ba:=IS->RI
def SW(K:Am)(φ:Nat->Ac)(G:Gh)(H:Hp)(s':IS)(Q:St->Hp->Prop):Prop:=∀a b c,Bb K a s' b c->Go φ G H a s'.2 c->Q b c
def CH(K:Am)(φ:Nat->Ac)(G:Gh)(H:Hp)(D:Ends):RI->Prop
 |.fail=>False
 |.next b=>SW K φ G H b D.nx
 |.brk b=>SW K φ G H b D.bk
 |.cont b=>SW K φ G H b D.ct
 |.ret x c=>∀a v d,Bq K a c d->A9 K a c.length (LV a c) d x v->Go φ G H a c d->D.rt v d
def tK(K:Am)(g:Ba):TS:=λD b H=>∃a s,Bb K a s b H/\CH K a s.2 H D (g s)
set_option backward.eqns.nonrecursive true in
@[simp] def ZN(a:RI)(g:Ba):RI:=match a with
  |.next s=>g s
  |r=>r
@[simp] def Ek(c:O Bool)(a b:RI):RI:=match c with
  |some J'=>a
  |some O'=>b
  |none=>.fail
@[simp] noncomputable def CM(i:Nat)(o:O (IV×Gh))(s:IS):RI:=match o with
  |some r=>.next (s.1.set i r.1,r.2)
  |none=>.fail
@[simp] def DY(o:O (IV×Gh)):RI:=match o with
  |some r=>.ret r.1 r.2
  |none=>.fail
@[simp] def Hg(o:O (IV×Gh))(s:IS):RI:=match o with
  |some r=>.next (s.1,r.2)
  |none=>.fail
noncomputable def GD(i:Nat)(g:Ba):U D->Ba
 |[],s=>.next s
 |d::b,s=>match g (s.1.set i (.val d),s.2)with
  |.next a=>GD i g b a
  |.cont a=>GD i g b a
  |.brk a=>.next a
  |r=>r
@[simp] def Kp(i:Nat)(g:Ba)(o:A2)(s:IS):RI:=match o with
  |some a=>GD i g a s
  |none=>.fail
@[simp] def LL:D->A2
  |.lst a .l=>Z a
  |_=>J
@[simp] def Po:D->A2
  |.int j=>gd (-1000000000<=j/\j<1000000000) (Z (HN 0 j.toNat))
  |_=>J
section
variable{K:Am}{φ1:Nat->Ac}{G G1:Gh}{H1:Hp}{D:Ends}{r:RI}
theorem CH.from(g:Go φ G H φ1 G1 H1)(h:CH K φ G H D r):CH K φ1 G1 H1 D r:=by
 cases r with
 |fail=>exact h
 |next s=>exact λa b c R go=>h a b c R (g.trans go)
 |brk s=>exact λa b c R go=>h a b c R (g.trans go)
 |cont s=>exact λa b c R go=>h a b c R (g.trans go)
 |ret x e=>exact λa v c R d go=>h a v c R d (g.trans go)
end
section
variable{st:Au}{Ax a b:U Au}{g g1 g2:Ba}{gd':IS->O D}{c:Expr}{t:IS->O Bool}{e o:Expr}{x:Ae}
theorem sG:JB X [] (tK X.K λs=>.next s):=#[Fd.mono λD a H ⟨b,s,R,q⟩=>q b a H R (Go.same (Ai.refl H))]
theorem aG(d:JS X st (tK X.K g1))(e:JB X Ax (tK X.K g2)):JB X (st::Ax) (tK X.K λs=>ZN (g1 s) g2):=#[(Wb d.h e.h).mono λD k H f=>by
 obtain⟨g,s,R,q⟩:=f
 dsimp only at q
 refine#[g,s,R,?_]
 cases a:g1 s with
 |fail=>rw[a]at q;exact q
 |next b=>rw[a]at q;exact λc i l j go=>#[c,b,j,CH.from go q]
 |brk b=>rw[a]at q;exact q
 |cont b=>rw[a]at q;exact q
 |ret x m=>rw[a]at q;exact q]
theorem sH:JS X st (tK X.K λ_=>.fail):=#[Gg.mono λD a H ⟨b,s,R,q⟩=>q]
theorem sI(f:JT X c (No X.K t))(g:JB X a (tK X.K g1))(i:JB X b (tK X.K g2)):JS X (.If c a b pos) (tK X.K λs=>Ek (t s) (g1 s) (g2 s)):=#[(Om f.h g.h i.h).mono λD l H j=>by
 obtain⟨d,s,R,q⟩:=j
 dsimp only at q
 cases e:t s with
 |none=>rw[e]at q;exact q.elim
 |some k=>
  rw[e]at q
  refine#[d,s,k,R,e,λm sm=>?_]
  cases k with
  |true=>exact IN #[d,s,R.same sm,CH.from (Go.same sm) q]
  |false=>exact IP #[d,s,R.same sm,CH.from (Go.same sm) q]]
theorem aH{i:Nat}(c:X.N.Nodup)(d:JE X e (CC X.K gx))(f:X.N[i]?=Z x:=by rfl)(g:Loc X.env.scope x:=by first|exact .inl rfl|exact .inr rfl)(j:Dv e (Z (.Name x pos')) pos.line X.env=AC O':=by rfl)(k:X.fn x=J'\/X.env.scope.names.lookup x=Z .local:=by first|exact .inl rfl|exact .inr rfl|assumption):
  JS X (.Assign [.Name x pos'] e pos) (tK X.K λs=>CM i (gx s) s):=#[(K3 c f g d.h j k).mono λD t H l=>by
 obtain⟨m,s,R,q⟩:=l
 dsimp only at q
 cases a:gx s with
 |none=>rw[a]at q;exact q.elim
 |some r=>rw[a]at q;exact#[m,s,r,R,a,λb v n o p go=>q b _ n (o.put i p) go]]
theorem sJ(c:JE X e (CC X.K gx)):JS X (.Return (Z e) pos) (tK X.K λs=>DY (gx s)):=#[(Ol c.h).mono λD l H d=>by
 obtain⟨f,s,R,q⟩:=d
 dsimp only at q
 cases a:gx s with
 |none=>rw[a]at q;exact q.elim
 |some r=>rw[a]at q;exact#[f,s,r,R,a,λb v i j k go=>q b v i j.g k go]]
theorem sK(c:JE X e (CC X.K gx))(d:Dv e J pos.line X.env=AC O':=by rfl):JS X (.Expr e pos) (tK X.K λs=>Hg (gx s) s):=#[(Rf c.h d).mono λD k H f=>by
 obtain⟨g,s,R,q⟩:=f
 dsimp only at q
 cases a:gx s with
 |none=>rw[a]at q;exact q.elim
 |some r=>rw[a]at q;exact#[g,s,r,R,a,λb v i j l go=>q b _ i j go]]
def SX(K:Am)(f:IS->A2):TI:=λd H R=>∃b s c,Bb K b s d H/\f s=Z c/\∀e a,Ai H a->Lj K (λ_=>False) (LV b s.2) a e c->R e a
theorem sL{t:Expr}(h:JE X e (tJ X.K gd')):JI X t e (SX X.K λs=>(gd' s).bind LL):=#[(Wg h.h).mono λG H N u=>by
 obtain⟨m,s,F,R,e,q⟩:=u
 obtain⟨d,hd,e⟩:=BL.mp e
 unfold LL at e
 split at e
 ·cases e
  refine#[m,s,_,R,hd,λv n A B=>?_]
  obtain⟨a,c,C,f,o⟩:=B
  have p:∀j g,Step (λ_=>False) (LV m s.2) j n g->BF X.K g a c:=λj g S=>by
   rcases f with⟨E,f⟩|⟨L,z,f⟩
   ·exact .inl (f.step S (.inl E))
   ·cases z;exact f.sq
  refine#[a,C,#[c,p _ _ Step.refl],q _ n A λj g S i=>?_]
  have b:=p _ _ S
  refine#[λd k=>?_,λk=>#[c,b,by rw[k,o.length];exact A5 _]]
  obtain⟨w,r,l⟩:=(Ad.step S _ _ o).get k
  refine#[#[c,w,b,r],λx M y=>?_]
  obtain⟨rfl,y⟩:=y
  have:=y c b
  rw[r]at this
  cases this
  exact#[Ai.refl _,l]
 ·cases e]
set_option tactic.hygienic true in
theorem sM{c a:Expr}{p:Az}(f:Gl X "range")(g:X.mg "range"=J)(i:JE X a (tJ X.K gd'))(k:AE [a] X.env=[(O',Ao a X.env)]:=by rfl)(b:AE (a::[]) X.env=(O',Ao a X.env)::AE [] X.env:=by exact Z1 rfl):JI X c (.Call (.Name "range" p) [a] [] pos) (SX X.K λs=>(gd' s).bind Po):=
 #[(Wi f g (aF (aC i) aE b).h k).mono λu H v l=>by
   obtain⟨m,s,w,R,e,q⟩:=l
   obtain⟨d,hd,e⟩:=BL.mp e
   unfold Po at e
   split at e
   ·next j=>
    obtain⟨x,e⟩:=RV e
    cases e
    refine#[m,s,[.val (.int j)],R,by erw[hd,J2,Zs,De],λy n sm o=>?_]
    cases o with
    |cons r t=>
     cases t
     subst r
     exact#[j,rfl,by lia,by lia,q _ n sm RU]
   ·cases e]
theorem sN{p:U Au}{f:IS->A2}{i:Nat}{tp:Az}(hp:PassesOwn (Af X.prog X.w) X.A X.env X.xe)(hc:X.calm=J')(hi:JI X (.Name x tp) iter (SX X.K f))(hN:X.N.Nodup)(hb:JB X p (tK X.K g))
  (P:X.N[i]?=Z x:=by rfl) (hx:Loc X.env.scope x:=by first|exact .inl rfl|exact .inr rfl) (hf:X.fn x=J'\/X.env.scope.names.lookup x=Z .local:=by first|exact .inl rfl|exact .inr rfl|assumption)
  (hs:∀x,EU iter X.env x=AC x:=by intro _;rfl):JS X (.For (.Name x tp) iter p [] pos) (tK X.K λs=>Kp i g (f s) s):=#[(Wl hp hc hi.h (Wc hN P hx hf) hb.h hs).mono λD' I H z0=>by
 obtain⟨L,s,R,q⟩:=z0
 dsimp only at q
 cases r:f s with
 |none=>rw[r]at q;exact q.elim
 |some j=>
  rw[r]at q
  refine#[L,s,j,R,r,λF Q s1 ok=>?_]
  refine#[λn m t u=>m=j.length-n/\n<=j.length/\∃a c,Bb X.K a c t u/\Go L s.2 Q a c.2 u/\CH X.K a c.2 u D' (GD i g (j.drop n) c),#[j.length,by simp,F2 _,L,s,R.same s1,Go.same (Ai.refl Q),CH.from (Go.same s1) q],?_]
  rintro n m t u ⟨rfl,hle,a,c,Rn,T,k⟩
  obtain⟨S,Y⟩:=ok _ _ T.st n
  by_cases l:n<j.length
  ·obtain⟨go,y⟩:=S j[n] (B8 l)
   rw[OD l]at k
   erw[GD]at k
   refine .inr #[go,λG B=>n+1<=j.length/\∃a c,Bb X.K a c G B/\Go L s.2 Q a c.2 B/\CH X.K a c.2 B D' (GD i g (j.drop (n+1)) c),λG B z=>#[j.length-(n+1),by exact Nat.sub_succ_lt_self j.length n l,rfl,z],λx B yl=>?_]
   obtain⟨s3,hd⟩:=y x B yl
   have E:Go a c.2 u a c.2 B:=Go.same s3
   refine#[a,(c.1.set i (.val j[n]),c.2),(Rn.same s3).put i hd,?_]
   cases o:g (c.1.set i (.val j[n]),c.2)with
   |fail=>rw[o]at k;exact k
   |next M=>rw[o]at k;exact λd C W R2 b=>#[l,d,M,R2,T.trans (E.trans b),CH.from (E.trans b) k]
   |cont M=>rw[o]at k;exact λd C W R2 b=>#[l,d,M,R2,T.trans (E.trans b),CH.from (E.trans b) k]
   |brk M=>rw[o]at k;exact λd C W R2 b=>k d C W R2 (E.trans b)
   |ret x G'=>rw[o]at k;exact λd v W R2 hv b=>k d v W R2 hv (E.trans b)
  ·have e:n=j.length:=by lia
   subst e
   rw[OC (A5 _)]at k
   exact .inl #[Y rfl,k a t u Rn (Go.same (Ai.refl u))]]
end
abbrev FI:=U IV->Gh->O (IV×Gh)
def CV(K:Am)(F:FI):Sp:=λe H Q _=>∃b G d r,Bq K b G H/\Paired (A9 K b G.length (LV b G) H) d e/\F d G=Z r /\
 ∀a v c,Bq K a r.2 c->A9 K a r.2.length (LV a r.2) c r.1 v->Go b G H a r.2 c->Q v c
noncomputable def El(a n:Nat)(g:Ba):FI:=λb G=>if b.length=a then
  match g (b++C9 (n-a) .no,G)with
  |.ret x c=>Z (x,c)
  |.next s=>Z (.val .non,s.2)
  |_=>J
 else J
theorem fi{a n:Nat}{g:Ba}{xs:U IV}{G:Gh}{r:RI}(h:xs.length=a):g (xs++C9 (n-a) .no,G)=r->El a n g xs G=match r with
  |.ret x b=>Z (x,b)
  |.next s=>Z (.val .non,s.2)
  |_=>J:=λe=>by subst h e;exact if_pos rfl
theorem aI{K:Am}{G:Gh}{xs:U IV}(R:Bq K φ G H)(h:Paired (A9 K φ G.length (LV φ G) H) xs vs)(n:Nat):Bb K φ (xs++C9 n .no,G) (vs.map Z++C9 n J) H:=by
 refine#[by simp[Jh h],R,λi x e=>?_]
 rw[J7]at e
 split at e
 ·next a=>
  obtain⟨v,b,q⟩:=Y8 h e
  exact .inr #[v,by rw[HA (by simpa[<- (Jh h)]using a),DQ,b];rfl,q]
 ·rw[ID]at e
  obtain⟨_,e⟩:=ZX e
  cases e;exact .inl rfl
section
variable{P:AI}{w:Ah}{K:Am}{mg:Bl}{base:Ak}{x qual nm:Ae}{st:Au}{f fn:Ac}{fd:B6}{N:U Ae}{k:Nat}{g g0:Ba}
theorem aJ(F:HE K x qual st f fd)(S:Z8 N ps (Zf st))(t:ps.length<=N.length)
  (u:∀(b:Aa) (A:Ag) (outer:U Env) (s:Ab) (H:Hp) (E:XK),AF k (A.deeper (A0 qual (Zf st) s.heap.objs.size f b)) ->
   JB (CK Bg P w K mg base N qual (Zf st) f b A outer s H E).nox (ZI st) (tK K g)):AQ P w K mg base Bg (k+1) f fd ps (CV K (El ps.length N.length g)):=by
 refine F.ok S (λi H Q E h=>?_) (λb A outer s H i Q E y h=>?_)
 ·obtain⟨n,G,o,r,R,e,a,q⟩:=h
  obtain⟨j,a⟩:=ZX a
  rw[<- Jh e];exact j
 ·obtain⟨n,G,o,r,R,e,a,q⟩:=h
  refine#[_,(u b A outer s H E y).h,?_]
  obtain⟨j,a⟩:=ZX a
  rw[show FE N i=i.map Z++C9 (N.length-ps.length) J by unfold FE;rw[<- Jh e,j]]
  refine#[n,_,aI R e (N.length-ps.length),?_]
  cases d:g (o++C9 (N.length-ps.length) .no,G)with
  |fail=>rw[d]at a;cases a
  |next p=>rw[d]at a;cases a;exact λc z l m go=>q c .non l m.g (by erw[A9,As]) go
  |brk p=>rw[d]at a;cases a
  |cont p=>rw[d]at a;cases a
  |ret x C=>rw[d]at a;cases a;exact λc v l m B go=>q c v l m B go
theorem sO(D:DI K mg nm st ps fn fd)(S:Z8 N ps (Zf st))
  (c:∀(a:Aa) (A:Ag) (outer:U Env) (s:Ab) (H:Hp) (E:XK),AF k (A.deeper (A0 nm (Zf st) s.heap.objs.size fn a)) ->
   JB (CK Bg P w K mg base N nm (Zf st) fn a A outer s H E).nox (ZI st) (tK K g0)) (e:g0=g:=by rfl) (b:ps.length<=N.length:=by ext):AQ P w K mg base Bg (k+1) fn fd ps (CV K (El ps.length N.length g)):=aJ D.F S b (e ▸ c)
theorem sP(D:MI K C nm qual st ps fn fd)(S:Z8 N ps (Zf st))
  (c:∀(a:Aa) (A:Ag) (outer:U Env) (s:Ab) (H:Hp) (E:XK),AF k (A.deeper (A0 qual (Zf st) s.heap.objs.size fn a)) ->
   JB (CK Bg P w K mg base N qual (Zf st) fn a A outer s H E).nox (ZI st) (tK K g0)) (e:g0=g:=by rfl) (b:ps.length<=N.length:=by ext):AQ P w K mg base Bg (k+1) fn fd ps (CV K (El ps.length N.length g)):=aJ D.F S b (e ▸ c)
end
@[simp] def Hh(F:FI)(o:O (U IV))(s:IS):O (IV×Gh):=o.bind λa=>F a s.2
@[simp] noncomputable def DD(c m:Ae):Cl->Bool
  |.dat (.i ns a) _=>decide (a=c)&&!ns.contains m
  |.mix (.i ns a) _=>decide (a=c)&&!ns.contains m
  |_=>O'
@[simp] def EL(c m:Ae)(F:FI)(p:O Nat)(o:O (U IV))(s:IS):O (IV×Gh):=p.bind λn=>match s.2[n]? with
  |some cl=>if DD c m cl=J'/\n<s.2.length then o.bind λa=>F (.cel n::a) s.2 else J
  |none=>J
@[simp] noncomputable def Pp(c:Ae)(F:FI)(o:O (U IV))(s:IS):O (IV×Gh):=o.bind λa=>(F (.cel s.2.length::a) (s.2++[.mix (.i [] c) []])).bind λr=>match r.1 with
  |.val .non=>Z (.cel s.2.length,r.2)
  |_=>J
@[simp] def GF(c f:Ae)(p:IS->O Nat)(o:O (IV×Gh))(s:IS):RI:=match o with
  |some r=>match p (s.1,r.2)with
   |some n=>match r.2[n]? with
    |some (.mix (.i ns b) a)=>if b=c/\ns.length=a.length/\ns.length<1000 then .next (s.1,r.2.set n (.mix (.i (putN f ns) c) (DM f r.1 ns a)))else .fail
    |_=>.fail
   |none=>.fail
  |none=>.fail
section
variable{e o:Expr}{ga:IS->O (U IV)}{p:Az}{F:FI}{k n:Nat}{fn:Ac}{fd:B6}{x c m f:Ae}{E:XK}
theorem sQ(G:AQ X.prog X.w X.K X.mg X.base CX k fn fd ps (CV X.K F))(j:AF k X.A)(l:Gl X x)(m:X.mg x=Z (.ref fn))(n:Hz X.K (.ref fn)=J')(o:Binds X.K fd ps [])(a:EY CX X E)
  (t:JA X (e::es) (Fs X.K ga)) (hz:CA X x e es pos:=by exact Fj):
  JE X (.Call (.Name x p) (e::es) [] pos) (CC X.K λs=>Hh F (ga s) s):=#[(Ov G j l m n o .nil a t.h hz.d hz.s hz.p).mono λN H Q u=>by
 obtain⟨f,s,r,R,e,q⟩:=u
 obtain⟨i,a,y⟩:=BL.mp e
 exact#[f,s,i,R,a,λM L sm z=>#[f,s.2,i,r,R.g.same sm,by rw[Eb];exact z,y,λb v B C c go=>q b v B (R.go C ((Go.same sm).trans go)) c ((Go.same sm).trans go)]]]
theorem aK{K:Am}{G:Gh}{cl:Cl}(b:nsIn K BN c=Z (Z (.ref C)))(R:Bq K φ G H)(e:G[n]?=Z cl)(h:DD c m cl=J'):∃d fs,H (φ n)=Z (.ins C d fs)/\fs.lookup m=J:=by
 have q:=R.cell n cl e
 unfold DD at h
 split at h
 ·erw[Co,decide_eq_true_eq,Nd]at h
  obtain⟨rfl,h⟩:=h
  obtain⟨f,a,_⟩:=q
  erw[CO,Jg b]at a
  exact#[_,_,a,Nh h]
 ·erw[Co,decide_eq_true_eq,Nd]at h
  obtain⟨rfl,h⟩:=h
  obtain⟨f,a,_⟩:=q
  erw[CO,Jg b]at a
  exact#[_,_,a,Nh h]
 ·cases h
theorem aL(i:nsIn X.K BN c=Z (Z (.ref C))){Q:VK}(h:CC X.K (λs=>EL c m F (gp s) (ga s) s) I H Q):JV C m (CV X.K F) [] E (EJ X.K gp) (Fs X.K ga) I H Q:=by
 obtain⟨a,s,r,R,e,q⟩:=h
 obtain⟨n,j,e⟩:=BL.mp e
 split at e
 ·next cl k=>
  obtain⟨l,e⟩:=ZX e
  obtain⟨f,o,p⟩:=BL.mp e
  refine#[a,s,n,R,j,λt=>?_]
  obtain⟨u,w,x,y⟩:=aK i R.g k l.1
  refine#[a n,u,w,rfl,.inl x,y,a,s,f,R,o,λG L sm z=>#[a,s.2,.cel n::f,r,R.g.same sm,.cons #[t,rfl] (by rw[Eb];exact z),p,λb v A B d go=>q b v A (R.go B ((Go.same sm).trans go)) d ((Go.same sm).trans go)]]
 ·cases e
section
variable(hC:nsIn X.K BN c=Z (Z (.ref C)))(cl:Er X.K C)(hm:IA X.K C m fn)(G:AQ X.prog X.w X.K X.mg X.base CX k fn fd ps (CV X.K F))(hr:AF k X.A)(hb:Binds X.K fd ps [])(hx:EY CX X E)(ho:JE X o (EJ X.K gp))
include hC cl hm G hr hb hx ho
theorem sR(d:JA X (e::es) (Fs X.K ga))
  (a:AE (e::es) X.env=(O',Ao e X.env)::AE es X.env:=by exact Z1 rfl) (b:(Ay pos (AE es X.env)).any (·.1)=O':=by rfl)
  (f:ME X o m (e::es) pl apos pos:=by rfl):
  JE X (.Call (.Attribute o m apos) (e::es) [] pos) (CC X.K λs=>EL c m F (gp s) (ga s) s):=#[(lC ho.h cl hm G hr hb .nil hx d.h a b f).mono λ_ _ _ h=>aL hC h]
theorem sS(b:ME X o m [] pl apos pos:=by rfl):
  JE X (.Call (.Attribute o m apos) [] [] pos) (CC X.K λs=>EL c m F (gp s) (Z []) s):=#[(WA ho.h cl hm G hr hb .nil hx b).mono λu H Q h=>by
 obtain⟨d,s,n,R,e,q⟩:=aL (E:=E) hC h
 refine#[d,s,n,R,e,λf=>?_]
 obtain⟨a,g,i,j,k,l,p,v,w,R2,r,t⟩:=q f
 cases r
 exact#[a,g,i,j,k,l,t [] H (Ai.refl H) .nil]]
end
theorem sT(L:nsIn X.K BN c=Z (Z (.ref C)))(M:Mk X.K C fn)(G:AQ X.prog X.w X.K X.mg X.base CX n fn fd ps (CV X.K F))(N:AF (n+1) X.A)(S:Gl X x)(T:X.mg x=Z (.ref C))(W:Binds X.K fd ps [])(Y:EY CX X E)
  (f:JA X (e::es) (Fs X.K ga)) (hz:CA X x e es pos:=by exact Fj):
  JE X (.Call (.Name x p) (e::es) [] pos) (CC X.K λs=>Pp c F (ga s) s):=#[(lE M G N S T W .nil Y f.h hz.d hz.s hz.p).mono λI H Q z0=>by
 obtain⟨φ,s,r,R,e,q⟩:=z0
 obtain⟨u,l,e⟩:=BL.mp e
 obtain⟨⟨y,G'⟩,hF,e⟩:=BL.mp e
 dsimp only at e
 split at e
 ·cases e
  refine#[φ,s,u,R,l,λvs z B hv a k f hd m=>?_]
  generalize j:AN (AN z k (.own a)) a (.ins C k [])=zA
  have sm:Ai z zA:=j ▸ (ZY hd).trans (ZY (Zq (show a≠k by lia) ▸ f))
  refine#[_,_,.cel s.2.length::u,_,((R.g.same B).new sm f (c:=.mix (.i [] c) []) rfl #[[],by rw[show zA a=Z (.ins C k []) by rw[<- j,ZZ],m];erw[CO,Jg L,Nat.add_sub_cancel];rfl,.nil]),.cons #[by simp,by erw[DW,if_true]] (by rw[Eb];exact Paired.mapP hv λ_ _ q=>A9.go (Go.new sm f rfl) q),hF,λo v H3 R3 t b=>?_]
  have P:=((Go.same B).trans (Go.new sm f rfl)).trans b
  exact#[t,q o _ H3 (R.go R3 P) #[BE (by simp) b.len,by rw[b.ext _ (by simp)];erw[DW,if_true]] P]
 ·cases e]
theorem sU{K:Am}{L:Nat}{N:Fb}{y:IV}{v:V}{ns:U Ae}{xs:U IV}(a:ns.length=xs.length)(h:Paired (A9 K φ L N H) xs vs)(q:A9 K φ L N H y v):Paired (A9 K φ L N H) (DM f y ns xs) (DM f v ns vs):=by
 induction h generalizing ns with
 |nil=>cases ns with
  |nil=>exact .cons q .nil
  |cons=>cases a
 |cons h t b=>cases ns with
  |nil=>cases a
  |cons=>
   erw[DM]
   split
   ·exact .cons q t
   ·exact .cons h (b (by simpa using a))
set_option tactic.hygienic true in
theorem sV(t:nsIn X.K BN c=Z (Z (.ref C)))(cl:Er X.K C)(A:Bx X.K C f)(B:JE X o (EJ X.K gp))(E:JE X e (CC X.K gx))
  (G:Dv e (Z (.Attribute o f pos')) pos.line X.env=AC O':=by rfl):JS X (.Assign [.Attribute o f pos'] e pos) (tK X.K λs=>GF c f gp (gx s) s):=
 #[(lq B.h E.h G).mono λD W H F=>by
   obtain⟨M,s,R,q⟩:=F
   unfold GF at q
   dsimp only at q
   split at q
   ·next r P=>
    refine#[M,s,r,R,P,λa v l j Q go=>?_]
    split at q
    ·next n m=>
     refine#[a,(s.1,r.2),n,j,m,λhl=>?_]
     split at q
     ·next ns k p w=>
      split at q
      ·next T=>
       obtain⟨rfl,x,h2⟩:=T
       obtain⟨b,S,y⟩:=j.g.cell n _ w
       obtain⟨R2,d⟩:=j.g.chg (u:=CO X.K (.i (putN f ns) k) (a n) ((DM f r.1 ns p).map un) (DM f v ns b)) (c':=.mix (.i (putN f ns) k) (DM f r.1 ns p)) w rfl rfl
        (λL N H' z Y hL hN=>by subst hL hN;exact#[_,Y,sU x (Paired.mapP y λ_ _ q=>A9.go z q) (A9.go z Q)])
       refine#[a n,C,a n-1,ns.zip b,rfl,(show l (a n)=Z (.ins C (a n-1) (ns.zip b)) by rw[S];erw[CO,Jg t]),cl,A,by rw[List.length_zip];lia,?_]
       have ew:AN l (a n) (CO X.K (.i (putN f ns) k) (a n) ((DM f r.1 ns p).map un) (DM f v ns b))=AN l (a n) (.ins C (a n-1) (EA f v (ns.zip b))):=by
        rw[Y9 (x.trans (Jh y))];erw[CO,Jg t]
       rw[<- ew]
       exact q a W _ (j.go R2 d) (go.trans d)
      ·exact q.elim
     ·exact q.elim
    ·exact q.elim
   ·exact q.elim]
end
structure BO(X:Cx)(o:Expr)(m:Ae)(apos:Az)(e:Expr)(cpos:Az):Prop where
 b:Gk o m X.env (Ao o X.env)=Ao o X.env
 f:((Ay cpos (AE [e] X.env)).all (λx=>!x.1)&&(Gm cpos (Gn [] X.env)).all (λx=>x.1.isSome)&&decide ([e].length+([]:List Et).length+(if([]:List Et).isEmpty then 0 else 1)<30))=J'
 l:(apos.endLine==cpos.line)=J'
 s:AE [e] X.env=(O',Ao e X.env)::AE [] X.env
 p:(Ay cpos (AE [] X.env)).any (·.1)=O'
theorem aM{o:Expr}{m:Ae}{c:Az}{e:Expr}{a:Az}(b:Gk o m X.env (Ao o X.env)=Ao o X.env:=by rfl)
  (f:((Ay a (AE [e] X.env)).all (λx=>!x.1)&&(Gm a (Gn [] X.env)).all (λx=>x.1.isSome)&&decide ([e].length+([]:U Et).length+(if([]:U Et).isEmpty then 0 else 1)<30))=J':=by rfl)
  (l:(c.endLine==a.line)=J':=by rfl) (s:AE [e] X.env=(O',Ao e X.env)::AE [] X.env:=by exact Z1 rfl) (p:(Ay a (AE [] X.env)).any (·.1)=O':=by rfl):BO X o m c e a:=#[b,f,l,s,p]
@[simp] noncomputable def Pq(p:O Nat)(o:O D)(s:IS):O (IV×Gh):=match p,o with
  |some n,Z d=>match s.2[n]? with
   |some (.dat .l a)=>if a.length<AA then Z (.val .non,s.2.set n (.dat .l (a++[d])))else J
   |_=>J
  |_,_=>J
@[simp] def SY(p:O Nat)(o:O D)(s:IS):O (IV×Gh):=match p,o with
  |some n,Z d=>match s.2[n]? with
   |some (.dat .l a)=>if AT ZT d&&a.all (AT ZT)then(a.findIdx? λz=>AG z d).map λj=>(.val .non,s.2.set n (.dat .l (a.eraseIdx j)))else J
   |_=>J
  |_,_=>J
section
variable{e o ei:Expr}{g gi:IS->O D}{tpos:Az}
theorem S0{K:Am}{G:Gh}{n:Nat}{k:Kd}{ys:U D}{ws:U V}(R:Bq K φ G H)(e:G[n]?=Z (.dat k xs))(h:Ad K (LV φ G) H ys ws):
  Bq K φ (G.set n (.dat k' ys)) (AN H (φ n) (CO K k' (φ n) ys ws))/\Go φ G H φ (G.set n (.dat k' ys)) (AN H (φ n) (CO K k' (φ n) ys ws)):=
 R.chg e rfl rfl λL N f a b c d=>by subst c d;exact#[ws,b,Ad.step a.st _ _ h]
set_option tactic.hygienic true in
theorem sW(t:JE X o (EJ X.K gp))(u:JE X e (tJ X.K g))(hz:BO X o "append" apos e cpos:=by exact aM):
  JE X (.Call (.Attribute o "append" apos) [e] [] cpos) (CC X.K λs=>Pq (gp s) (g s) s):=
 #[(J0 RS PySem.F.slot_list_append PySem.F.type_list_append W0 t.h (Es u.h Bm hz.s) hz.b hz.f hz.l hz.s hz.p).mono λA H Q w=>by
   obtain⟨a,s,r,R,ex,q⟩:=w
   dsimp only at ex
   unfold Pq at ex
   split at ex
   ·next n d x hd=>
    split at ex
    ·next B c=>
     obtain⟨y,ex⟩:=ZX ex
     cases ex
     obtain⟨i,j,k⟩:=R.g.cell n _ c
     refine#[a,s,n,R,x,λ_=>#[.inl #[rfl,i,.inl (.inl j)],a,s,d,R,hd,λv C sm z=>?_]]
     obtain⟨R2,m⟩:=S0 (k':=.l) (R.g.same sm) c ((k.same sm).append (Ad.cons z Ad.nil))
     exact#[a n,i,v,rfl,rfl,sm _ _ j,k.length ▸ y,q a _ _ (R.go R2 ((Go.same sm).trans m)) (by erw[A9,As]) ((Go.same sm).trans m)]
    ·cases ex
   ·cases ex]
set_option tactic.hygienic true in
theorem sX(w:X.A.units+64<Aq)(x:JE X o (EJ X.K gp))(y:JE X e (tJ X.K g))(hz:BO X o "remove" apos e cpos:=by exact aM):
  JE X (.Call (.Attribute o "remove" apos) [e] [] cpos) (CC X.K λs=>SY (gp s) (g s) s):=
 #[(J0 RS PySem.F.slot_list_remove PySem.F.type_list_remove (rE w) x.h (Es y.h Bm hz.s) hz.b hz.f hz.l hz.s hz.p).mono λM H Q z=>by
   obtain⟨a,s,r,R,ex,q⟩:=z
   dsimp only at ex
   unfold SY at ex
   split at ex
   ·next n d B hd=>
    split at ex
    ·next C i=>
     obtain⟨c,ex⟩:=ZX ex
     rw[Co]at c
     obtain⟨j,E,rfl⟩:=BG.mp ex
     obtain⟨k,m,t⟩:=R.g.cell n _ i
     refine#[a,s,n,R,B,λ_=>#[.inl #[rfl,k,.inl (.inl m)],a,s,d,R,hd,λv L sm G=>?_]]
     obtain⟨R2,u⟩:=S0 (k':=.l) (R.g.same sm) i ((t.same sm).erase j)
     exact#[a n,k,v,_,d,C,j,rfl,rfl,sm _ _ m,t.same sm,G.p,c.1,c.2,E,q a _ _ (R.go R2 ((Go.same sm).trans u)) (by erw[A9,As]) ((Go.same sm).trans u)]
    ·cases ex
   ·cases ex]
@[simp] def Pr(p:IS->O Nat)(ok b:O D)(s:IS):RI:=match p s,ok,b with
  |some n,Z y,Z d=>match s.2[n]? with
   |some (.dat .d c)=>match Eh c,Dg y with
    |some a,Z k=>if Dh k a&&decide (a.length<AA)then .next (s.1,s.2.set n (.dat .d (Zb (ZR a k d))))else .fail
    |_,_=>.fail
   |_=>.fail
  |_,_,_=>.fail
set_option tactic.hygienic true in
theorem sY(E:X.A.units+64<Aq)(W:JE X o (EJ X.K gp))(F:JE X ei (tJ X.K gi))(L:JE X e (tJ X.K g))
  (M:∀v,assign (.Subscript o ei tpos) X.env v=(do
   let f <- D8 [v] (Ao o X.env)
   let j <- D8 [v,f] (Ao ei X.env)
   standAt tpos
   D8 [v,f,j] (setItem f j v)
   release [v,f,j] []):=by intro _;rfl)
  (N:swapsWithSole [.Subscript o ei tpos] e pos.line X.env=AC O':=by rfl) (c:swappedStores [.Subscript o ei tpos] e X.env=AC J:=by rfl)
  (P:(F1 [.Subscript o ei tpos] X.env).map (·.2)=[assign (.Subscript o ei tpos) X.env]:=by rfl):
  JS X (.Assign [.Subscript o ei tpos] e pos) (tK X.K λs=>Pr gp (gi s) (g s) s):=#[(Rj L.h (Rh W.h F.h (Yr E) M) N c P).mono λD' Q H T=>by
 obtain⟨b,s,R,q⟩:=T
 unfold Pr at q
 dsimp only at q
 split at q
 ·next n y d S Y hd=>
  split at q
  ·next xs u=>
   split at q
   ·next kvs k l hk=>
    split at q
    ·next m=>
     rw[Co,decide_eq_true_eq]at m
     refine#[b,s,d,R,hd,λv H1 i hv=>#[b,s,n,R.same i,S,λ_=>#[b,s,y,R.same i,Y,λw H2 r c=>?_]]]
     have ex:=GB l
     subst ex
     have R2:=(R.same i).same r
     obtain⟨vs,z3,z4⟩:=R2.g.cell n _ u
     obtain⟨t,rfl,a⟩:=M5 z4
     rw[IZ hk]at c
     have x:=a.put (k:=k) (HX c.p) (hv.same r)
     obtain⟨z,B⟩:=S0 (k':=.d) R2.g u x.flat
     rw[Kf x]at z B
     have C:=(Go.same (φ:=b) (G:=s.2) (i.trans r)).trans B
     refine#[b n,t,k,rfl,?_,a.keys,a.hom m.1,I0 (HX c.p),Gc a ▸ m.2,q b Q _ (R.go z C) C]
     rw[<- Kf a]
     exact z3
    ·exact q.elim
   ·exact q.elim
  ·exact q.elim
 ·exact q.elim]
end
theorem sZ{P:AI}{w:Ah}{K:Am}{mg:Bl}{base:Ak}{k:Nat}{f:Ac}{fd:B6}{F:FI}(G:AQ P w K mg base Bg k f fd ["_law_script"] (CV K F))
  (h:∀ns:U Int,ns.length<=63->∃G',F [.val (.lst (ns.map D.int))] []=Z (.val (.bl J'),G')):AQ P w K mg base Bg k f fd ["_law_script"] (MA K):=
 G.imp λp H Q E d=>by
  obtain⟨a,ns,e,g,i,q⟩:=d
  obtain⟨G',j⟩:=h ns i
  subst e
  refine#[λ_=>0,[],[.val (.lst (ns.map D.int))],_,#[λn c e=>by simp at e,λn m c r k s e=>by simp at e],.cons ?_ .nil,j,λl v o t b go=>?_]
  ·erw[A9,As]
   exact#[a,_,rfl,(LstAt.of_sq g).imp (λz=>#[λ⟨n,c,k,e,_⟩=>by simp at e,z.2]) id,Ad.ints ns]
  ·erw[A9,As]at b
   subst b;exact q o
section
variable{s:Ab}{N:Fb}
def Ft:U Sl->O Rv
 |[.val x]=>Z (.val x)
 |_=>J
theorem Kq(a:U D):a.map (Ds Ft)=a:=by induction a with
 |nil=>rfl
 |cons x c b=>rw[A3,b];rfl
theorem td(W:Inv X pins I H s)(A:Ag)(M:A.units+40<Aq){items:U Aa}{R:Nat}{xs:U V}{l:U D}(g:s.heap.get? a=Z (Di items R))(m:H a=J)(n:Off X pins a)(o:An xs items)(r:Ad X.K N H l xs)(ok:Bj Ft l) {P:PySem.Fin->Ab->Prop} (q:∀s' vs,Inv X pins I (AN H a (.lst vs)) s'->Ad X.K N H (EH (Ck Ft) l) vs->P (.done (.ret .none)) s'):
  wpAny (Af X.prog X.w) A (Fi.«list.sort» #[[.ref a],[]]) P E s:=by
 have l1:=r.length
 have l2:=o.length
 have few:=ok.few
 have Q:AA=16777216:=Iy
 rw[list_sort_plain]
 refine Al (listItems_at g rfl ?_)
 obtain⟨n1,C,S⟩:=W.rawset (f:=λ_=>(T' [])) (its':=[]) m n g rfl
 refine Al (Nb g rfl ?_ (by simp;lia) (by simp))
 refine Al (seqEpoch_at C rfl ?_)
 refine Al (wpAny_newTuple ?_ (by simp;lia))
 generalize t:({heap:=s.heap.update a (Fe λx=>(T' [])),gens:=s.gens,drawn:=s.drawn,toks:=s.toks,os:=s.os}:Ab)=d at *
 have Y:=S.kept (t':=d.toks) (λb u e=>Bp {cls:=.type "tuple",data:=.seq items.toArray} e)
 generalize v:({heap:=d.heap.push {cls:=.type "tuple",data:=.seq items.toArray},gens:=d.gens,drawn:=d.drawn,toks:=d.toks,os:=d.os}:Ab)=G at *
 refine Al (wpAny_newList ?_ (by simp))
 have i:=Y.kept (t':=G.toks) (λb u e=>Bp (Di [] 0) e)
 have B:=Bp (Di [] 0) (show G.heap.get? a=Z (Di [] n1) by rw[<- v];exact(Bp {cls:=.type "tuple",data:=.seq items.toArray} (show d.heap.get? a=Z (Di [] n1) by rw[<- t];exact C)))
 refine FC ?_
 refine YL (N:=N) (F:=Ft) (kvs:=xs) (us:=items) (items:=items) (T:=λz=>do
  let k:=(arrOf z).map λy=>y.2
  let h:=(<- seqEpoch a) != n1
  Builtin.List.listUpdate (.ref a) λ_=>k
  if let Z x:=failedOf z then
   rule "list.sort.comparison-raised"
   throw x
  if h then
   rule "list.sort.modified"
   raiseError "ValueError" "list modified during sort"
  ret .none) i A M ok (by rw[Kq];exact r) o (by lia) λp st L hs ha hf=>?_
 have hpl:p.length=l.length:=by have:=L.length_eq;simpa using this
 refine Al (seqEpoch_at B rfl ?_)
 generalize c:p.map (λj=>items.getD j .none)=out at *
 obtain⟨n3,g4,I4⟩:=i.rawset (f:=λ_=>out.toArray) (its':=out) m n B rfl
 rw[ha]
 refine Al (Nb B rfl ?_ (by simp) (by simp;exact J1 (show out.length<=AA by rw[<- c,Bh];lia)))
 rw[hf]
 erw[show(n1 != n1)=O' by simp,Ff,if_false]
 refine AO (q _ _ (I4.catch m n g4 (show An (p.map λj=>xs.getD j .non) out by rw[<- c];exact Na o p) (by rw[Bh];lia)) ?_)
 rw[<- hs]
 exact Sy r p λj hj=>by have:=L.subset hj;simpa using this
theorem aN(p:Inv X pins I H s)(k:X.A.units+64<Aq){a:U Aa}{xs:U V}{c:U D}(f:An xs a)(h:Ad X.K N H c xs)(ok:Bj Ft c){P:PySem.Fin->Ab->Prop}
  (q:∀d s' vs,H d=J->Inv X pins I (AN H d (.lst vs)) s'->Ad X.K N H (EH (Ck Ft) c) vs->wpAny (Af X.prog X.w) X.A.in1 (B (.ref d)) P X.xe s'):
  wpAny (Af X.prog X.w) X.A.in1 (do
   let l <- newList a
   let _ <- D8 [l] (call (.builtin "list.sort") [l])
   B l) P X.xe s:=by
 have l1:=h.length
 have m:=f.length
 have few:=ok.few
 have i:AA=16777216:=Iy
 refine Al (wpAny_newList ?_ (by lia))
 have g:=B4 s.heap (o:=Di a 0) rfl
 refine Al (FC (JY slot_list_sort #[_,g,rfl] entry_list_sort (td (N:=N) (p.kept (t':=s.toks) (λb u e=>Bp (Di a 0) e)) _ ?_ g p.fresh (p.off (A5 s.heap.objs.size)) f h ok λs' vs n j=>#[_,rfl,q _ s' vs p.fresh n j]) (args_list_sort _)))
 show X.A.units+1+1+40<_;lia
end
section
variable{M:Fb}{e:Expr}{f:AB}{x:Ae}{p:Az}
def LM(o:O D):A2:=match o with
 |some (.lst a .l)=>Fp Ft a
 |some (.lst a .d)=>(Eh a).bind λb=>Fp Ft (b.map λp=>kD p.1)
 |_=>J
set_option tactic.hygienic true in
theorem tf(hc:X.calm=J')(hu:X.A.units+64<Aq)(hg:Gl X x)(hm:X.mg x=J)(hv:DO x=Z (.builtin "sorted"))(he:JE X e (tP X.K M H0 f))
  (hn:x≠"__name__":=by ext) (G:Cg x:=by ext) (hs:AE [e] X.env=(O',Ao e X.env)::AE [] X.env:=by exact Z1 rfl):
  JE X (.Call (.Name x p) [e] [] pos) (tF X.K M H0 λρ=>LM (f ρ)):=#[by
 rintro g s r H Q W ⟨ρ,ys,R,i,q⟩
 dsimp only at i
 have hsl:AA=16777216:=Iy
 cases L:f ρ with
 |none=>rw[L]at i;cases i
 |some d=>
 rw[L]at i
 refine Mu (GS W hg hm hv ?_ hn G)
 refine PyProof.Rows.callWith_builtin1 ?_ hs rfl
 refine AV ((Es he.h (Bm (X:=X)) hs) pos g s r H (λj t=>∃v,j=[v]/\Ai H t/\Aw X.K (Nf M ρ r) t d v) W #[ρ,d,R,L,λv t P y=>#[v,rfl,P,y]]) λus P hh=>?_
 obtain⟨j,t,C,r1,v,rfl,sm,y⟩:=hh
 obtain⟨u,rfl,ru⟩:=EW r1
 have fin:∀k w j,t k=J->Inv X g r (AN t k (.lst j)) w->Ad X.K (Nf M ρ r) t ys j->EP X g r Q (.ref k) w:=λk w j c F E=>
  #[.ref k,_,F,rfl,q k j _ (sm.trans (ZY c)) (sm.none c) ZZ ((E.nw λb hb=>hb.imp id λz=>by subst z;exact c).same (ZY c))]
 unfold LM at i
 split at i
 ·next xs hd=>
  cases hd
  obtain⟨ok,rfl⟩:=Sx i
  obtain⟨a,ws,rfl,S,dl⟩:=y
  cases ru
  obtain⟨its,rv,⟨o,n,ho,Y,hdd,hd⟩,hz⟩:=C.list S
  have l2:=rv.length
  exact ap kind_sorted plain_sorted entry_sorted (args_sorted1 _) (Al (m:=checkCount "sorted" 1 1 _) (AO (Al (wpAny_collect_seq a (T:="list") (.inl rfl) ho Y hd (λh1 k1=>aN (N:=Nf M ρ r) (B:=λl=>ret l) (C.kept (t':=P.toks) k1) hu rv dl ok λk w j c F E=>AO #[_,rfl,fin k w j c F E]) (by simp;lia)))))
 ·next xs hd=>
  cases hd
  obtain⟨kvs,hun,i⟩:=BL.mp i
  obtain⟨ok,rfl⟩:=Sx i
  rw[GB hun]at y
  obtain⟨a,ws,rfl,S,dl⟩:=y
  cases ru
  obtain⟨tr,dc,pd⟩:=Ja S dl
  obtain⟨z,hs',nd,o,es,ep,e1,e2,e3,e4⟩:=dc.1.ok C.hok
  have few:=ok.few
  have hl:kvs.length=es.size:=by have h1:=pd.kden.length;have h2:=(Ng e4).length;simp at h1 h2;lia
  refine ap kind_sorted plain_sorted entry_sorted (args_sorted1 _) ?_
  refine Al (m:=checkCount "sorted" 1 1 _) (AO ?_)
  refine Al (qZ (Y2 (es:=es) (ep:=ep) hs') (by show X.A.handled=J;exact C.ok.hd hc) #[o,e1,e2,e3] (by simp at few;lia) λh1 tk acc k1 hi=>?_)
  rw[Y3 hi]
  exact aN (N:=Nf M ρ r) (B:=λl=>ret l) (C.kept (t':=tk) k1) hu (Ng e4) pd.kden ok λk w j c F E=>AO #[_,rfl,fin k w j c F E]
 ·cases i]
end
mutual
theorem S2:∀(d:D),Bt 0 d=J'
 |.non=>rfl
 |.bl _=>rfl
 |.int _=>rfl
 |.str _=>rfl
 |.ty _=>rfl
 |.tup a=>by erw[Bt];exact S3 a
 |.lst a k=>by erw[Bt,vk,IW,LN];exact S3 a
theorem S3:∀(xs:U D),C6 0 xs=J'
 |[]=>rfl
 |x::xs=>by erw[C6,S2 x,S3 xs,Ia]
end
theorem FW{m:Nat}:∀{xs:U D},(∀x∈xs,Bt m x=J')->C6 m xs=J'
 |[],_=>rfl
 |x::xs,h=>by erw[C6,h x Bk,FW λy a=>h y (Bu _ a),Ia]
section
variable{K:Am}{M:Fb}{e:Expr}{F:U Sl->O Rv}{k:Nat}{fn:Ac}{fd:B6}{x:Ae}{p:Az}{E:XK}
theorem ti(G:AQ X.prog X.w X.K X.mg X.base CX k fn fd ps (AU K F))(a:AF k X.A)(b:Gl X x)(c:X.mg x=Z (.ref fn))(f:Hz X.K (.ref fn)=J')(g:Binds X.K fd ps [])(i:EY CX X E)
  (j:JA X (e::es) (CL K M H0 fa)) (hz:CA X x e es pos:=by exact Fj):
  JE X (.Call (.Name x p) (e::es) [] pos) (ED .d K M H0 (IR F fa)):=#[(Ov G a b c f g .nil i j.h hz.d hz.s hz.p).mono λ_ _ _ h=>nr h]
end
theorem tj{l:PySem.W.OpenLaw}{w:Ah}{K:Am}{mg:Bl}{f:Ac}{fd:B6}{st:Au}{n:Nat}{F:FI}(d:mg "law"=Z (.ref f))(q:DI K mg "law" st ["_law_script"] a fd)
  (G:∀base:Ak,AQ l.prog w K mg base Bg n a fd ["_law_script"] (CV K F)) (h:∀ns:U Int,ns.length<=63->∃G',F [.val (.lst (ns.map D.int))] []=Z (.val (.bl J'),G'))
  (e:∀(g b i:Aa) (j:O Ac) (c ct v:Aa),bindArgs (IE "law" "law" (GZ st) (ZI st) (Zf st) .none g b i j c ct) #[[v],[]]=AC [(("_law_script":Ae),v)]):
  ∃fd:B6,(∀(s:Ab) (v:Aa),BindsTo s fd #[[v],[]] [("_law_script",v)])/\∀base:Ak,K.In base->base.Ns BN mg->AQ l.prog w K mg base Bg n f fd ["_law_script"] (MA K):=by
 cases d.symm.trans q.m
 obtain⟨p,r,g,b,i,j,c,ct,k,rfl,t,o⟩:=q.F.ex
 exact#[_,λs v=>.of_eq (e _ _ _ _ _ _ _),λbase _ _=>sZ (G base) h]
section
set_option tactic.hygienic true in
end
structure Kr(Y:Cx)(e:Expr)(h:IS->Option Ae):Prop where
 h:∀pins s I H φ S c,Inv Y pins I H s->Bb Y.K φ S I H->h S=Z c->wpAny (Af Y.prog Y.w) Y.A (Ao e Y.env) (λ_ _=>False) (DL Y pins I H c) s
structure Np(Y:Cx)(st:Au)(h:IS->Option Ae):Prop where
 h:∀pins s I H φ S c,Inv Y pins I H s->Bb Y.K φ S I H->h S=Z c->wpAny (Af Y.prog Y.w) Y.A (exec st Y.env) (λ_ _=>False) (DL Y pins I H c) s
structure GG(Y:Cx)(b:List Au)(h:IS->Option Ae):Prop where
 h:∀pins s I H φ S c,Inv Y pins I H s->Bb Y.K φ S I H->h S=Z c->wpAny (Af Y.prog Y.w) Y.A (execs b Y.env) (λ_ _=>False) (DL Y pins I H c) s
@[simp] def Ks(o:O (U IV))(x:Ae):O Ae:=match o with
  |some [_]=>Z x
  |_=>J
def Hi(K:Am)(F:U IV->Gh->O Ae):Sp:=λe H Q E=>∃a G b c,Bq K a G H/\Paired (A9 K a G.length (LV a G) H) b e/\F b G=Z c/\∀D d,nsIn K BN c=Z (Z (.ref D))->Ai H d->E (.ref D) J d
def Ji(a n:Nat)(h:IS->O Ae):U IV->Gh->O Ae:=λb G=>if b.length=a then h (b++C9 (n-a) .no,G)else J
@[simp] def Hj(c m:Ae)(F:U IV->Gh->O Ae)(p:O Nat)(o:O (U IV))(s:IS):O Ae:=p.bind λn=>match s.2[n]? with
  |some cl=>if DD c m cl=J'/\n<s.2.length then o.bind λa=>F (.cel n::a) s.2 else J
  |none=>J
@[simp] noncomputable def S5:RI->RI
  |.ret x G=>.ret x G
  |_=>.fail
@[simp] def Kt(a:U Ae)(i:Nat)(o:O Ae)(r:RI)(g:Ba)(s:IS):RI:=match o with
  |none=>r
  |some c=>if a.contains c=J' then S5 (g (s.1.set i (.exc c),s.2))else .fail
section
variable{e o:Expr}{st:Au}{Ax a b:U Au}{h h1 h2:IS->O Ae}{g gs:Ba}{p np:Az}{ga:IS->O (U IV)}{x:Ae}
theorem tm:GG Y b (λ_=>J):=#[λ_ _ _ _ _ _ _ _ _ q=>nomatch q]
theorem tq(z:Np Y st h):GG Y (st::Ax) h:=#[λa s b H d S c e R q=>Oj (CU (z.h a s b H d S c e R q) (λ_ _ z=>z.elim) λ_ _ z=>z)]
theorem tu{c:Expr}{t:IS->O Bool}(nx:Hb Y)(p:JT Y c (No Y.K t))(r:GG Y a h1)(u:GG Y Ax h2):GG Y (.If c a [] pos::Ax) (λs=>FP (t s) (h1 s) (h2 s)):=#[λb s f H g S n y R q=>by
 cases i:t S with
 |none=>rw[i]at q;cases q
 |some k=>
  rw[i]at q
  refine Oj (wpAny_If (CU (p.h b s f H (λv j=>v=k/\Ai H j) y #[g,S,k,R,i,λj sm=>#[rfl,sm]]) (λd l w=>?_) λe x z=>(nx e x z).elim))
  obtain⟨m,o,rfl,sm⟩:=w
  cases d with
  |true=>exact CU (r.h b l f m g S n o (R.same sm) q) (λ_ _ z=>z.elim) λ_ _ z=>z.from sm
  |false=>exact wpAny_execs_nil (CU (u.h b l f m g S n o (R.same sm) q) (λ_ _ z=>z.elim) λ_ _ z=>z.from sm)]
theorem tw{a:Az}(z:Kr Y e h)(d:Dv e (Z (.Name x a)) pos.line Y.env=AC O':=by rfl):Np Y (.Assign [.Name x a] e pos) h:=
 #[λb s f H g S c i R q=>wpAny_Assign_Name (CU (z.h b s f H g S c i R q) (λ_ _ z=>z.elim) λ_ _ z=>z) d]
theorem tx{D:Ac}(nx:Hb Y)(W:Y.calm=J')(Q:SI Y.K D)(T:nsIn Y.K BN x=Z (Z (.ref D)))(X:Gl Y x)(hm:Y.mg x=Z (.ref D))(ha:JA Y (e::es) (Fs Y.K ga))
  (i:Cg x:=by ext) (j:AE (e::es) Y.env=(O',Ao e Y.env)::AE es Y.env:=by exact Z1 rfl) (k:(Ay cpos (AE es Y.env)).any (·.1)=O':=by rfl):
  Np Y (.Raise (Z (.Call (.Name x np) (e::es) [] cpos)) J pos) (λs=>Ks (ga s) x):=#[λb s I H l S c zA R q=>by
 cases n:ga S with
 |none=>rw[n]at q;cases q
 |some p=>
  rw[n]at q
  obtain⟨s0,rfl⟩:∃s0,p=[s0]:=by
   cases p with
   |nil=>cases q
   |cons s0 r=>cases r with
    |nil=>exact#[s0,rfl]
    |cons _ _=>cases q
  cases q
  obtain⟨t,qn,N,bs,bm,a,u,sub,w,d,y,A,B,C,E,G,l1,P,L,l4⟩:=Q.ex
  refine wpAny_Raise_call_subU (mN:=Y.base.nsMap N) (nm:=t) (q:=qn) (N:=N) (bs:=bs) (hdct:=a) (sn:=u) (sub:=sub) (ab:=w) (col:=d) (dd:=y) (k0:=A) (k1:=B) (k2:=C) (k3:=E) (k5:=G) PySem.F.excBase_ValueError PySem.F.excBase_ValueError.hasB PySem.F.excBase_ValueError ((tail_of_in zA.kIn P).hasType PySem.F.excBase_ValueError.hasBase) (zA.ok.hd W) (j ▸ k) (nsMap_none_of_in zA.ok.mod.kin L l4) (Mi zA X hm #[rfl,?_] i)
  rw[j]
  refine Calls.evalArgs_plain (CU (j ▸ ha.h cpos b s I H (λo f=>Ai H f/\Paired (A9 Y.K l S.2.length (LV l S.2) f) [s0] o) zA #[l,S,[s0],R,n,λo f sm h1=>#[sm,h1]]) (λM s1 z9=>?_) λe s' z=>(nx e s' z).elim)
  obtain⟨o,f,g,r,sm,h1⟩:=z9
  refine#[rfl,?_,g.kIn _ _ l1,?_,tail_of_in g.kIn P,λh' v m=>#[D,T,(qO g m).from sm]]
  ·show M.length<=AA
   rw[show M.length=1 by rw[<- r.length,<- Jh h1];rfl];exact K1 (mm (by ext))
  ·exact(Heap.Ns.of_isNs (isNs_of_in zA.ok.mod.kin L)).keeps g.bk]
theorem tz{F:U IV->Gh->O Ae}{k:Nat}{fn:Ac}{fd:B6}{L:U Ae}{c m:Ae}(nx:Hb Y)(hC:nsIn Y.K BN c=Z (Z (.ref C)))(cl:Er Y.K C)(zA:IA Y.K C m fn)(G:AQ Y.prog Y.w Y.K Y.mg Y.base (Jd Y.prog Y.w) k fn fd L (Hi Y.K F))(hr:AF k Y.A)(hb:Binds Y.K fd L [])
  (ho:JE Y o (EJ Y.K gp)) (ha:JA Y (e::es) (Fs Y.K ga))
  (M:AE (e::es) Y.env=(O',Ao e Y.env)::AE es Y.env:=by exact Z1 rfl) (N:(Ay pos (AE es Y.env)).any (·.1)=O':=by rfl)
  (ht:ME Y o m (e::es) pl apos pos:=by rfl):Kr Y (.Call (.Attribute o m apos) (e::es) [] pos) (λs=>Hj c m F (gp s) (ga s) s):=#[λd s I H b S cc zB R q=>by
 obtain⟨n,hn,q⟩:=BL.mp q
 split at q
 ·next cel hc=>
  obtain⟨hi,q⟩:=ZX q
  obtain⟨X,Q,hF⟩:=BL.mp q
  obtain⟨dx,fs,q1,q2⟩:=aK hC R.g hc hi.1
  refine PySem.W.methodCall_KW (pl:=pl) (CU (ho.h d s I H (λv j=>v=.ref (b n)/\j=H) zB #[b,S,n,R,hn,λ_=>#[rfl,rfl]]) (λu s1 z9=>?_) λe E z=>(nx e E z).elim) ht
  obtain⟨y,H1,I1,rx,p,t⟩:=z9
  subst p t
  obtain rfl:u=Ci (b n):=rx
  refine Rs I1 (.inl q1) cl zA q2 ?_
  refine Ru (first:=[.ref (b n)]) (h₀:=Y.base) zB.ok.mod.kin zA.kp (CU (ha.h pos d s1 I H1 (λl i=>Ai H1 i/\Paired (A9 Y.K b S.2.length (LV b S.2) i) X l) I1 #[b,S,X,R,Q,λl i sm h1=>#[sm,h1]]) (λx T ⟨l,i,P,r,sm,h1⟩=>#[P.kIn,?_]) λe E z=>(nx e E z).elim) M N
  have sp:Hi Y.K F (.ref (b n)::l) i (λ_ _=>False) (λv _ j=>∃D,v=.ref D/\nsIn Y.K BN cc=Z (Z (.ref D))/\Ai i j):=#[b,S.2,.cel n::X,cc,R.g.same sm,.cons #[hi.2,rfl] h1,hF,λD j p t=>#[D,rfl,p,t]]
  have r2:An (.ref (b n)::l) (.ref (b n)::x):=.cons rfl r
  have bd:=hb T (.ref (b n)::x) P.kIn (show((Ci (b n)::x)++[]).length=L.length by rw[Eb,<- r2.length];exact G.len _ _ _ _ sp)
  rw[Eb]at bd
  refine wpAny_call (K6 (G.run Y.A Y.stack T i #[.ref (b n)::x,[]] (.ref (b n)::x) (.ref (b n)::l) _ _ hr P.env0 bd r2 sp) λr E B=>?_)
  cases r with
  |error v=>
   obtain⟨a,C',j,p,os,ba,fl,D,t,e3,e4⟩:=B
   cases t
   exact#[C',e3,a,i,j,T,p,P,sm,os,ba,fl]
  |ok f=>
   cases f with
   |ret u=>obtain⟨_,_,_,_,_,_,_,z⟩:=B;exact z.elim
   |next=>exact B.elim
   |brk=>exact B.elim
   |cont=>exact B.elim
 ·cases q]
theorem tE{bs:U Au}{m:IS->O Ae}{G:Ac}{l n:Ae}{F:Au}{b:U Au}{W:Az}(i:Nat)(L:U Ae)(nx:Hb Y)(ys:Y.stack=Y.env::Y.outer)(yf:Y.env.frame=Z Y.env.locals)(zx:GG Y bs m)(zb:JB Y bs (tK Y.K g))
  (hm:Y.mg l=Z (.ref G)) (hg:Gl Y l) (hc:∀c D,L.contains c=J'->nsIn Y.K BN c=Z (Z (.ref D))->exmOne Y.K (.ref D) (.ref G)=Z J') (hN:Y.N.Nodup) (hi:Y.N[i]?=Z n) (hl:Y.env.scope.names.lookup n=Z .local)
  (zs:∀(x:Ac),JB (Y.hand x) (F::b) (tK Y.K gs)) (hd:Cg l:=by ext):
  JS Y (.Try bs [.ExceptHandler (Z (.Name l np)) (Z n) (F::b) W] [] [] pos) (tK Y.K λs=>Kt L i (m s) (g s) gs s):=#[λd s M H D X z0=>by
 obtain⟨o,S,R,q⟩:=z0
 try dsimp only at q
 cases p:m S with
 |none=>
  rw[p]at q
  refine wpAny_Try_except (CU (zb.h d s M H D X #[o,S,R,q]) (λf P z=>?_) λe w z=>(nx e w z).elim)
  cases f with
  |next=>exact wpAny_execs_nil z
  |ret v=>exact z
  |brk=>exact z
  |cont=>exact z
 |some c=>
  rw[p]at q
  erw[Kt]at q
  split at q
  ·next y=>
   refine wpAny_Try_except (CU (zx.h d s M H o S c X R p) (λf P z=>z.elim) λv P z=>?_)
   obtain⟨Q,T,t⟩:=z
   cases a:gs (S.1.set i (.exc c),S.2)with
   |ret r G'=>
    rw[a]at q
    refine qQ (Q':=D.rt) ys yf t hm hg (hc c Q y T) hN hi hl (λx H3 s3 hx0 sm I3 A=>?_) (λu vv j k s5 I5 B C=>#[vv,j,k,I5,B,C]) hd
    refine CU ((zs x).h d s3 _ H3 {nx:=λ_ _=>False,rt:=D.rt} I3 #[o,_,((R.same sm).put i (x:=.exc c) (v:=.ref x) #[x,Q,rfl,T,A]),?_]) (λf s4 z=>?_) λe w z=>(nx e w z).elim
    ·dsimp only
     rw[a]
     exact λE v k R' hv go=>q E v k R' hv ((Go.same sm).trans go)
    ·cases f with
     |ret u=>obtain⟨vv,j,k,I',B,C⟩:=z;exact#[u,vv,j,k,rfl,I',B,C]
     |next=>obtain⟨_,_,_,z⟩:=z;exact z.elim
     |brk=>obtain⟨_,_,_,z⟩:=z;exact z.elim
     |cont=>obtain⟨_,_,_,z⟩:=z;exact z.elim
   |next _=>rw[a]at q;exact q.elim
   |fail=>rw[a]at q;exact q.elim
   |brk _=>rw[a]at q;exact q.elim
   |cont _=>rw[a]at q;exact q.elim
  ·exact q.elim]
set_option tactic.hygienic true in
end
def Hk(a:Scope):U Ae:=(a.names.tail.filter λp=>match p.2 with | .local=>J'|_=>O').map (·.1)
noncomputable def S6(own a:U Ae)(b c:Scope):Bool:=decide (b.kind=.function)&&b.names.all (λx=>decide (x.2≠.cell))&&b.names.all (λx=>decide (x.2≠.free)||decide (c.names.lookup x.1=Z .cell)||decide (c.names.lookup x.1=Z .free))
 && b.names.all (λx=>decide (x.2≠.local)||decide (b.names.lookup x.1=Z .local))&&a.all (λx=>decide (b.names.lookup x=Z .free))&&decide (own++a).Nodup
theorem tH{own a:U Ae}{d b:Scope}(h:S6 own a d b=J'):HF own a d b:=by
 erw[S6,Co,CZ,Bool.or_eq_true,decide_eq_true_eq]at h
 obtain⟨⟨⟨⟨⟨f,g⟩,i⟩,j⟩,k⟩,l⟩:=h
 exact#[f,g,λx c e=>(i x c).elim (λz=>z.elim (λz=>absurd e z) .inl) .inr,λx c e=>(j x c).elim (λz=>absurd e z) id,k,l]
structure XI(P:AI)(w:Ah)(K:Am)(mg:Bl)(base:Ak)(X:Cx)(N:List Ae)(sc:Scope):Prop where
 p:X.prog=P
 w:X.w=w
 k:X.K=K
 m:X.mg=mg
 b:X.base=base
 n:X.N=N
 s:X.env.scope=sc
 d:N.Nodup
theorem XI.nd{P:AI}{w:Ah}{K:Am}{mg:Bl}{base:Ak}{N:U Ae}{a:Scope}(h:XI P w K mg base X N a):X.N.Nodup:=h.n ▸ h.d
def oN(N:U Ae)(oix:U Nat):U Ae:=oix.filterMap (N[·]?)
structure CQ(N:List Ae)(sc scope:Scope)(n:Nat)(oix:List Nat):Prop where
 S:HF (Hk scope) (oN N oix) scope sc
 l:(Hk scope).length=n
 x:oix.map (λj=>N[j]?)=(oN N oix).map Z
theorem LO{N:U Ae}{a:Scope}{n:Nat}{oix:U Nat}(h:(S6 (Hk scope) (oN N oix) scope a&&decide ((Hk scope).length=n)&&decide (oix.map (λj=>N[j]?)=(oN N oix).map Z))=J'):CQ N a scope n oix:=by
 erw[Co,decide_eq_true_eq]at h
 exact#[tH h.1.1,h.1.2,h.2]
section
variable{K:Am}{M:Fb}{f:VE->A2}{fd:AB}{b:D->VE->O VE}{t:VE->O Bool}{e:AB}{spos:Az}{oix:U Nat}{n i:Nat}{N:U Ae}{x:Ae}
variable{P:AI}{w:Ah}{K0:Am}{mg:Bl}{base:Ak}
theorem LP{own a:U Ae}(h:XI P w K0 mg base X N sc)(d:(own++a).Nodup)(l:∀C f g i c j H',XI P w K0 mg base (C2 X own a scope C f g i c) (own++a) (C2 X own a scope C f g i c).env.scope->JG (C2 X own a scope C f g i c) tg (tG K j H' ws b))(n:∀C f g i c j H',XI P w K0 mg base (C2 X own a scope C f g i c) (own++a) (C2 X own a scope C f g i c).env.scope->JF (C2 X own a scope C f g i c) ifs (BC K j H' t))(o:∀C f g i c j H',XI P w K0 mg base (C2 X own a scope C f g i c) (own++a) (C2 X own a scope C f g i c).env.scope->JE (C2 X own a scope C f g i c) elt (tD K j H' e)):CB K X own a scope tg ifs elt ws b t e:=
 ol (l _ _ _ _ _ _ _ #[h.p,h.w,h.k,h.m,h.b,rfl,rfl,d]) (n _ _ _ _ _ _ _ #[h.p,h.w,h.k,h.m,h.b,rfl,rfl,d]) (o _ _ _ _ _ _ _ #[h.p,h.w,h.k,h.m,h.b,rfl,rfl,d])
variable(h:XI P w K0 mg base X N sc)(q:CQ N sc scope n oix)(hc:X.calm=J')(hK:K0=K)
include h q hc hK
theorem tL(a:JI X tg iter (tI K M H0 f))(c:CB K X (Hk scope) (oN N oix) scope tg ifs elt ws b t e)(d:∀j∈ws,j<n)(g:∀x,EU iter X.env x=AC x:=by intro _;rfl):JE X (.ListComp elt [#[tg,iter,ifs,0]] scope pos) (tF K M H0 (Zi n oix f b t e)):=by
 obtain⟨_,_,i,_,_,rfl,rfl,_⟩:=h
 obtain⟨S,rfl,x⟩:=q
 grind [om]
theorem tM(a:N[i]?=Z x)(d:sc.names.lookup x=Z .local)(g:JI X tg iter (tI K M H0 f))(k:CB K X (Hk scope) (oN N oix) scope tg ifs elt ws b t e)(l:∀j∈ws,j<n)(c:Dv (.ListComp elt [#[tg,iter,ifs,0]] scope pos) (Z (.Name x pos')) spos.line X.env=AC J':=by rfl)(m:∀x,EU iter X.env x=AC x:=by intro _;rfl):JS X (.Assign [.Name x pos'] (.ListComp elt [#[tg,iter,ifs,0]] scope pos) spos) (tS K M H0 λρ=>ZS i (Zi n oix f b t e ρ) ρ):=by
 obtain⟨_,_,o,_,_,rfl,rfl,nd⟩:=h
 obtain⟨S,rfl,x⟩:=q
 grind [on]
theorem tN(a:N[i]?=Z x)(d:sc.names.lookup x=Z .local)(g:JI X tg iter (tI K M H0 f))(k:CB K X (Hk scope) (oN N oix) scope tg ifs elt ws b t e)(l:∀j∈ws,j<n)(c:Dv (.ListComp elt [#[tg,iter,ifs,0]] scope pos) (Z (.Name x pos')) spos.line X.env=AC J':=by rfl)(m:∀x,EU iter X.env x=AC x:=by intro _;rfl):JS X (.Assign [.Name x pos'] (.ListComp elt [#[tg,iter,ifs,0]] scope pos) spos) (tS K M H0 λρ=>ZF i (Zr (Zi n oix f b t e ρ)) ρ):=by
 obtain⟨_,_,o,_,_,rfl,rfl,nd⟩:=h
 obtain⟨S,rfl,x⟩:=q
 grind [oq]
theorem tR(a:JE X iter (tQ K M H0 fd))(c:CB K X (Hk scope) (oN N oix) scope tg ifs elt ws b t e)(d:∀j∈ws,j<n)(f:∀x,EU iter X.env x=AC x:=by intro _;rfl):JE X (.ListComp elt [#[tg,iter,ifs,0]] scope pos) (tF K M H0 (Zi n oix (λρ=>(fd ρ).bind FS) b t e)):=by
 obtain⟨_,_,g,_,_,rfl,rfl,_⟩:=h
 obtain⟨S,rfl,x⟩:=q
 grind [rX]
theorem tT(a:N[i]?=Z x)(d:sc.names.lookup x=Z .local)(f:JE X iter (tQ K M H0 fd))(g:CB K X (Hk scope) (oN N oix) scope tg ifs elt ws b t e)(k:∀j∈ws,j<n)(c:Dv (.ListComp elt [#[tg,iter,ifs,0]] scope pos) (Z (.Name x pos')) spos.line X.env=AC J':=by rfl)(l:∀x,EU iter X.env x=AC x:=by intro _;rfl):JS X (.Assign [.Name x pos'] (.ListComp elt [#[tg,iter,ifs,0]] scope pos) spos) (tS K M H0 λρ=>ZS i (Zi n oix (λρ=>(fd ρ).bind FS) b t e ρ) ρ):=by
 obtain⟨_,_,m,_,_,rfl,rfl,nd⟩:=h
 obtain⟨S,rfl,x⟩:=q
 grind [rY]
end
def All{a:Type}(p:a->Prop):U a->Prop
 |[]=>True
 |x::r=>p x/\All p r
theorem All.get{a:Type}{p:a->Prop}:∀{l:U a}(i:Nat){x:a},All p l->l[i]?=Z x->p x
 |_::_,0,_,h,e=>by cases e;exact h.1
 |_::_,i+1,_,h,e=>All.get i h.2 (by simpa using e)
 |[],_,_,_,e=>by simp at e
def DX(K:Am)(mg:Bl):Ae×Au×U Ae->Prop
 |(a,st,b)=>∃fn fd,DI K mg a st b fn fd
def MX(K:Am)(C:Ac):Ae×Ae×Au×U Ae->Prop
 |(b,a,st,c)=>∃fn fd,MI K C b a st c fn fd
section
variable(P:AI)(w:Ah)(K:Am)(mg:Bl)(base:Ak)
def OF(k:Nat)(nm:Ae)(sp:Sp):Prop:=∃st a fn fd,DI K mg nm st a fn fd/\AQ P w K mg base Bg k fn fd a sp
def OM(C:Ac)(c:Dw)(k:Nat)(nm:Ae)(sp:Sp):Prop:=∃a st b fn fd,MI K C nm a st b fn fd/\AQ P w K mg base c k fn fd b sp
end
section
variable{P:AI}{w:Ah}{K:Am}{mg:Bl}{base:Ak}{nm qual:Ae}{st:Au}{k:Nat}{g:Ar}{gi:Ba}(N:U Ae)
theorem Bo(D:DX K mg (nm,st,ps))
  (l:∀(fn:Ac) (i:Aa) (A:Ag) (outer:U Env) (s:Ab) (H:Hp) (E:XK) (M:Fb) (H0:Hp),XI P w K mg base (CK Bg P w K mg base N nm (Zf st) fn i A outer s H E).nox N (Zf st)->AF k (A.deeper (A0 nm (Zf st) s.heap.objs.size fn i)) ->
   JB (CK Bg P w K mg base N nm (Zf st) fn i A outer s H E).nox (ZI st) (tS K M H0 g)) (S:Z8 N ps (Zf st):=by exact Kl) (j:ps.length<=N.length:=by ext):OF P w K mg base (k+1) nm (AU K (AL ps.length N.length g)):=
 let⟨fn,fd,D⟩:=D
 #[st,ps,fn,fd,D,rg D S (λa b c d e f g h r=>l fn a b c d e f g h #[rfl,rfl,rfl,rfl,rfl,rfl,rfl,S.nd] r) rfl j]
theorem aO(D:MX K C (nm,qual,st,ps))
  (l:∀(fn:Ac) (i:Aa) (A:Ag) (outer:U Env) (s:Ab) (H:Hp) (E:XK) (M:Fb) (H0:Hp),XI P w K mg base (CK Bg P w K mg base N qual (Zf st) fn i A outer s H E).nox N (Zf st)->AF k (A.deeper (A0 qual (Zf st) s.heap.objs.size fn i)) ->
   JB (CK Bg P w K mg base N qual (Zf st) fn i A outer s H E).nox (ZI st) (tS K M H0 g)) (S:Z8 N ps (Zf st):=by exact Kl) (j:ps.length<=N.length:=by ext):OM P w K mg base C Bg (k+1) nm (AU K (AL ps.length N.length g)):=
 let⟨fn,fd,D⟩:=D
 #[qual,st,ps,fn,fd,D,rW D S (λa b c d e f g h r=>l fn a b c d e f g h #[rfl,rfl,rfl,rfl,rfl,rfl,rfl,S.nd] r) rfl j]
theorem aP{fn:Ac}{fd:B6}(D:DI K mg nm st ps fn fd)
  (i:∀(g:Aa) (A:Ag) (outer:U Env) (s:Ab) (H:Hp) (E:XK),XI P w K mg base (CK Bg P w K mg base N nm (Zf st) fn g A outer s H E).nox N (Zf st)->AF k (A.deeper (A0 nm (Zf st) s.heap.objs.size fn g)) ->
   JB (CK Bg P w K mg base N nm (Zf st) fn g A outer s H E).nox (ZI st) (tK K gi)) (S:Z8 N ps (Zf st):=by exact Kl) (h:ps.length<=N.length:=by ext):AQ P w K mg base Bg (k+1) fn fd ps (CV K (El ps.length N.length gi)):=
 sO D S (λa b c d e f r=>i a b c d e f #[rfl,rfl,rfl,rfl,rfl,rfl,rfl,S.nd] r) rfl h
theorem Ps(D:DX K mg (nm,st,ps))
  (c:∀(fn:Ac) (a:Aa) (A:Ag) (outer:U Env) (s:Ab) (H:Hp) (E:XK),XI P w K mg base (CK Bg P w K mg base N nm (Zf st) fn a A outer s H E).nox N (Zf st)->AF k (A.deeper (A0 nm (Zf st) s.heap.objs.size fn a)) ->
   JB (CK Bg P w K mg base N nm (Zf st) fn a A outer s H E).nox (ZI st) (tK K gi)) (S:Z8 N ps (Zf st):=by exact Kl) (b:ps.length<=N.length:=by ext):OF P w K mg base (k+1) nm (CV K (El ps.length N.length gi)):=
 let⟨fn,fd,D⟩:=D
 #[st,ps,fn,fd,D,aP N D (c fn) S b]
theorem LQ(D:MX K C (nm,qual,st,ps))
  (i:∀(fn:Ac) (g:Aa) (A:Ag) (outer:U Env) (s:Ab) (H:Hp) (E:XK),XI P w K mg base (CK Bg P w K mg base N qual (Zf st) fn g A outer s H E).nox N (Zf st)->AF k (A.deeper (A0 qual (Zf st) s.heap.objs.size fn g)) ->
   JB (CK Bg P w K mg base N qual (Zf st) fn g A outer s H E).nox (ZI st) (tK K gi)) (S:Z8 N ps (Zf st):=by exact Kl) (h:ps.length<=N.length:=by ext):OM P w K mg base C Bg (k+1) nm (CV K (El ps.length N.length gi)):=
 let⟨fn,fd,D⟩:=D
 #[qual,st,ps,fn,fd,D,sP D S (λa b c d e f r=>i fn a b c d e f #[rfl,rfl,rfl,rfl,rfl,rfl,rfl,S.nd] r) rfl h]
end
section
variable{P:AI}{w:Ah}{K K':Am}{mg:Bl}{base:Ak}{N:U Ae}{M:Fb}{k n:Nat}{c m x y:Ae}{F:U Sl->O Rv}{FF:FI}{e o:Expr}{fe:AB}{ga:IS->O (U IV)}{p kpos:Az}(h:XI P w K mg base X N sc)(r:AF n X.A)
include h r
theorem aQ(G:OF P w K mg base k x (AU K F))(a:K=K')(b:JA X (e::es) (CL K' M H0 fa))(c:k<=n)(d:Gl X x)(hz:CA X x e es pos):JE X (.Call (.Name x p) (e::es) [] pos) (tD K' M H0 (Zh F fa)):=by
 obtain⟨rfl,rfl,rfl,rfl,rfl,_,_,_⟩:=h
 obtain⟨_,_,_,_,D,G⟩:=G
 grind [q0]
theorem tU(G:OF P w K mg base k x (AU K F))(a:K=K')(b:JA X (e::es) (CL K' M H0 fa))(c:k<=n)(d:Gl X x)(hz:CA X x e es pos):JE X (.Call (.Name x p) (e::es) [] pos) (tF K' M H0 (Dz F fa)):=by
 obtain⟨rfl,rfl,rfl,rfl,rfl,_,_,_⟩:=h
 obtain⟨_,_,_,_,D,G⟩:=G
 grind [q5]
theorem tV(G:OF P w K mg base k x (AU K F))(a:K=K')(c:JA X (e::es) (CL K' M H0 fa))(f:k<=n)(g:Gl X x)(hz:CA X x e es pos):JE X (.Call (.Name x p) (e::es) [] pos) (ED .d K' M H0 (IR F fa)):=by
 obtain⟨rfl,rfl,rfl,rfl,rfl,_,_,_⟩:=h
 subst a
 obtain⟨_,_,_,_,D,G⟩:=G
 exact ti G (r.mono f) g D.m D.F.kp D.b (E:=E0) IK c hz
theorem tW(G:OF P w K mg base k x (CV K FF))(a:K=K')(c:JA X (e::es) (Fs K' ga))(d:k<=n)(f:Gl X x)(hz:CA X x e es pos):JE X (.Call (.Name x p) (e::es) [] pos) (CC K' λs=>Hh FF (ga s) s):=by
 obtain⟨rfl,rfl,rfl,rfl,rfl,_,_,_⟩:=h
 subst a
 obtain⟨_,_,_,_,D,G⟩:=G
 exact sQ G (r.mono d) f D.m D.F.kp D.b (E:=E0) IK c hz
theorem aR(G:OF P w K mg base k y (AU K F))(f:mg x=J)(g:K=K')(i:JE X e (tP K' M H0 fe))(j:k+2<=n:=by ext)(l:Gl X x:=by rfl)(o:DO x=Z (.builtin "sorted"):=by rfl)(c:Gl X y:=by rfl)
  (q:x≠"__name__":=by ext) (d:Cg x:=by ext) (a:Cg y:=by ext) (s:AE [e] X.env=(O',Ao e X.env)::AE [] X.env:=by exact Z1 rfl):
  JE X (.Call (.Name x p) [e] [#[Z "key",.Name y p2,kpos]] pos) (tF K' M H0 (Ki F fe)):=by
 obtain⟨rfl,rfl,rfl,rfl,rfl,_,_,_⟩:=h
 subst g
 obtain⟨_,_,_,_,D,G⟩:=G
 exact qt G (r.mono j) l f o c D.m D.b i q d a s
variable(cb:CI K mg c C)
include cb
theorem tY(G:OM P w K mg base C Bg k "__init__" (CV K FF))(a:K=K')(d:JA X (e::es) (Fs K' ga))(f:k+1<=n:=by ext)(g:Gl X c:=by rfl)(hz:CA X c e es pos:=by exact Fj):JE X (.Call (.Name c p) (e::es) [] pos) (CC K' λs=>Pp c FF (ga s) s):=by
 obtain⟨rfl,rfl,rfl,rfl,rfl,_,_,_⟩:=h
 subst a
 obtain⟨_,_,_,_,_,D,G⟩:=G
 exact sT cb.cof (cb.mkB D) G (r.mono f) g cb.m D.b (E:=E0) IK d hz
theorem aS(G:OM P w K mg base C Bg k m (AU K F))(a:K=K')(d:JE X o (Gv K' M H0 fo))(e:k<=n:=by ext)(f:ME X o m [] pl apos pos:=by rfl):
  JE X (.Call (.Attribute o m apos) [] [] pos) (tD K' M H0 λρ=>(Hc c m F (fo ρ) (Z [])).map Dd):=by
 obtain⟨rfl,rfl,rfl,rfl,rfl,_,_,_⟩:=h
 subst a
 obtain⟨_,_,_,_,_,D,G⟩:=G
 exact rp cb.cof cb.cl D.M G (r.mono e) D.b (E:=E0) IK d f
theorem Pt(G:OM P w K mg base C Bg k m (CV K FF))(f:K=K')(g:JE X o (EJ K' gp))(i:JA X (e::es) (Fs K' ga))(j:k<=n:=by ext)
  (a:AE (e::es) X.env=(O',Ao e X.env)::AE es X.env:=by exact Z1 rfl) (d:(Ay pos (AE es X.env)).any (·.1)=O':=by rfl) (l:ME X o m (e::es) pl apos pos:=by rfl):
  JE X (.Call (.Attribute o m apos) (e::es) [] pos) (CC K' λs=>EL c m FF (gp s) (ga s) s):=by
 obtain⟨rfl,rfl,rfl,rfl,rfl,_,_,_⟩:=h
 subst f
 obtain⟨_,_,_,_,_,D,G⟩:=G
 exact sR cb.cof cb.cl D.M G (r.mono j) D.b (E:=E0) IK g i a d l
theorem tZ(G:OM P w K mg base C Bg k m (CV K FF))(a:K=K')(d:JE X o (EJ K' gp))(e:k<=n:=by ext)(f:ME X o m [] pl apos pos:=by rfl):
  JE X (.Call (.Attribute o m apos) [] [] pos) (CC K' λs=>EL c m FF (gp s) (Z []) s):=by
 obtain⟨rfl,rfl,rfl,rfl,rfl,_,_,_⟩:=h
 subst a
 obtain⟨_,_,_,_,_,D,G⟩:=G
 exact sS cb.cof cb.cl D.M G (r.mono e) D.b (E:=E0) IK d f
theorem aT(nx:Hb X)(G:OM P w K mg base C (Jd P w) k m (Hi K FX))(l:K=X.K)(f:JE X o (EJ X.K gp))(g:JA X (e::es) (Fs X.K ga))(i:k<=n:=by ext)
  (a:AE (e::es) X.env=(O',Ao e X.env)::AE es X.env:=by exact Z1 rfl) (d:(Ay pos (AE es X.env)).any (·.1)=O':=by rfl) (j:ME X o m (e::es) pl apos pos:=by rfl):
  Kr X (.Call (.Attribute o m apos) (e::es) [] pos) (λs=>Hj c m FX (gp s) (ga s) s):=by
 obtain⟨rfl,rfl,rfl,rfl,rfl,_,_,_⟩:=h
 obtain⟨_,_,_,_,_,D,G⟩:=G
 exact tz nx cb.cof cb.cl D.M G (r.mono i) D.b f g a d j
end
section
variable{K:Am}{M:Fb}{st:Au}{g:Ar}{i:Nat}{cs:U Ae}{f:Ae->Bool}{m n c:Ae}{np cp p:Az}
@[simp] def Hl(i:Nat)(g:Ar):Ar:=λa=>g (J6 i a)
theorem t0(h:JS X st (tS K M H0 g)):JS X st (tS K M H0 (Hl i g)):=nK i h
theorem t3{ty:String}(k:X.mg m=J)(l:X.mg c=J)(o:∀c a,cs.contains c=J'->nsIn K BN c=Z (Z (.ref a))->F5 K a/\kitOne K (.ref a) (.type ty)=Z (f c))(q:DO c=Z (.type ty):=by rfl)(r:X.K=K:=by rfl)(s:X.N[i]?=Z n:=by rfl)(b:X.env.scope.names.lookup n=Z .local:=by rfl)(d:Gl X c:=by rfl)(t:Gl X m:=by rfl)(w:DO m=Z (.builtin "isinstance"):=by rfl)
  (x:m≠"__name__":=by ext) (e:c≠"__name__":=by ext) (g:Cg m:=by ext) (hd:Cg n:=by ext) (h:(n==("__classdict__":Ae))=O':=by ext) (j:Cg c:=by ext):
  JE X (.Call (.Name m p) [.Name n np,.Name c cp] [] pos) (tD K M H0 (FQ i cs f)):=YW i cs f r s (Or.inl b) (V2 (v:=.ty ty) d l q rfl e j) (λu z=>z) o t k w x g hd h
theorem All.mem{a:Type}{p:a->Prop}{x:a}:∀{l:U a},All p l->x∈l->p x
 |_::_,h,e=>by cases e with
  |head=>exact h.1
  |tail _ e=>exact All.mem h.2 e
def XX(K:Am)(mg:Bl)(c:Ae):Prop:=∃a,mg c=Z (.ref a)/\nsIn K BN c=Z (Z (.ref a))
def YY(K:Am)(l:U Ae)(c:Ae):Prop:=∃a,nsIn K BN c=Z (Z (.ref a))/\SI K a/\F5 K a/\kitOne K (.ref a) (.type "ValueError")=Z (FR "ValueError" c)/\(∃B,nsIn K BN "CubeError"=Z (Z (.ref B))/\exmOne K (.ref a) (.ref B)=Z J')/\All (λb=>∃B,nsIn K BN b=Z (Z (.ref B))/\kitOne K (.ref a) (.ref B)=Z (FR b c)) l
theorem t5{l:U Ae}(r:X.mg m=J)(s:All (XX K X.mg) l)(t:All (YY K l) cs)(o:l.contains c=J':=by rfl)(w:X.K=K:=by rfl)(x:X.N[i]?=Z n:=by rfl)(a:X.env.scope.names.lookup n=Z .local:=by rfl)(b:Gl X c:=by rfl)(y:Gl X m:=by rfl)(A:DO m=Z (.builtin "isinstance"):=by rfl)
  (B:m≠"__name__":=by ext) (d:Cg m:=by ext) (hd:Cg n:=by ext) (g:(n==("__classdict__":Ae))=O':=by ext) (j:Cg c:=by ext):
  JE X (.Call (.Name m p) [.Name n np,.Name c cp] [] pos) (tD K M H0 (FQ i cs (FR c))):=by
 obtain⟨C,E,G⟩:=s.mem (LR.mp o)
 refine YW i cs _ w x (Or.inl a) (Rb (v:=.ref C) b E rfl j) (λu z=>z) (λc F h e=>?_) y r A B d hd g
 obtain⟨_,H,_,f,_,_,q⟩:=t.mem (LR.mp h)
 obtain⟨_,L,k⟩:=q.mem (LR.mp o)
 cases e.symm.trans H;cases G.symm.trans L;exact#[f,k]
theorem t6{l:U Ae}(b:All (YY K l) cs):∀c a,cs.contains c=J'->nsIn K BN c=Z (Z (.ref a))->F5 K a/\kitOne K (.ref a) (.type "ValueError")=Z (FR "ValueError" c):=λc a h e=>by
 obtain⟨_,d,_,f,v,_⟩:=b.mem (LR.mp h)
 cases e.symm.trans d;exact#[f,v]
theorem t7{l:U Ae}{mg:Bl}(a:XX K mg "CubeError")(b:All (YY K l) cs):∃G,mg "CubeError"=Z (.ref G)/\∀c D,cs.contains c=J'->nsIn K BN c=Z (Z (.ref D))->exmOne K (.ref D) (.ref G)=Z J':=by
 obtain⟨_,d,f⟩:=a
 refine#[_,d,λc D h e=>?_]
 obtain⟨_,g,_,_,_,⟨_,i,x⟩,_⟩:=b.mem (LR.mp h)
 cases e.symm.trans g;cases f.symm.trans i;exact x
theorem t8{l:U Ae}{e:Expr}{ga:IS->O (U IV)}(nx:Hb X)(g:X.calm=J')(h:All (XX X.K X.mg) l)(i:All (YY X.K l) cs)(j:Gl X c)(m:JA X (e::es) (Fs X.K ga))(a:l.contains c=J':=by rfl)(n:cs.contains c=J':=by rfl)
  (b:Cg c:=by ext) (o:AE (e::es) X.env=(O',Ao e X.env)::AE es X.env:=by exact Z1 rfl) (d:(Ay p (AE es X.env)).any (·.1)=O':=by rfl):
  Np X (.Raise (Z (.Call (.Name c np) (e::es) [] p)) J pos) (λs=>Ks (ga s) c):=by
 obtain⟨_,a,q⟩:=h.mem (LR.mp a)
 obtain⟨_,f,k,_⟩:=i.mem (LR.mp n)
 cases q.symm.trans f;exact tx nx g k f j a m b o d
end
end L2
variable{gx:L2.IS->O (L2.IV×L2.Gh)}{gp:L2.IS->O Nat}{gb:L2.IS->O (Bool×L2.Gh)}{FX:U L2.IV->L2.Gh->O Ae}{gf:L2.IS->O (U L2.D)}
namespace L2
open PySem PySem.Spec PyProof.Rows
@[simp] theorem ZE5(a b:Int):AG (.int a) (.int b)=decide (a=b):=by erw[AG];by_cases h:a=b<;>simp[h]
@[simp] theorem ZEJ(a b:Ae):AG (.str a) (.str b)=decide (a=b):=by erw[AG];by_cases h:a=b<;>simp[h]
@[simp] theorem ZE1(a b:Bool):AG (.bl a) (.bl b)=decide (a=b):=by erw[AG];by_cases h:a=b<;>simp[h]
@[simp] theorem ZE4:AG .non .non=J':=by erw[AG]
@[simp] theorem ZEI(a:Bool)(b:Int):AG (.bl a) (.int b)=decide ((if a then 1 else 0)=b):=by erw[AG];by_cases h:(if a then 1 else 0)=b<;>simp[h]
@[simp] theorem ZEW(a:Int)(b:Bool):AG (.int a) (.bl b)=decide (a=(if b then 1 else 0)):=by erw[AG];by_cases h:a=(if b then 1 else 0)<;>simp[h]
@[simp] theorem ZEz(a:Int)(b:Ae):AG (.int a) (.str b)=O':=by erw[AG]
@[simp] theorem ZEX(a:Ae)(b:Int):AG (.str a) (.int b)=O':=by erw[AG]
@[simp] theorem ZEZ(a:Bool)(b:Ae):AG (.bl a) (.str b)=O':=by erw[AG]
@[simp] theorem ZER(a:Ae)(b:Bool):AG (.str a) (.bl b)=O':=by erw[AG]
@[simp] theorem ZES(b:Int):AG .non (.int b)=O':=by erw[AG]
@[simp] theorem ZE2(b:Ae):AG .non (.str b)=O':=by erw[AG]
@[simp] theorem ZE6(b:Bool):AG .non (.bl b)=O':=by erw[AG]
@[simp] theorem ZEG(b:Int):AG (.int b) .non=O':=by erw[AG]
@[simp] theorem ZEB(b:Ae):AG (.str b) .non=O':=by erw[AG]
@[simp] theorem ZEQ(b:Bool):AG (.bl b) .non=O':=by erw[AG]
@[simp] theorem ZEN(a b:U D):AG (.tup a) (.tup b)=Cw a b:=by erw[AG]
@[simp] theorem ZEK(a b:U D):AG (.lst a) (.lst b)=Cw a b:=by erw[AG]
@[simp] theorem ZET(a b:U D):AG (.tup a) (.lst b)=O':=by erw[AG]
@[simp] theorem ZED(a b:U D):AG (.lst a) (.tup b)=O':=by erw[AG]
@[simp] theorem ZEO(a:U D)(b:Int):AG (.tup a) (.int b)=O':=by erw[AG]
@[simp] theorem ZEY(a:U D)(b:Ae):AG (.tup a) (.str b)=O':=by erw[AG]
@[simp] theorem ZEC(a:U D):AG (.tup a) .non=O':=by erw[AG]
@[simp] theorem ZEy(a:U D)(b:Bool):AG (.tup a) (.bl b)=O':=by erw[AG]
@[simp] theorem ZEF(a:U D)(b:Int):AG (.int b) (.tup a)=O':=by erw[AG]
@[simp] theorem ZEM(a:U D)(b:Ae):AG (.str b) (.tup a)=O':=by erw[AG]
@[simp] theorem ZEA(a:U D):AG .non (.tup a)=O':=by erw[AG]
@[simp] theorem ZE0(a:U D)(b:Bool):AG (.bl b) (.tup a)=O':=by erw[AG]
@[simp] theorem ZEH(a:U D)(b:Int):AG (.lst a) (.int b)=O':=by erw[AG]
@[simp] theorem ZEP(a:U D)(b:Ae):AG (.lst a) (.str b)=O':=by erw[AG]
@[simp] theorem ZE7(a:U D):AG (.lst a) .non=O':=by erw[AG]
@[simp] theorem ZE3(a:U D)(b:Bool):AG (.lst a) (.bl b)=O':=by erw[AG]
@[simp] theorem ZEU(a:U D)(b:Int):AG (.int b) (.lst a)=O':=by erw[AG]
@[simp] theorem ZEV(a:U D)(b:Ae):AG (.str b) (.lst a)=O':=by erw[AG]
@[simp] theorem ZEE(a:U D):AG .non (.lst a)=O':=by erw[AG]
@[simp] theorem ZEq(a:U D)(b:Bool):AG (.bl b) (.lst a)=O':=by erw[AG]
@[simp] theorem ZDT:Cw [] []=J':=by erw[Cw]
@[simp] theorem ZDq(a b:D)(c bs:U D):Cw (a::c) (b::bs)=(AG a b&&Cw c bs):=by erw[Cw]
@[simp] theorem ZEp(b:D)(bs:U D):Cw [] (b::bs)=O':=by erw[Cw]
@[simp] theorem ZEv(b:D)(bs:U D):Cw (b::bs) []=O':=by erw[Cw]
@[simp] theorem ua:∀(a b:U Int),Cw (a.map D.int) (b.map D.int)=decide (a=b)
  |[],[]=>by simp
  |[],_::_=>by simp
  |_::_,[]=>by simp
  |x::a,y::b=>by simp[ua a b]
@[simp] theorem ZEe(n:Nat)(a:U Int):(a.map D.int).all (AT n)=J':=by
  rw[CZ]
  intro x b
  obtain⟨i,_,rfl⟩:=Be.mp b
  cases n<;>rfl
@[simp] theorem ZEu(t n:String):Lq t n=(t==n||(t=="bool"&&n=="int")):=rfl
@[simp] theorem ZCy:GA=["NoneType","bool","int","str","tuple","list"]:=rfl
@[simp] theorem Hm:ZT=12:=rfl
@[simp] theorem ZD8:C0.tysL []=Z []:=rfl
@[simp] theorem ZDp(n:String)(r:U D):C0.tysL (.ty n::r)=(C0.tysL r).map (n::·):=rfl
@[simp] theorem ZEs(ns:U Int):G7 (ns.map D.int)=Z ns:=XV ns
@[simp] theorem aU:∀(ns:U Bool),HS (ns.map D.bl)=Z ns
  |[]=>rfl
  |n::ns=>by erw[A3,HS,aU ns];rfl
theorem Zx{c:Type}{b:D->VE->O VE}{e:AB}{ρ:VE}(G F:c->D):∀(xs:U c),(∀x∈xs,∃a,b (G x) ρ=Z a/\e a=Z (F x))->ZH b (λ_=>Z J') e ρ (xs.map G)=Z (xs.map F)
 |[],_=>rfl
 |x::xs,h=>by
  obtain⟨a,d,f⟩:=h x Bk
  erw[A3,ZH,d,f,Zs,De,Zx G F xs λy g=>h y (Bu _ g)]
@[simp] theorem Zk{a:Type}(l:U a)(h:l.length<=1000000):Zd (Z l)=Z l:=by
  have:l.length<=AA:=BJ h (by ext)
  simp[this]
theorem aV{a c:Type}(f:a->c)(xs:U a)(lo b:O Int):E4 (xs.map f) lo b=(E4 xs lo b).map f:=by simp_all [E4]
theorem aX{b:Type}(xs:U b)(k:Int)(h:0<=k):E4 xs J (Z k)=xs.take k.toNat:=by
 unfold E4
 rw[show HT.sIx xs.length 0 J=0 from rfl,show HT.sIx xs.length xs.length (Z k)=min k.toNat xs.length by erw[HT.sIx];split<;>lia,List.drop_zero,Nat.sub_zero]
 rcases Nat.le_total k.toNat xs.length with a|a
 ·rw[Nat.min_eq_left a]
 ·rw[Nat.min_eq_right a,List.take_length,Sd a]
theorem Pu{b:Type}(xs:U b)(k:Int)(h:0<=k):E4 xs (Z k) J=xs.drop k.toNat:=by
 unfold E4
 rw[show HT.sIx xs.length xs.length J=xs.length from rfl,show HT.sIx xs.length 0 (Z k)=min k.toNat xs.length by erw[HT.sIx];split<;>lia]
 rcases Nat.le_total k.toNat xs.length with a|a
 ·simp_all [Nat.min_eq_left,Sd,List.length_drop,A5]
 ·rw[Nat.min_eq_right a,List.drop_length,List.drop_of_length_le a,List.take_nil]
theorem S7(j:Int)(a:0<=j)(h:j<1000000000):DR [.int j]=Z ((Bf j.toNat).map λ(k:Nat)=>D.int k):=by grind [HN,DR,MJ]
theorem Hn(n:Nat)(h:n<1000000000):DR [.int n]=Z ((Bf n).map λ(k:Nat)=>D.int k):=by
 rw[S7 _ (Pw n) (Int.lt_toNat.mp h),Jf]
theorem ub(i j:Int)(c:0<=i)(a:i<1000000000)(h:j<1000000000)(b : -1000000000<j):MK [.int i,.int j]=Z ((Bf (j-i).toNat).map λ(k:Nat)=>D.int (i+(k:Int))):=by
 erw[MK]
 rw[MJ #[by lia,by exact Int.lt_of_add_one_le a,by exact Int.le_of_lt b,by exact Int.lt_of_add_one_le h]]
 rfl
theorem uc(xs ys:U D)(h:xs.length+ys.length<=1000000):Zw (.lst xs) (.lst ys)=Z (.lst (xs++ys)):=by
 erw[Zw]
 rw[if_pos (BJ h (by ext))]
theorem S8(neg:Bool)(c:Nat)(z:Ae):DC neg (.str #[(T' [c])]) (.str z)=Z (.bl (if neg then !decide (c∈z.cps.toList)else decide (c∈z.cps.toList))):=by
 have h:=StrLaws.found_one z c
 simp_all
@[simp] theorem aY(d:D):Dd (.val d)=d:=rfl
@[simp] theorem DZ(xs:U D)(b:Kd):Dd (.own xs b)=.lst xs b:=rfl
end L2
set_option backward.eqns.nonrecursive true
set_option tactic.hygienic true
namespace L2
open PySem PySem.Spec PyProof.Rows PySem.W
structure Px(Y:Cx)(es:List Expr)(h:IS->Option Ae):Prop where
 h:∀pos pins s I H φ S c,Inv Y pins I H s->Bb Y.K φ S I H->h S=Z c->wpAny (Af Y.prog Y.w) Y.A (spliced (Ay pos (AE es Y.env))) (λ_ _=>False) (DL Y pins I H c) s
structure Ku(Y:Cx)(b:List Au)(h:IS->Option Ae):Prop where
 h:∀pins s I H φ S c,Inv Y pins I H s->Bb Y.K φ S I H->h S=Z c->wpAny (Af Y.prog Y.w) Y.A (execs b Y.env) (λ_ _=>False) (λe s'=>∃σ',DL Y pins σ' H c e s') s
@[simp] def ud(i:Nat)(o:O D)(h:IS->O Ae)(s:IS):O Ae:=o.bind λd=>h (s.1.set i (.val d),s.2)
@[simp] def ue(o:O IV)(r:O Ae):O Ae:=o.bind λ_=>r
def LS(K:Am)(g:IS->O (Bool×Gh)):TT:=λc H Q=>∃d s r,Bb K d s c H/\g s=Z r/\∀a b,Bb K a (s.1,r.2) c b->Go d s.2 H a r.2 b->Q r.1 b
@[simp] def Ib(F:D->D->O D)(o:O (IV×Gh))(f:IS->O D)(s:IS):O (IV×Gh):=match o with
  |some (.val d,G)=>(f (s.1,G)).bind λa=>(F d a).map λb=>(.val b,G)
  |_=>J
@[simp] def Nq(o:O (IV×Gh)):O (Bool×Gh):=match o with
  |some (.val (.bl b),G)=>Z (b,G)
  |_=>J
@[simp] def Py(o:O (Bool×Gh))(a c:IS->RI)(s:IS):RI:=match o with
  |some (b,G)=>if b=J' then a (s.1,G)else c (s.1,G)
  |none=>.fail
section
variable{e o a b:Expr}{Ax as bs:U Au}{h h1 h2:IS->O Ae}{g1 g2:IS->RI}{p:Az}{g:IS->O IV}{f:IS->O D}{t:IS->O Bool}{x c m:Ae}
theorem uf(z:GG Y bs h):Ku Y bs h:=#[λa s b H d S c e R q=>CU (z.h a s b H d S c e R q) (λ_ _ z=>z) λ_ _ z=>#[b,z]]
theorem ug{i:Nat}{a:Az}(nx:Hb Y)(n:Y.N.Nodup)(o:JE Y e (tJ Y.K f))(z:Ku Y Ax h)(p:Y.N[i]?=Z x:=by rfl)(r:Loc Y.env.scope x:=by first|exact .inl rfl|exact .inr rfl)(t:Dv e (Z (.Name x a)) pos.line Y.env=AC O':=by rfl)(w:Y.fn x=J'\/Y.env.scope.names.lookup x=Z .local:=by first|exact .inl rfl|exact .inr rfl|assumption):
  Ku Y (.Assign [.Name x a] e pos::Ax) (λs=>ud i (f s) h s):=#[λb s y H k S c M R q=>by
 obtain⟨d,hd,q⟩:=BL.mp q
 refine Oj (CU (K3 n p r o.h t w b s y H {nx:=λg l=>Ai H l/\Bb Y.K k (S.1.set i (.val d),S.2) g l,rt:=λ_ _=>False} M #[k,S,d,R,hd,λv l sm A=>#[sm,(R.same sm).put i A]]) (λB C j=>?_) λe E z=>(nx e E z).elim)
 cases B with
 |next=>
  obtain⟨m,G,F,sm,L⟩:=j
  exact CU (z.h b C m G k _ c F L q) (λ_ _ z=>z) λ_ _ ⟨g,z⟩=>#[g,z.from sm]
 |ret u=>obtain⟨_,_,_,_,_,z⟩:=j;exact z.elim
 |brk=>obtain⟨_,_,_,z⟩:=j;exact z.elim
 |cont=>obtain⟨_,_,_,z⟩:=j;exact z.elim]
theorem uh(z:Kr Y e h)(b:AE (e::es) Y.env=(O',Ao e Y.env)::AE es Y.env:=by exact Z1 rfl):Px Y (e::es) h:=#[λpos a s d H f S c g R q=>by
 rw[b]
 show wpAny _ _ (spliced ((O',Ao e Y.env)::Ay pos (AE es Y.env))) _ _ s
 exact Calls.spliced_cons (CU (z.h a s d H f S c g R q) (λ_ _ z=>z.elim) λ_ _ z=>z)]
theorem ui(nx:Hb Y)(j:JE Y e (Pl Y.K g))(z:Px Y es h)(k:AE (e::es) Y.env=(O',Ao e Y.env)::AE es Y.env:=by exact Z1 rfl):Px Y (e::es) (λs=>ue (g s) (h s)):=#[λpos a s f H i S c p R q=>by
 obtain⟨d,hd,q⟩:=BL.mp q
 rw[k]
 show wpAny _ _ (spliced ((O',Ao e Y.env)::Ay pos (AE es Y.env))) _ _ s
 refine Calls.spliced_cons (CU (j.h a s f H (λv b=>Ai H b) p #[i,S,d,R,hd,λv b sm _=>sm]) (λu l ⟨x,b,m,o,sm⟩=>?_) λe n z=>(nx e n z).elim)
 exact CU (z.h pos a l f b i S c m (R.same sm) q) (λ_ _ z=>z.elim) λ_ _ z=>z.from sm]
theorem uj(nx:Hb Y)(o:JT Y a (No Y.K t))(p:GG Y as h1)(r:GG Y bs h2):GG Y (.If a as bs pos::Ax) (λs=>FP (t s) (h1 s) (h2 s)):=#[λb s c H f S n x R q=>by
 cases g:t S with
 |none=>rw[g]at q;cases q
 |some k=>
  rw[g]at q
  refine Oj (wpAny_If (CU (o.h b s c H (λu i=>u=k/\Ai H i) x #[f,S,k,R,g,λi sm=>#[rfl,sm]]) (λd j ⟨l,m,v,sm⟩=>?_) λe w z=>(nx e w z).elim))
  subst v
  cases d with
  |true=>exact CU (p.h b j c l f S n m (R.same sm) q) (λ_ _ z=>z.elim) λ_ _ z=>z.from sm
  |false=>exact CU (r.h b j c l f S n m (R.same sm) q) (λ_ _ z=>z.elim) λ_ _ z=>z.from sm]
theorem aZ{r:R2}{F:D->D->O D}(o:Dx Y.K r F){Q:VK}(t:CC Y.K (λs=>Ib F (gx s) f s) I H Q):JR r (CC Y.K gx) (tJ Y.K f) I H Q:=by
 obtain⟨u,s,r,R,e,q⟩:=t
 unfold Ib at e
 dsimp only at e
 split at e
 ·next d G w=>
  obtain⟨n,x,e⟩:=BL.mp e
  obtain⟨b,y,rfl⟩:=BG.mp e
  exact#[u,s,_,R,w,λc z L j k l=>#[c,(s.1,G),n,j,x,λA B sm m=>o (LV c G) B z A d n b Q (λa h=>(j.g.same sm).nh h) (As.same k sm).p m.p y λv C i E=>q c v C (j.same (sm.trans i)) E (l.trans (Go.same (sm.trans i)))]]
 ·cases e
theorem uk{Q:Bool->Hp->Prop}(z:LS Y.K (λs=>Nq (gx s)) I H Q):tB (CC Y.K gx) I H Q:=by
 obtain⟨c,s,r,R,e,q⟩:=z
 unfold Nq at e
 dsimp only at e
 split at e
 ·next b G d=>cases e;exact#[c,s,_,R,d,λa v f g h go=>#[b,h,q a f g go]]
 ·cases e
theorem ul{op:CmpOp}{r:R2}{F:D->D->O D}(c:B2 Y (C8 op) r)(d:Dx Y.K r F)(e:JE Y a (CC Y.K gx))(g:JE Y b (tJ Y.K f))(i:FA op b=O'):JT Y (.Compare a [op] [b] pos) (LS Y.K λs=>Nq (Ib F (gx s) f s)):=#[(Rp c e.h g.h i).mono λj H Q z=>aZ d (uk z)]
theorem um(d:JT Y a (LS Y.K gb))(e:JB Y as (tK Y.K g1))(f:JB Y bs (tK Y.K g2)):JS Y (.If a as bs pos) (tK Y.K λs=>Py (gb s) g1 g2 s):=#[(Om d.h e.h f.h).mono λD l H g=>by
 obtain⟨i,s,R,q⟩:=g
 unfold Py at q
 dsimp only at q
 split at q
 ·next k m j=>
  refine#[i,s,_,R,j,λb n c go=>?_]
  cases k with
  |true=>exact IN #[b,_,c,CH.from go q]
  |false=>exact IP #[b,_,c,CH.from go q]
 ·exact q.elim]
end
theorem a0{P:AI}{w:Ah}{K:Am}{mg:Bl}{base:Ak}{nm a:Ae}{st:Au}{fn:Ac}{fd:B6}{N d:U Ae}{k:Nat}{h:IS->O Ae}(F:HE K nm a st fn fd)(S:Z8 N d (Zf st))
  (r:∀(b:Aa) (A:Ag) (outer:U Env) (s:Ab) (H:Hp) (E:XK),AF k (A.deeper (A0 a (Zf st) s.heap.objs.size fn b)) ->
   Ku (CK Bg P w K mg base N a (Zf st) fn b A outer s H E).nox (ZI st) h):AQ P w K mg base (Jd P w) (k+1) fn fd d (Hi K (Ji d.length N.length h)):=by
 obtain⟨oc,od,kV,u,pm,an,b,ct,x,rfl,y,j⟩:=F.ex
 have len:∀e H Q E,Hi K (Ji d.length N.length h) e H Q E->e.length=d.length:=λe H Q E z=>by
  obtain⟨l,G,p,c,R,m,i,q⟩:=z
  grind [Ji,Jh]
 refine WH y j S len λA outer s H e Q E B z=>?_
 obtain⟨l,G,p,c,R,m,i,q⟩:=z
 obtain⟨C,i⟩:=ZX i
 have W:FE N e=e.map Z++C9 (N.length-d.length) J:=by unfold FE;rw[<- Jh m,C]
 refine#[λD n f=>D={nx:=λ_ o=>Q .non o,rt:=Q}/\f=H/\Bb K l (p++C9 (N.length-d.length) .no,G) n H,λg L n f D zB M=>?_,rfl,rfl,by rw[W];exact aI R m _]
 obtain⟨_,rfl,X⟩:=M
 refine CU ((r b A outer s f E B).h g L n f l _ c (zB.wish _) X i) (λ_ _ z=>z.elim) λv T z=>?_
 obtain⟨zA,D',e1,t⟩:=z
 exact qP (Y:=(CK Bg P w K mg base N a (Zf st) fn b A outer s f E).nox) rfl rfl rfl (Ai.refl f) t λo e2=>q D' o e1 e2
def OX(P:AI)(w:Ah)(K:Am)(mg:Bl)(base:Ak)(k:Nat)(nm:Ae)(sp:Sp):Prop:=∃st a fn fd,DI K mg nm st a fn fd/\AQ P w K mg base (Jd P w) k fn fd a sp
section
variable{P:AI}{w:Ah}{K:Am}{mg:Bl}{base:Ak}{nm qual:Ae}{st:Au}{k:Nat}{hx:IS->O Ae}(N:U Ae)
theorem uo(D:DX K mg (nm,st,ps))
  (h:∀(fn:Ac) (g:Aa) (A:Ag) (outer:U Env) (s:Ab) (H:Hp) (E:XK),XI P w K mg base (CK Bg P w K mg base N nm (Zf st) fn g A outer s H E).nox N (Zf st)->AF k (A.deeper (A0 nm (Zf st) s.heap.objs.size fn g)) ->
   Ku (CK Bg P w K mg base N nm (Zf st) fn g A outer s H E).nox (ZI st) hx) (S:Z8 N ps (Zf st):=by exact Kl):OX P w K mg base (k+1) nm (Hi K (Ji ps.length N.length hx)):=
 let⟨fn,fd,D⟩:=D
 #[st,ps,fn,fd,D,a0 D.F S (λa b c d e f r=>h fn a b c d e f #[rfl,rfl,rfl,rfl,rfl,rfl,rfl,S.nd] r)]
theorem a7(D:MX K C (nm,qual,st,ps))
  (h:∀(fn:Ac) (g:Aa) (A:Ag) (outer:U Env) (s:Ab) (H:Hp) (E:XK),XI P w K mg base (CK Bg P w K mg base N qual (Zf st) fn g A outer s H E).nox N (Zf st)->AF k (A.deeper (A0 qual (Zf st) s.heap.objs.size fn g)) ->
   Ku (CK Bg P w K mg base N qual (Zf st) fn g A outer s H E).nox (ZI st) hx) (S:Z8 N ps (Zf st):=by exact Kl):OM P w K mg base C (Jd P w) (k+1) nm (Hi K (Ji ps.length N.length hx)):=
 let⟨fn,fd,D⟩:=D
 #[qual,st,ps,fn,fd,D,a0 D.F S (λa b c d e f r=>h fn a b c d e f #[rfl,rfl,rfl,rfl,rfl,rfl,rfl,S.nd] r)]
end
section
variable{P:AI}{w:Ah}{K:Am}{mg:Bl}{base:Ak}{N:U Ae}{n:Nat}(h:XI P w K mg base X N sc)(r:AF n X.A)
include h
include r in
end
section
variable{K:Am}{Q:VK}{m i:Nat}{D':Ends}
theorem uq(h:Nn fl K (jG m ff) I H Q):∃M H0,ED fl K M H0 ff I H Q:=by
 obtain⟨o,s,p,R,e,q⟩:=h
 obtain⟨r,c,e⟩:=BL.mp e
 split at e
 ·next d=>cases e;exact#[_,_,_,_,R.vw,c,λa f i sm j k l=>q a f i sm j k (Ad.up R.g sm _ _ d (l.nw λb n=>.inl (n.imp .inl id)))]
 ·cases e
theorem ur(h:CC K (λs=>xF fl (gf s) s) I H Q):Nn fl K gf I H Q:=by
 obtain⟨c,s,r,R,e,q⟩:=h
 obtain⟨l,d,rfl⟩:=BG.mp e
 refine#[c,s,l,R,d,λa f i sm j k m=>q c _ i (R.same sm) ?_ (Go.same sm)]
 erw[A9,As]
 exact#[a,f,rfl,.of (λz=>R.g.nh z j) k,m.nw λb n=>.inl (.inl n)]
theorem ut(h:tK K (λs=>CM i (gx s) s) D' I H):CC K gx I H λx c=>JP i x I c D'.nx:=by
 obtain⟨d,s,R,q⟩:=h
 dsimp only at q
 cases a:gx s with
 |none=>rw[a]at q;exact q.elim
 |some r=>rw[a]at q;exact#[d,s,r,R,a,λb v e f g go=>q b _ e (f.put i g) go]
end
section
variable{K:Am}{f:VE->A2}{b:D->VE->O VE}{t:VE->O Bool}{e:AB}{spos:Az}{oix:U Nat}{n i m:Nat}{N:U Ae}{x:Ae}{P:AI}{w:Ah}{K0:Am}{mg:Bl}{base:Ak}
theorem uv(h:XI P w K0 mg base X N sc)(q:CQ N sc scope n oix)(o:X.calm=J')(E:K0=X.K)(c:N[i]?=Z x)(p:sc.names.lookup x=Z .local)(r:∀M H0,JI X tg iter (tI X.K M H0 f))(d:CB X.K X (Hk scope) (oN N oix) scope tg ifs elt ws b t e)(u:∀j∈ws,j<n)(k:Dv (.ListComp elt [#[tg,iter,ifs,0]] scope pos) (Z (.Name x pos')) spos.line X.env=AC J':=by rfl)(v:∀x,EU iter X.env x=AC x:=by intro _;rfl):
  JS X (.Assign [.Name x pos'] (.ListComp elt [#[tg,iter,ifs,0]] scope pos) spos) (tK X.K λs=>CM i (xF .l (jG m (Zi n oix f b t e) s) s) s):=by
 obtain⟨_,_,G,_,_,rfl,rfl,nd⟩:=h
 obtain⟨S,rfl,y⟩:=q
 exact#[λa s A H B F z=>by
  obtain⟨M,H0,C⟩:=uq (ur (ut z))
  exact OB _ _ oix S y o nd c p (r M H0).h d.g d.t d.e k v a s A H B F (MO u (λ_ _ _ z=>z) C)]
end
@[simp] def Pz(o:O (Bool×Gh))(t:IS->O Bool)(s:IS):O (Bool×Gh):=match o with
  |some (J',G)=>Z (J',G)
  |some (O',G)=>(t (s.1,G)).map λb=>(b,G)
  |none=>J
section
variable{a b:Expr}{h:IS->O Ae}{f:IS->O D}{t:IS->O Bool}
theorem uw(c:JE Y a (CC Y.K gx))(d:JE Y b (tJ Y.K f))(e:Lb b:=by exact λ_ _=>rfl):JE Y (.Subscript a b pos) (CC Y.K λs=>Ib Ap (gx s) f s):=#[(WR WW c.h d.h e).mono λ_ _ _ z=>aZ XB z]
theorem ux(j:JT Y a (LS Y.K gb))(l:JT Y b (No Y.K t)):JT Y (.BoolOp .Or [a,b] pos) (LS Y.K λs=>Pz (gb s) t s):=#[(Wa j.h (V9 l.h)).pt.mono λo H Q z=>by
 obtain⟨g,s,r,R,e,q⟩:=z
 unfold Pz at e
 dsimp only at e
 split at e
 ·next G f=>cases e;exact#[g,s,_,R,f,λc i d go=>IN (q c i d go)]
 ·next G f=>
  obtain⟨k,m,rfl⟩:=BG.mp e
  exact#[g,s,_,R,f,λc i d go=>IP #[c,(s.1,G),k,d,m,λn sm=>q c n (d.same sm) (go.trans (Go.same sm))]]
 ·cases e]
theorem uy(z:Kr Y a h):Kr Y (.Subscript a b pos) h:=#[λd s e H f S c g R q=>Subscript_ (CU (z.h d s e H f S c g R q) (λ_ _ z=>z.elim) λ_ _ z=>z)]
end
section
variable{K:Am}{M:Fb}{e:Expr}
def Nr(i:Nat)(o:O (D×VE)):DA:=match o with
 |some (d,a)=>.next (a.set i (.val d))
 |none=>.fail
theorem a9{i:Nat}{x:Ae}{a:Az}(g:X.N.Nodup)(c:JE X e (tX K M H0 fx))(j:X.N[i]?=Z x:=by rfl)(k:Loc X.env.scope x:=by first|exact .inl rfl|exact .inr rfl)(l:Dv e (Z (.Name x a)) pos.line X.env=AC O':=by rfl)(b:X.fn x=J'\/X.env.scope.names.lookup x=Z .local:=by first|exact .inl rfl|exact .inr rfl|assumption):
  JS X (.Assign [.Name x a] e pos) (tS K M H0 λρ=>Nr i (fx ρ)):=#[have c:=c.h;(K3 g j k c l b).mono λu w H m=>by
 obtain⟨ρ,R,q⟩:=m
 try dsimp only at q
 cases b:fx ρ with
 |none=>rw[b]at q;exact BP q
 |some p=>
  obtain⟨d,f⟩:=p
  rw[b]at q
  refine#[ρ,d,f,R,b,λv n o S r=>?_]
  obtain⟨s,t⟩:=o.setV (i:=i) (Ai.refl n) r
  exact q _ _ s (S.trans t)]
end
section
variable{M:Fb}{a b:Expr}{f g:VE->O D}
theorem uz(e:X.A.units+64<Aq)(c:JE X a (tP X.K M H0 f))(d:JE X b (tP X.K M H0 g))(i:FA .In b=O':=by with_unfolding_all rfl):JT X (.Compare a [.In] [b] pos) (BC X.K M H0 λρ=>AR (Za (DC O') f g ρ)):=#[have c:=c.h;have d:=d.h;HJ ((R8 O' e).or Wp) (R9 O') c d i]
end
theorem uA{P:AI}{w:Ah}{K:Am}{mg:Bl}{base:Ak}{a:U Ae}{nm:Ae}{st:Au}(D:DX K mg (nm,st,a)):OF P w K mg base 0 nm (AU K λ_=>J):=by
 obtain⟨fn,fd,D⟩:=D
 refine#[st,a,fn,fd,D,#[λ_ _ _ _ z=>?_,λ_ _ _ _ _ _ _ _ _ _ _ _ _ z=>?_]]<;>(obtain⟨_,_,_,_,_,e,_⟩:=z;cases e)
end L2
set_option tactic.hygienic false
namespace K59
open PySem PySem.Spec PyProof.Rows L2
section
set_option hygiene false in
local macro_rules | `(#[$a,*])=>do let w:Lean.Term <- a.getElems.foldrM (λx w=>if x.raw.isNatLit?.isSome then `(Zs (Ec r $x) $w)else `(Zs (Ed $x) $w)) (<- `(some []));return w
set_option hygiene false in
local macro_rules | `(#v[$a,*])=>`(λr=>#[$a,*])
local macro_rules | `(!$n:num)=>`(λr=>Bd r $n)
local macro_rules | `(~~~$n:num)=>`(λ_=>some (.int $n))
local macro_rules | `(∅)=>`(λr=>.next r)
local macro_rules | `($a >>> $b)=>`(λr=>Ze ($a r) $b)
local macro_rules | `($a <<< $b)=>`(λr=>ZN ($a r) $b)
noncomputable def CS:U Ae:=["NoGrain","NoPick"]
def PB:Ar:=λr=>Ze (Zy (B9 (FH (AR ((Zl Ca #v[0,Z (.ty "int")]) r)) (AR (B9 (Z2 (AR ((Zl Ca #v[0,Z (.ty "bool")]) r)))))))) ∅
def F6:=AL 1 1 PB
def PF:AB:=λr=>B9 (Dy (AR ((Za (DC O') (!0) (λ_=>Z (.str "abcdefghijklmnopqrstuvwxyz"))) r)) (AR ((Za (DC O') (!0) (λ_=>Z (.str "0123456789"))) r)))
def Kv:Ar:=λr=>Ze (ZG (Z2 (ZQ ((Zl Ca #v[0,Z (.ty "str")]) r))) (Ze (Zy (Z (.bl O'))) ∅) (.next r)) (λr=>Ze (ZG (Dy (AR ((Za F4 (Zl Zt #v[0]) (~~~1)) r)) (AR ((Za E3 (Zl Zt #v[0]) (~~~12)) r))) (Ze (Zy (Z (.bl O'))) ∅) (.next r)) (λr=>Ze (Zy (B9 (FH (AR ((Za (DC O') (Za Ap (!0) (~~~0)) (λ_=>Z (.str "abcdefghijklmnopqrstuvwxyz"))) r)) (AR ((Zl Dq #v[Zr ((Zi 1 [] (λr=>(BB r 0).bind Zv) (Zc 0) (λ_=>Z J') PF) r)]) r))))) ∅))
def Ic:=AL 1 1 Kv
def bc:Ar:=λr=>Ze (Zy ((Zl Zt #v[(Za Ap (!0) (~~~0)) r]) r)) ∅
def Nt:=AL 1 1 bc
def S9:Ar:=λr=>Ze (Zy (J4 (AR ((Za F4 (!1) (Zl Zt #v[0])) r)) ((Za Ap (!0) (!1)) r) (Z .non))) ∅
def Fu:=AL 2 2 S9
def be:AB:=(~~~0)
def bf:Ar:=λr=>Ze (Zy ((Zl Dp #v[Zr ((Zi 1 [] (λr=>(BB r 0).bind Zv) (Zc 0) (λ_=>Z J') be) r)]) r)) ∅
def Nu:=AL 1 1 bf
def bg:Ar:=λr=>Ze (Zy ((Zd (#[(Zl Zt #v[0]) r,(Zl OY #v[0]) r,(Zl MZ #v[0]) r,(Zl M0 #v[0]) r].bind Zg)).map D.tup)) ∅
def PH:=AL 1 1 bg
def bh:Ar:=λr=>Ze (Zy ((Zd (#[(Za Zw (Za Ap (!0) (~~~0)) (Za Ap (!1) (~~~0))) r,(Za Zw (Za Ap (!0) (~~~1)) (Za Ap (!1) (~~~1))) r,(Zl OV #v[(Za Ap (!0) (~~~2)) r,(Za Ap (!1) (~~~2)) r]) r,(Zl OU #v[(Za Ap (!0) (~~~3)) r,(Za Ap (!1) (~~~3)) r]) r].bind Zg)).map D.tup)) ∅
def LU:=AL 2 2 bh
def Kw:AB:=(Za (C4 O') (!1) (!0))
def Nv:Ar:=λr=>Ze (Zy ((Zl Dq #v[Zr ((Zi 2 [] (FV (λr=>BB r 0) (λr=>BB r 1)) (ZW 2 (Zm (Zc 0) (Zm (Zc 1) ZU))) (λ_=>Z J') Kw) r)]) r)) ∅
def Jj:=AL 2 2 Nv
def Ta:Ba:=λs=>ZN (Ek (jT 2 (λr=>AR ((Za MP (Zl Zt #v[0]) (~~~200)) r)) s) (ZN (.fail) ∅) (.next s)) (λs=>ZN (Hg (Pq (Dl s 0) ((jE 0 (λr=>A1 r 1)) s) s) s) ∅)
def Tb:=El 2 2 Ta
def uB:Ba:=λs=>ZN (Ek (jT 2 (λr=>AR ((Za (DC J') (!1) (!0)) r)) s) (ZN (.fail) ∅) (.next s)) (λs=>ZN (Hg (SY (Dl s 0) ((jE 0 (λr=>A1 r 1)) s) s) s) ∅)
def bi:=El 2 2 uB
def Tc:Ar:=λr=>Ze (ZK ((EE G6 #v[(Bd r 0).bind (Cz "Book" "standing")]) r)) ∅
def PJ:=AL 1 1 Tc
def Td:Ar:=λr=>Ze (ZK (LM ((Bd r 0).bind (Cz "Book" "tables")))) ∅
def Te:=AL 1 1 Td
def Tf:Ar:=λr=>Ze (ZG (AR ((Za F4 (!1) (Zl Zt #v[0])) r)) (Ze (Zy ((Za Ap (!0) (!1)) r)) ∅) (.next r)) (λr=>Ze (Zy (Z (.int 0))) ∅)
def ZE:=AL 2 2 Tf
def PM:Ar:=λr=>Ze (ZF 2 ((Za ZJ (Za Zw (Za Zw (Za Zw (Za DB (!2) (~~~45742)) (Za Fl (!2) (~~~46949))) (Za DB (~~~29) (!4))) (~~~11)) (~~~2147483647)) r) r) (λr=>Ze (Ef 3 ((Za Fl (!2) (~~~8)) r) r) ∅)
def bj:Ar:=λr=>ZF 2 ((Za Zw (Za ZJ (!0) (~~~2147483549)) (~~~17)) r) r
def bn:Ar:=λr=>ZS 3 (Zd ((Z []).bind Zg)) r
def bo:Ar:=(Cu (λr=>(#[(Za Zw (!1) (~~~2)) r].bind Zg).bind DR) (Zc 4) PM)
def bp:Ar:=λr=>Zy ((DJ (!3) (λr=>DS (Z (.int 2))) (λ_=>Z J) DT) r)
def uC:Ar:=λr=>.next r
def bq:=bp >>> uC
def br:=bo >>> bq
def bt:=bn >>> br
def bu:=bj >>> bt
def bv:Ar:=bu
def Ho:=AL 2 5 bv
def PN:AB:=(Za Ap (!1) (Za ZJ (Za Zw (Za Fl (!2) (Za Zw (!0) (~~~2))) (Za DB (~~~4) (!0))) (Za Ap (λr=>Zr (Zd (#[Z (.int 36),Z (.int 26)].bind Zg))) (Zl intD #v[(Za BY (!0) (~~~0)) r]))))
def bw:Ar:=λr=>ZG (AR ((Za BY (!1) (~~~0)) r)) (Ze (Zy ((Za Zw (Za Ll (Za ZJ (!0) (Za HP (~~~10) (~~~30))) (Za DB (~~~5) (Za HP (~~~10) (~~~29)))) (!2)) r)) ∅) (.next r)
def bz:Ar:=λr=>ZF 3 (Z (.str "abcdefghijklmnopqrstuvwxyz0123456789")) r
def bA:Ar:=λr=>ZF 4 ((Za Zw (~~~1) (Za ZJ (!0) (~~~12))) r) r
def bB:Ar:=λr=>ZF 5 ((Za ZJ (Za Fl (!0) (~~~12)) (!4)) r) r
def bC:Ar:=λr=>ZS 6 ((Zi 1 [3,0] (λr=>(#[A1 r 4].bind Zg).bind DR) (Zc 0) (λ_=>Z J') PN) r) r
def bD:Ar:=λr=>OZ 6 (Bd r 5) ((Za Ap (!3) (Za ZJ (Za Zw (Za Zw (Za Fl (!0) (Za Zw (!5) (~~~2))) (Za DB (~~~4) (!5))) (Za DB (~~~5) (!2))) (Za Ap (λr=>Zr (Zd (#[Z (.int 36),Z (.int 26)].bind Zg))) (Zl intD #v[(Za BY (!5) (~~~0)) r])))) r) r
def bE:Ar:=λr=>Zy ((O0 O1 (λ_=>Z (.str "")) #v[6]) r)
def uD:Ar:=λr=>.next r
def bF:=bE >>> uD
def bG:=bD >>> bF
def bH:=bC >>> bG
def bI:=bB >>> bH
def bJ:=bA >>> bI
def bK:=bz >>> bJ
def bL:=bw >>> bK
def bM:Ar:=bL
def Jk:=AL 3 7 bM
def PP:Ar:=λr=>Ze (ZG (AR ((Za BY (!1) (Zl Zt #v[0])) r)) (Ze (Zy (Z .non)) ∅) (.next r)) (λr=>Ze (Zy ((Za Ap (!0) (!1)) r)) ∅)
def Tg:=AL 2 2 PP
def Th:Ar:=λr=>Ze (ZF 2 (Zr (Zd (#[Zr ((EE G6 #v[0]) r),(Za Zw (DJ (!0) (λ_=>Z J) (λr=>DS (Gz (Z (.int 1)))) DT) (λr=>(Zd (#[Z (.int 5)].bind Zg)).map D.tup)) r,(Za Zw (λr=>(Zd (#[Gz (Z (.int 1))].bind Zg)).map D.tup) (DJ (!0) (λr=>DS (Z (.int 1))) (λ_=>Z J) DT)) r,(Za Zw (λr=>(Zd (#[Z (.bl J')].bind Zg)).map D.tup) (DJ (!0) (λr=>DS (Z (.int 1))) (λ_=>Z J) DT)) r,Z .non,Z (.str "0"),(DJ (!0) (λ_=>Z J) (λr=>DS (Gz (Z (.int 1)))) DT) r,(Za Zw (!0) (λr=>(Zd (#[Z (.int 0)].bind Zg)).map D.tup)) r].bind Zg))) r) (λr=>Ze (ZF 2 ((Za Zw (!2) (λr=>Zr (Zd (#[(Za Zw (λr=>(Zd (#[Zr (Zd (#[Z (.int 0)].bind Zg))].bind Zg)).map D.tup) (DJ (!0) (λr=>DS (Z (.int 1))) (λ_=>Z J) DT)) r,(Za Zw (DJ (!0) (λ_=>Z J) (λr=>DS (Gz (Z (.int 1)))) DT) (λr=>(Zd (#[Zr (Zd ((Z []).bind Zg))].bind Zg)).map D.tup)) r].bind Zg)))) r) r) (λr=>Ze (Zy ((Za Ap (Za Zw (!2) (λr=>Zr (Zd (#[(Za Zw (λr=>(Zd (#[Z .non].bind Zg)).map D.tup) (DJ (!0) (λr=>DS (Z (.int 1))) (λ_=>Z J) DT)) r,(Za Zw (λr=>(Zd (#[Z (.str "0")].bind Zg)).map D.tup) (DJ (!0) (λr=>DS (Z (.int 1))) (λ_=>Z J) DT)) r,Z (.int 0),(Za Zw (λr=>(Zd (#[(Zd (#[Z (.int 0)].bind Zg)).map D.tup].bind Zg)).map D.tup) (DJ (!0) (λr=>DS (Z (.int 1))) (λ_=>Z J) DT)) r].bind Zg)))) (Za ZJ (!1) (~~~14))) r)) ∅))
def Ti:=AL 2 3 Th
def bN:Ar:=λr=>ZF 2 ((Za ZJ (Za Fl (!1) (~~~19)) (Zl Zt #v[0])) r) r
def bO:Ar:=λr=>ZF 3 (Zr (Zd (#[Z .non,Zr (Zd (#[A1 r 2,Z (.int 0),Zr (Zd ((Z []).bind Zg))].bind Zg)),(Zd (#[A1 r 2,Z (.int 0)].bind Zg)).map D.tup,(Zd (#[A1 r 2,Z (.int 0),Zr (Zd ((Z []).bind Zg)),Zr (Zd ((Z []).bind Zg))].bind Zg)).map D.tup,(Zd (#[(Zl Zt #v[0]) r,Z (.int 0),Zr (Zd ((Z []).bind Zg))].bind Zg)).map D.tup,(Zd (#[Gz (Z (.int 1)),Z (.int 0),Zr (Zd ((Z []).bind Zg))].bind Zg)).map D.tup,(Zd (#[Z (.bl J'),Z (.int 0),Zr (Zd ((Z []).bind Zg))].bind Zg)).map D.tup].bind Zg))) r
def bP:Ar:=λr=>ZF 3 ((Za Zw (!3) (λr=>Zr (Zd (#[(Zd (#[Z .non,Z (.int 0),Zr (Zd ((Z []).bind Zg))].bind Zg)).map D.tup,(Zd (#[A1 r 2,Z (.int 5),Zr (Zd ((Z []).bind Zg))].bind Zg)).map D.tup,(Zd (#[A1 r 2,Gz (Z (.int 1)),Zr (Zd ((Z []).bind Zg))].bind Zg)).map D.tup,(Zd (#[A1 r 2,Z (.bl O'),Zr (Zd ((Z []).bind Zg))].bind Zg)).map D.tup,(Zd (#[A1 r 2,Z .non,Zr (Zd ((Z []).bind Zg))].bind Zg)).map D.tup,(Zd (#[A1 r 2,Z (.int 0),Z (.str "a")].bind Zg)).map D.tup].bind Zg)))) r) r
def bQ:Ar:=λr=>ZF 3 ((Za Zw (!3) (λr=>Zr (Zd (#[(Zd (#[A1 r 2,Z (.int 0),Z .non].bind Zg)).map D.tup,(Zd (#[A1 r 2,Z (.int 0),Zr (Zd (#[Z (.bl J')].bind Zg))].bind Zg)).map D.tup,(Zd (#[A1 r 2,Z (.int 0),Zr (Zd (#[Z (.str "A")].bind Zg))].bind Zg)).map D.tup,(Zd (#[A1 r 2,Z (.int 0),Zr (Zd (#[Z (.int 1),(Zd (#[Z (.int 1)].bind Zg)).map D.tup].bind Zg))].bind Zg)).map D.tup,(Zd (#[A1 r 2,Z (.str "0"),Zr (Zd ((Z []).bind Zg))].bind Zg)).map D.tup,Z (.int 7)].bind Zg)))) r) r
def bR:Ar:=λr=>Zy ((Za Ap (!3) (Za ZJ (!1) (~~~19))) r)
def uE:Ar:=λr=>.next r
def bS:=bR >>> uE
def bT:=bQ >>> bS
def bU:=bP >>> bT
def bV:=bO >>> bU
def bW:=bN >>> bV
def Tj:Ar:=bW
def Tk:=AL 2 4 Tj
def Tn(F:U Sl->O Rv):AB:=(Zh F #v[0])
def bX(F:U Sl->O Rv):AB:=(Zh F #v[0])
def Nw(F:U Sl->O Rv):Ar:=λr=>Ze (ZG (ZQ ((Zl Ca #v[0,Z (.ty "list")]) r)) (Ze (ZK ((Zi 1 [] (λr=>(BB r 0).bind Zv) (Zc 0) (λ_=>Z J') (Tn F)) r)) ∅) (.next r)) (λr=>Ze (ZG (ZQ ((Zl Ca #v[0,Z (.ty "tuple")]) r)) (Ze (Zy ((Zl Dp #v[Zr ((Zi 1 [] (λr=>(BB r 0).bind Zv) (Zc 0) (λ_=>Z J') (bX F)) r)]) r)) ∅) (.next r)) (λr=>Ze (Zy (A1 r 0)) ∅))
def GH:Nat->U Sl->O Rv
 |0=>λ_=>J
 |n+1=>AL 1 1 (Nw (GH n))
def To:=GH 6
def bY:Ar:=λr=>Ze (Zy (B9 (Dy (AR ((Zh F6 #v[0]) r)) (AR ((Zh Ic #v[0]) r))))) ∅
def LW:=AL 1 1 bY
def bZ:Ar:=λr=>Ze (ZG (Dc (Bd r 0)) (Ze (Zy ((Zd (#[Z (.int 0),Z (.int 0)].bind Zg)).map D.tup)) ∅) (.next r)) (λr=>Ze (ZG (ZQ ((Zh F6 #v[0]) r)) (Ze (Zy ((Zd (#[Z (.int 1),A1 r 0].bind Zg)).map D.tup)) ∅) (.next r)) (λr=>Ze (Zy ((Zd (#[Z (.int 2),A1 r 0].bind Zg)).map D.tup)) ∅))
def PQ:=AL 1 1 bZ
def Tp:AB:=λr=>(Zd (#[(Zh Fu #v[0,1]) r,(Zh Fu #v[0,2]) r].bind Zg)).map D.tup
def b0:Ar:=λr=>Ze (G4 ((E6 (λr=>Zr ((Zi 1 [1,2] (λr=>(BB r 0).bind Zv) (Zc 0) (λ_=>Z J') Tp) r))) r)) ∅
def PR:=AL 3 3 b0
def Nx:Ar:=λr=>Ze (Zy (B9 (FH (AR ((Zh F6 #v[1]) r)) (AR ((Kc Lm F4 (~~~0) (!1) (Zl Zt #v[0])) r))))) ∅
def Tq:=AL 2 2 Nx
def Ny:Ar:=λr=>Ze (Zy (B9 (FH (AR ((Zh F6 #v[1]) r)) (AR ((Kc Lm Lm (~~~0) (!1) (Zh Nt #v[0])) r))))) ∅
def PU:=AL 2 2 Ny
def Tr:AB:=(Zh Nt #v[0])
def Ts:Ar:=λr=>Ze (Zy ((Zl Dp #v[Zr ((Zi 1 [] (λr=>(BB r 0).bind Zv) (Zc 0) (λ_=>Z J') Tr) r)]) r)) ∅
def Tt:=AL 1 1 Ts
def Tu:AB:=λr=>(Zd (#[(Za Ap (!0) (~~~0)) r,(Zd (#[Z (.str "out"),Z .non].bind Zg)).map D.tup].bind Zg)).map D.tup
def LX:Ar:=λr=>Ze (ZG (AR ((Za (DC O') (Za Ap (!4) (~~~0)) (!2)) r)) (Ze (GC 3 ((Za Ap (!4) (~~~0)) r) ((Zd (#[Z (.str "in"),(Zh Fu #v[4,1]) r].bind Zg)).map D.tup) r) ∅) (.next r)) ∅
def Tv:Ar:=λr=>Ze (Ee 3 ((E6 (λr=>Zr ((Zi 1 [] (λr=>(BB r 0).bind Zv) (Zc 0) (λ_=>Z J') Tu) r))) r) r) (λr=>Ze ((Cu (λr=>(BB r 0).bind Zv) (Zc 4) LX) r) (λr=>Ze (G4 (E2 r 3)) ∅))
def PV:=AL 3 5 Tv
def Tw:VE->O Bool:=λr=>AR ((Za (DC O') (Za Ap (!0) (~~~0)) (!3)) r)
def Tz:AB:=λr=>(Zd (#[(Zh Fu #v[0,1]) r,(Zh Fu #v[0,2]) r].bind Zg)).map D.tup
def TB:Ar:=λr=>Ze (G4 ((E6 (λr=>Zr ((Zi 1 [1,2,3] (λr=>(BB r 0).bind Zv) (Zc 0) Tw Tz) r))) r)) ∅
def TC:=AL 4 4 TB
def PX:Ar:=λr=>Ze (Ef 4 ((Za Zw (~~~1) (Za ZJ (Za Ap (!1) (Za Zw (~~~2) (!5))) (Za Ap (!4) (Za Ll (!5) (~~~1))))) r) r) ∅
def Nz:Ar:=λr=>Ze (ZG (AR ((Za E3 (!5) (~~~0)) r)) (Ze (ZF 9 ((Za ZJ (Za Ap (!1) (Za Zw (Za Zw (~~~7) (Za DB (~~~7) (!5))) (!9))) (Za Ap (!4) (!5))) r) r) ∅) (.next r)) (λr=>Ze (Ef 8 ((Zh Jk #v[(Za Zw (!0) (Za DB (Za Ap (!1) (~~~2)) (Za ZJ (Za Ap (!1) (~~~6)) (~~~2)))) r,(Za ZJ (Za Zw (Za Ap (!1) (~~~7)) (Za DB (!5) (Za ZJ (Za Ap (!1) (~~~8)) (~~~2)))) (~~~2)) r,9]) r) r) ∅)
def PY:Ar:=λr=>Ze (ZS 8 (Zd ((Z []).bind Zg)) r) (λr=>Ze (ZF 9 ((Za ZJ (Za Zw (!7) (Za Ap (!1) (~~~2))) (!2)) r) r) (λr=>Ze ((Cu (λr=>(#[A1 r 3].bind Zg).bind DR) (Zc 5) Nz) r) (λr=>Ze (Ef 6 ((Zl Dp #v[8]) r) r) ∅)))
def b2:Ar:=λr=>ZF 1 ((Zh Ho #v[0,Z (.int 40)]) r) r
def b4:Ar:=λr=>ZF 2 ((Za Zw (~~~1) (Za ZJ (Za Ap (!1) (~~~0)) (~~~6))) r) r
def b5:Ar:=λr=>ZF 3 ((Za Ap (λr=>Zr (Zd (#[Z (.int 2),Z (.int 1),Z (.int 3),Z (.int 2),Z (.int 3),Z (.int 4),Z (.int 2),Z (.int 3)].bind Zg))) (Za ZJ (Za Ap (!1) (~~~1)) (~~~8))) r) r
def b6:Ar:=λr=>ZS 4 (Zd (#[A1 r 2].bind Zg)) r
def b9:Ar:=(Cu (λr=>(#[Z (.int 1),A1 r 3].bind Zg).bind MK) (Zc 5) PX)
def ce:Ar:=λr=>ZS 6 (Zd ((Z []).bind Zg)) r
def cf:Ar:=(Cu (λr=>(#[A1 r 2].bind Zg).bind DR) (Zc 7) PY)
def cg:Ar:=λr=>ZK (DH r 6)
def uF:Ar:=λr=>.next r
def cj:=cg >>> uF
def ck:=cf >>> cj
def cm:=ce >>> ck
def cq:=b9 >>> cm
def cr:=b6 >>> cq
def cu:=b5 >>> cr
def cw:=b4 >>> cu
def cy:=b2 >>> cw
def cz:Ar:=cy
def PZ:=AL 1 10 cz
def TD:AB:=(Za ZJ (Za Ap (!1) (!0)) (Za Zw (Zl Zt #v[(Za Ap (Za Ap (!2) (!0)) (~~~0)) r]) (~~~1)))
def TF:Ar:=λr=>Ze (ZF 2 ((Zh Ho #v[1,(Zl Zt #v[0]) r]) r) r) (λr=>Ze (Zy ((Zl Dp #v[Zr ((Zi 1 [2,0] (λr=>(#[(Zl Zt #v[0]) r].bind Zg).bind DR) (Zc 0) (λ_=>Z J') TD) r)]) r)) ∅)
def NA:=AL 2 3 TF
def P0:AB:=(Za Ap (Za Ap (Za Ap (!1) (!0)) (Za ZJ (Za Ap (!2) (!0)) (Zl Zt #v[(Za Ap (!1) (!0)) r]))) (~~~0))
def TH:Ar:=λr=>Ze (ZF 2 ((Zh Ho #v[1,Z (.int 6)]) r) r) (λr=>Ze (ZF 3 ((Zl Dp #v[Zr ((Zi 1 [0,2] (λr=>(#[(Zl Zt #v[0]) r].bind Zg).bind DR) (Zc 0) (λ_=>Z J') P0) r)]) r) r) (λr=>Ze (Zy ((Zd (#[A1 r 3,(Za Ap (λr=>Zr (Zd (#[(Za Ll (Za ZJ (Za Ap (!2) (~~~4)) (~~~7)) (~~~3)) r,(Za ZJ (!1) (Za HP (~~~10) (~~~30))) r,(Za Ll (~~~0) (Za ZJ (!1) (Za HP (~~~10) (~~~30)))) r,(Za ZJ (Za Ap (!2) (~~~4)) (~~~2)) r].bind Zg))) (Za ZJ (Za Ap (!2) (~~~5)) (~~~4))) r].bind Zg)).map D.tup)) ∅))
def TJ:=AL 2 4 TH
def NB:Ar:=λr=>Ze (ZF 10 ((Za ZJ (Za Fl (Za Ap (!2) (Za Zw (~~~4) (Za DB (~~~7) (!4)))) (Za Zw (!9) (~~~1))) (Zl Zt #v[6])) r) r) (λr=>Ze (ZF 11 ((Zh Tg #v[(Za Ap (!6) (!10)) r,7]) r) r) (λr=>Ze (ZG (AR ((Za (DC J') (!11) (!8)) r)) (Ze (Ef 8 (A1 r 11) r) ∅) (.next r)) ∅))
def P1:Ar:=λr=>Ze (ZF 5 ((Za ZJ (Za Ap (!2) (Za Zw (~~~1) (Za DB (~~~7) (!4)))) (Zl Zt #v[0])) r) r) (λr=>Ze (ZF 6 ((Za Ap (!0) (!5)) r) r) (λr=>Ze (ZF 7 ((Za ZJ (Za Ap (!2) (Za Zw (~~~2) (Za DB (~~~7) (!4)))) (Za Zw (Zl Zt #v[(Za Ap (!6) (~~~0)) r]) (~~~1))) r) r) (λr=>Ze (ZS 8 (Zd ((Z []).bind Zg)) r) (λr=>Ze ((Cu (λr=>(#[(Za Zw (~~~1) (Za ZJ (Za Ap (!2) (Za Zw (~~~3) (Za DB (~~~7) (!4)))) (~~~4))) r].bind Zg).bind DR) (Zc 9) NB) r) (λr=>Ze (ZG (AR ((Za BY (Za ZJ (Za Ap (!2) (Za Zw (~~~5) (Za DB (~~~7) (!4)))) (~~~7)) (~~~0)) r)) (Ze (Ef 8 ((Za Zw (Za HP (~~~10) (~~~41)) (Za Ap (!2) (Za Zw (~~~5) (Za DB (~~~7) (!4))))) r) r) ∅) (.next r)) (λr=>Ze (ZG (AR ((Za BY (Za ZJ (Za Ap (!2) (Za Zw (~~~5) (Za DB (~~~7) (!4)))) (~~~11)) (~~~3)) r)) (Ze (ZS 8 (Zd ((Z []).bind Zg)) r) ∅) (.next r)) (λr=>Ze (ZG (AR ((Za BY (Za ZJ (Za Ap (!2) (Za Zw (~~~6) (Za DB (~~~7) (!4)))) (~~~2)) (~~~0)) r)) (Ze (ZF 8 ((Zl Dp #v[8]) r) r) ∅) (.next r)) (λr=>Ze ((Hl 8 (λr=>Ef 3 ((Zd (#[A1 r 5,A1 r 7,A1 r 8].bind Zg)).map D.tup) r)) r) ∅))))))))
def cA:Ar:=λr=>ZF 2 ((Zh Ho #v[1,Z (.int 24)]) r) r
def cB:Ar:=λr=>ZS 3 (Zd ((Z []).bind Zg)) r
def cC:Ar:=(Cu (λr=>(#[(Za Ap (λr=>Zr (Zd (#[Z (.int 1),Z (.int 0),Z (.int 2),Z (.int 1),Z (.int 3)].bind Zg))) (Za ZJ (Za Ap (!2) (~~~0)) (~~~5))) r].bind Zg).bind DR) (Zc 4) P1)
def cD:Ar:=λr=>ZK (DH r 3)
def uG:Ar:=λr=>.next r
def cE:=cD >>> uG
def cF:=cC >>> cE
def cG:=cB >>> cF
def cH:=cA >>> cG
def TK:Ar:=cH
def TL:=AL 2 12 TK
def P2:Ar:=λr=>ZG (AR ((Za BY (Za ZJ (!2) (~~~7)) (~~~0)) r)) (Ze (Zy ((Zl Dp #v[1]) r)) ∅) (.next r)
def TM:Ar:=λr=>ZG (AR ((Za BY (Za ZJ (!2) (~~~7)) (~~~1)) r)) (Ze (Zy ((Za Ap (λr=>Zr (Zd (#[Z .non,Z (.int 0),Z (.str ""),(Zd ((Z []).bind Zg)).map D.tup].bind Zg))) (Za ZJ (Za Fl (!2) (~~~7)) (~~~4))) r)) ∅) (.next r)
def cI:Ar:=λr=>ZF 3 ((Za ZJ (Za Fl (!2) (~~~7)) (Za Zw (Zl Zt #v[1]) (~~~1))) r) r
def cJ:Ar:=λr=>Zy ((Za Zw (Za Zw (DJ (!1) (λ_=>Z J) (λr=>DS (Bd r 3)) DT) (λr=>Zr (Zd (#[(Zh Tk #v[0,(Za Fl (!2) (~~~28)) r]) r].bind Zg)))) (DJ (!1) (λr=>DS (Bd r 3)) (λ_=>Z J) DT)) r)
def uH:Ar:=λr=>.next r
def cK:=cJ >>> uH
def cL:=cI >>> cK
def TN:=TM >>> cL
def P4:=P2 >>> TN
def Kx:Ar:=P4
def TQ:=AL 3 4 Kx
def TR:AB:=(Zh PQ #v[0])
def cM:Ar:=λr=>Ze (Zy ((Zl Dp #v[Zr ((Zi 1 [] (λr=>(BB r 0).bind Zv) (Zc 0) (λ_=>Z J') TR) r)]) r)) ∅
def LY:=AL 1 1 cM
def TU:AB:=(Zh LW #v[0])
def LZ:Ar:=λr=>Ze (ZG (Z2 (ZQ ((Zl Ca #v[0,Z (.ty "tuple")]) r))) (Ze (Zy (Z (.bl O'))) ∅) (.next r)) (λr=>Ze (ZG (Dy (AR ((Za F4 (Zl Zt #v[0]) (~~~1)) r)) (AR ((Za E3 (Zl Zt #v[0]) (~~~4)) r))) (Ze (Zy (Z (.bl O'))) ∅) (.next r)) (λr=>Ze (Zy ((Zl Dq #v[Zr ((Zi 1 [] (λr=>(BB r 0).bind Zv) (Zc 0) (λ_=>Z J') TU) r)]) r)) ∅))
def Jl:=AL 1 1 LZ
def TV:AB:=(Zh PU #v[0,1])
def Ky:Ar:=λr=>Ze (ZG (Dy (Z2 (ZQ ((Zl Ca #v[1,Z (.ty "tuple")]) r))) (AR ((Za Cp (Zl Zt #v[1]) (Zl Zt #v[0])) r))) (Ze (Zy (Z (.bl O'))) ∅) (.next r)) (λr=>Ze (Zy ((Zl Dq #v[Zr ((Zi 2 [] (FV (λr=>BB r 0) (λr=>BB r 1)) (ZW 2 (Zm (Zc 0) (Zm (Zc 1) ZU))) (λ_=>Z J') TV) r)]) r)) ∅)
def Z0:=AL 2 2 Ky
def P5:AB:=λr=>B9 (Dy (AR (B9 (Dc (Bd r 0)))) (AR ((Zh LW #v[0]) r)))
def L0:Ar:=λr=>ZG (Dy (Z2 (ZQ ((Zl Ca #v[1,Z (.ty "tuple")]) r))) (AR ((Za Cp (Zl Zt #v[1]) (~~~3)) r))) (Ze (Zy (Z (.bl O'))) ∅) (.next r)
def P6:Ar:=λr=>ZG (Dy (Z2 (ZQ ((Zh Tq #v[0,(Za Ap (!1) (~~~0)) r]) r))) (Z2 (ZQ ((Zh PU #v[(Za Ap (!0) (Za Ap (!1) (~~~0))) r,(Za Ap (!1) (~~~1)) r]) r)))) (Ze (Zy (Z (.bl O'))) ∅) (.next r)
def P7:Ar:=λr=>ZG (Z2 (ZQ ((Zl Ca #v[(Za Ap (!1) (~~~2)) r,(Zd (#[Z (.ty "list"),Z (.ty "tuple")].bind Zg)).map D.tup]) r))) (Ze (Zy (Z (.bl O'))) ∅) (.next r)
def TW:Ar:=λr=>Zy ((Zl Dq #v[Zr ((Zi 1 [] (λr=>((Za Ap (!1) (~~~2)) r).bind Zv) (Zc 0) (λ_=>Z J') P5) r)]) r)
def uI:Ar:=λr=>.next r
def TX:=TW >>> uI
def NC:=P7 >>> TX
def P8:=P6 >>> NC
def L1:=L0 >>> P8
def GI:Ar:=L1
def FY:=AL 2 2 GI
def Z6:Ar:=λr=>Ze (Nr 7 ((HY 5 (Zh Fu #v[6,1]) (Za Ap (!6) (~~~0))) r)) (λr=>Ze (ZG (AR ((Za Cp (Za C1 (!4) (!7)) (Za C1 (!4) (Za Ap (!6) (~~~0)))) r)) (Ze (Zy ((Zd (#[A1 r 7,(Za Ap (!6) (~~~0)) r].bind Zg)).map D.tup)) ∅) (.next r)) ∅)
def cN:Ar:=λr=>ZF 4 ((Zh PV #v[0,2,3]) r) r
def cO:Ar:=λr=>Ee 5 (Z []) r
def cP:Ar:=(Cu (λr=>(BB r 0).bind Zv) (Zc 6) Z6)
def uJ:Ar:=λr=>Zy (Z .non)
def uK:Ar:=λr=>.next r
def cQ:=uJ >>> uK
def cR:=cP >>> cQ
def cT:=cO >>> cR
def cU:=cN >>> cT
def TY:Ar:=cU
def P9:=AL 4 8 TY
def Qa:AB:=(Zh PR #v[1,(Za Ap (!2) (!0)) r,(Za Ap (!3) (!0)) r])
def cV:Ar:=λr=>Ze (ZK ((Zi 2 [1,2] (H9 (λr=>BB r 0)) (ZW 2 (Zm (Zc 0) (Zm (Zc 1) ZU))) (λ_=>Z J') Qa) r)) ∅
def Qb:=AL 3 3 cV
def Qc:AB:=(Zh PZ #v[(Za Zw (Zh ZE #v[1,(Za Zw (~~~1) (!0)) r]) (Za DB (~~~1000) (!0))) r])
def Qd:AB:=(DJ (!0) (λ_=>Z J) (λr=>DS (Z (.int 3))) DT)
def TZ:Ar:=λr=>ZF 1 ((Za Ap (λr=>Zr (Zd (#[Z (.int 2),Z (.int 1),Z (.int 2),Z (.int 3),Z (.int 1),Z (.int 2),Z (.int 3),Z (.int 4)].bind Zg))) (Za ZJ (Zh ZE #v[0,Z (.int 0)]) (~~~8))) r) r
def T0:Ar:=λr=>ZS 2 ((Zi 1 [0] (λr=>(#[A1 r 1].bind Zg).bind DR) (Zc 0) (λ_=>Z J') Qc) r) r
def T2:Ar:=λr=>ZG (AR ((Za BY (!1) (~~~4)) r)) (Ze ((Hl 2 (λr=>ZS 2 ((Zi 1 [] (λr=>(BB r 2).bind Zv) (Zc 0) (λ_=>Z J') Qd) r) r)) r) ∅) (.next r)
def T4:Ar:=λr=>ZK (DH r 2)
def uL:Ar:=λr=>.next r
def T5:=T4 >>> uL
def T6:=T2 >>> T5
def T7:=T0 >>> T6
def T8:=TZ >>> T7
def T9:Ar:=T8
def ND:=AL 1 3 T9
def Ua:AB:=(Zh Jl #v[0])
def NE:Ar:=λr=>Ze (ZF 6 ((DJ (!3) (λr=>DS ((Za Zw (!4) (~~~1)) r)) (λ_=>Z J) DT) r) r) (λr=>Ze (Jb (M6 (HY 1 (λr=>(Zd (#[A1 r 4,A1 r 5].bind Zg)).map D.tup) (λr=>A1 r 6)) (!6) r) (λr=>Ze (Zy (Z (.bl O'))) ∅) ∅) ∅)
def ZL:Ar:=λr=>Ze (ZG (Dy (AR ((Za Cp (Zl Zt #v[3]) (Zl Zt #v[(Za Ap (!0) (~~~0)) r])) r)) (AR ((Za (C4 O') (Za Ap (!3) (~~~0)) (!2)) r))) (Ze (Zy (Z (.bl O'))) ∅) (.next r)) (λr=>Ze (GC 2 ((Za Ap (!3) (~~~0)) r) (Z (.bl J')) r) (λr=>Ze ((Cu (H9 (λr=>BB r 3)) (ZW 2 (Zm (Zc 4) (Zm (Zc 5) ZU))) NE) r) ∅))
def NF:Ar:=λr=>ZG (Z2 (ZQ ((Zl Dq #v[Zr ((Zi 1 [] (λr=>(BB r 0).bind Zv) (Zc 0) (λ_=>Z J') Ua) r)]) r))) (Ze (Zy (Z (.bl O'))) ∅) (.next r)
def Qe:Ar:=λr=>Ee 1 (Z []) r
def Qf:Ar:=λr=>Ee 2 (Z []) r
def Qg:Ar:=(Cu (λr=>(BB r 0).bind Zv) (Zc 3) ZL)
def Ub:Ar:=λr=>Zy (Z (.bl J'))
def uM:Ar:=λr=>.next r
def Uc:=Ub >>> uM
def Qh:=Qg >>> Uc
def Qi:=Qf >>> Qh
def Qj:=Qe >>> Qi
def NG:=NF >>> Qj
def NH:Ar:=NG
def Ie:=AL 1 7 NH
def Ud:AB:=(Zh FY #v[1,0])
def NI:Ar:=λr=>Ze (Zy (B9 (FH (AR ((Zl Ca #v[1,Z (.ty "list")]) r)) (AR ((Zl Dq #v[Zr ((Zi 1 [0] (λr=>(BB r 1).bind Zv) (Zc 0) (λ_=>Z J') Ud) r)]) r))))) ∅
def GJ:=AL 2 2 NI
def Ue:Ar:=λr=>Ze (Zy ((Zd (#[(Zh LY #v[(Za Ap (!0) (~~~0)) r]) r,(Za Ap (!0) (~~~1)) r].bind Zg)).map D.tup)) ∅
def Qk:=AL 1 1 Ue
def cX:Ar:=λr=>Ze (ZG (Z2 (ZQ ((Zl Ca #v[0,Z (.ty "list")]) r))) (Ze (Zy (Z (.bl O'))) ∅) (.next r)) (λr=>Ze (ZG (Dy (AR ((Za F4 (Zl Zt #v[0]) (~~~1)) r)) (AR ((Za E3 (Zl Zt #v[0]) (~~~40)) r))) (Ze (Zy (Z (.bl O'))) ∅) (.next r)) (λr=>Ze (Zy ((Zh Ie #v[0]) r)) ∅))
def Jm:=AL 1 1 cX
def Jn:Ar:=λr=>Ze (ZG (Dy (Z2 (ZQ (Bd r 1))) (AR ((Za Cp (Za Ap (!1) (λr=>Gz (Z (.int 1)))) (!2)) r))) (Ze (Ef 1 (A1 r 2) r) ∅) (.next r)) ∅
def Uf:Ar:=λr=>Ze (ZS 1 (Zd ((Z []).bind Zg)) r) (λr=>Ze ((Cu (λr=>(Zr ((Ki LY (!0)) r)).bind Zv) (Zc 2) Jn) r) (λr=>Ze (ZK (DH r 1)) ∅))
def NJ:=AL 1 3 Uf
def Ql:AB:=(Zh Jm #v[0])
def cY:Ar:=λr=>Ze (ZG (Z2 (ZQ ((Zl Ca #v[0,Z (.ty "list")]) r))) (Ze (Zy (Z (.bl O'))) ∅) (.next r)) (λr=>Ze (ZG (Dy (AR ((Za F4 (Zl Zt #v[0]) (~~~1)) r)) (AR ((Za E3 (Zl Zt #v[0]) (~~~4)) r))) (Ze (Zy (Z (.bl O'))) ∅) (.next r)) (λr=>Ze (Zy ((Zl Dq #v[Zr ((Zi 1 [] (λr=>(BB r 0).bind Zv) (Zc 0) (λ_=>Z J') Ql) r)]) r)) ∅))
def NK:=AL 1 1 cY
def Ug:AB:=λr=>(Zd (#[A1 r 0].bind Zg)).map D.tup
def Uh:AB:=(Za Ap (!0) (~~~0))
def NL:Ar:=λr=>Ze (ZK ((Zi 1 [] (λr=>((Zh NJ #v[Zr ((Zi 1 [] (λr=>(BB r 0).bind Zv) (Zc 0) (λ_=>Z J') Ug) r)]) r).bind Zv) (Zc 0) (λ_=>Z J') Uh) r)) ∅
def NM:=AL 1 1 NL
def Z5:AB:=(Za C1 (!0) (!1))
def ZD:Ar:=λr=>Ze (ZG (ZQ ((Zh Jj #v[0,3]) r)) (Ze (ZF 5 ((Zl Dp #v[Zr ((Zi 2 [] (FV (λr=>BB r 0) (λr=>BB r 3)) (ZW 2 (Zm (Zc 0) (Zm (Zc 1) ZU))) (λ_=>Z J') Z5) r)]) r) r) (λr=>Ze (GC 2 (Bd r 5) (J4 (AR ((Za (C4 O') (!5) (!2)) r)) ((Zh LU #v[(Za C1 (!2) (!5)) r,4]) r) (A1 r 4)) r) ∅)) (.next r)) ∅
def NN:AB:=λr=>(Zd (#[A1 r 0,(Za C1 (!1) (!0)) r].bind Zg)).map D.tup
def NO:Ar:=λr=>Ze (Ee 2 (Z []) r) (λr=>Ze ((Cu (λr=>(BB r 1).bind Zv) (ZW 2 (Zm (Zc 3) (Zm (Zc 4) ZU))) ZD) r) (λr=>Ze (ZK ((Zi 1 [2] (λr=>((Zh NJ #v[Zr ((EE Kk #v[2]) r)]) r).bind Zv) (Zc 0) (λ_=>Z J') NN) r)) ∅))
def NP:=AL 2 6 NO
def Ui:VE->O Bool:=λr=>AR ((Za Cp (Za Nj (!1) (!0)) (Za C1 (!2) (!0))) r)
def cZ:AB:=λr=>A1 r 0
def Uj:VE->O Bool:=λr=>AR ((Za (C4 J') (!0) (!1)) r)
def c0:AB:=λr=>A1 r 0
def c3:Ar:=λr=>Ee 2 ((E6 (!0)) r) r
def c4:Ar:=λr=>Ee 3 ((E6 (!1)) r) r
def c6:Ar:=(Hl 2 (λr=>ZS 4 ((Zi 1 [3,2] (λr=>(BB r 2).bind FS) (Zc 0) Ui cZ) r) r))
def c9:Ar:=(Hl 3 (λr=>ZK ((Dz NJ #v[(Za Zw (!4) (λr=>Zr ((Zi 1 [2] (λr=>(BB r 3).bind FS) (Zc 0) Uj c0) r))) r]) r)))
def uN:Ar:=λr=>.next r
def db:=c9 >>> uN
def df:=c6 >>> db
def dg:=c4 >>> df
def dh:=c3 >>> dg
def Uk:Ar:=dh
def Qm:=AL 2 5 Uk
def Ul:VE->O Bool:=λr=>AR ((Za BY (Zh Fu #v[0,1]) (!2)) r)
def Um:AB:=(Za Ap (!0) (~~~0))
def Uo:Ar:=λr=>Ze (ZG (FH (Z2 (Dc (Bd r 2))) (Z2 (ZQ ((Zh LW #v[2]) r)))) (Ze (ZK (Zd ((Z []).bind Zg))) ∅) (.next r)) (λr=>Ze (ZK ((Dz NM #v[Zr ((Zi 1 [1,2] (λr=>(BB r 0).bind Zv) (Zc 0) Ul Um) r)]) r)) ∅)
def Up:=AL 3 3 Uo
def Uq:AB:=λr=>(Zd (#[A1 r 0,Z (.bl J')].bind Zg)).map D.tup
def Ur:VE->O Bool:=λr=>AR ((Za (C4 O') (Zh Fu #v[0,(Za Ap (!1) (~~~1)) r]) (!2)) r)
def dj:AB:=λr=>A1 r 0
def NQ:Ar:=λr=>Ze (ZG (AR ((Za BY (Za Ap (!4) (~~~0)) (!2)) r)) (Ze (Ee 5 ((E6 (λr=>Zr ((Zi 1 [] (λr=>((Za Ap (!4) (~~~2)) r).bind Zv) (Zc 0) (λ_=>Z J') Uq) r))) r) r) (λr=>Ze (ZF 3 (Zr ((Zi 1 [4,5] (λr=>(BB r 3).bind Zv) (Zc 0) Ur dj) r)) r) ∅)) (.next r)) ∅
def Us:AB:=(Za Ap (!0) (~~~0))
def Ut:Ar:=λr=>Ze (ZF 3 ((Za Ap (!0) (!2)) r) r) (λr=>Ze ((Cu (λr=>(BB r 1).bind Zv) (Zc 4) NQ) r) (λr=>Ze (ZK ((Dz NM #v[Zr ((Zi 1 [] (λr=>(BB r 3).bind Zv) (Zc 0) (λ_=>Z J') Us) r)]) r)) ∅))
def Qn:=AL 3 6 Ut
def Uu:AB:=λr=>(Zd (#[A1 r 0,(Zh PH #v[Zr (Zd (#[A1 r 1].bind Zg))]) r].bind Zg)).map D.tup
def Uv:Ar:=λr=>Ze (ZF 3 (Zr ((Zi 2 [] (λr=>(BB r 1).bind Zv) (ZW 2 (Zm (Zc 0) (Zm (Zc 1) ZU))) (λ_=>Z J') Uu) r)) r) (λr=>Ze (ZK ((Dz NP #v[(Zh Qb #v[0,(Zh Nu #v[0]) r,2]) r,3]) r)) ∅)
def Qo:=AL 3 4 Uv
def Uw:AB:=λr=>(Zd (#[A1 r 1,A1 r 0].bind Zg)).map D.tup
def Qp:Ar:=λr=>Ze (Lr 2 ((Zi 1 [3] (λr=>((Zh Qm #v[(Za C1 (!0) (!3)) r,(Za C1 (!1) (!3)) r]) r).bind Zv) (Zc 0) (λ_=>Z J') Uw) r) r) ∅
def Ux:Ar:=λr=>Ze (ZS 2 (Zd ((Z []).bind Zg)) r) (λr=>Ze ((Cu (λr=>(Zr (LM (Bd r 0))).bind Zv) (Zc 3) Qp) r) (λr=>Ze (ZK (DH r 2)) ∅))
def Uy:=AL 2 4 Ux
def Uz:Ar:=λr=>Ze (Zy ((Za E3 (Zl Zt #v[(Zh Up #v[0,1,2]) r]) (~~~0)) r)) ∅
def Qq:=AL 3 3 Uz
def UA:AB:=(Zh Qn #v[1,2,0])
def UB:Ar:=λr=>Ze (ZK ((Zi 1 [0,1] (λr=>(#[(Zl Zt #v[0]) r].bind Zg).bind DR) (Zc 0) (λ_=>Z J') UA) r)) ∅
def Qr:=AL 2 2 UB
def UC:AB:=λr=>(Zd (#[A1 r 0,(Zh Qo #v[1,2,0]) r].bind Zg)).map D.tup
def UD:Ar:=λr=>Ze (G4 ((E6 (λr=>Zr ((Zi 1 [0,1] (λr=>(BB r 2).bind Zv) (Zc 0) (λ_=>Z J') UC) r))) r)) ∅
def Qs:=AL 3 3 UD
def UE:Ba:=λs=>Ek (jT 2 (λr=>Z2 (ZQ ((Zh Z0 #v[(Bd r 0).bind (Cz "Book" "axes"),1]) r))) s) (ZN (.fail) ∅) (.next s)
def UF:Ba:=λs=>Ek (jT 2 (λr=>AR ((Za (C4 J') (!1) (λr=>(Bd r 0).bind (Cz "Book" "tables"))) r)) s) (ZN (Ek (jT 2 (λr=>AR ((Za MP (Zl LK #v[(Bd r 0).bind (Cz "Book" "tables")]) (~~~12)) r)) s) (ZN (.fail) ∅) (.next s)) (λs=>ZN (Pr (λs=>Pn "Book" "tables" s (Dl s 0)) ((jE 0 (λr=>A1 r 1)) s) ((jE 1 (Zh Qo #v[(Bd r 0).bind (Cz "Book" "axes"),(Bd r 0).bind (Cz "Book" "standing"),1])) s) s) ∅)) (.next s)
def dm:Ba:=λs=>DY (xD ((jE 2 (Zl Zt #v[(Za C1 (λr=>(Bd r 0).bind (Cz "Book" "tables")) (!1)) r])) s) s)
def uO:Ba:=λs=>.next s
def UG:=dm <<< uO
def UH:=UF <<< UG
def UI:=UE <<< UH
def NR:Ba:=UI
def NS:=El 2 2 NR
def Jo:Ar:=λr=>Ze (ZF 7 ((Zh P9 #v[6,(Za Ap (!1) (!5)) r,(Za Ap (!2) (!5)) r,(Za Ap (!4) (!5)) r]) r) r) (λr=>Ze (ZG (Z2 (Dc (Bd r 7))) (Ze (Zy ((Zd (#[A1 r 5,(Za Ap (!7) (~~~0)) r,(Za Ap (!7) (~~~1)) r].bind Zg)).map D.tup)) ∅) (.next r)) ∅)
def dn:Ar:=λr=>ZF 4 ((Zh Qr #v[0,3]) r) r
def UJ:Ar:=λr=>ZG (AR ((Za (DC O') (λr=>Zr (Zd ((Z []).bind Zg))) (!4)) r)) (Ze (Zy (Z .non)) ∅) (.next r)
def dr:Ar:=(Cu (H9 (λr=>BB r 0)) (ZW 2 (Zm (Zc 5) (Zm (Zc 6) ZU))) Jo)
def uP:Ar:=λr=>Zy (Z .non)
def uQ:Ar:=λr=>.next r
def dt:=uP >>> uQ
def du:=dr >>> dt
def NT:=UJ >>> du
def dy:=dn >>> NT
def UK:Ar:=dy
def Jp:=AL 4 8 UK
def Qt:AB:=(Zh Qq #v[0,Z (.int 0),1])
def UL:Ar:=λr=>Ze (ZG (Dy (Z2 (ZQ ((Zl Ca #v[1,Z (.ty "tuple")]) r))) (AR ((Za Cp (Zl Zt #v[1]) (Zl Zt #v[0])) r))) (Ze (Zy (Z (.bl O'))) ∅) (.next r)) (λr=>Ze (Zy ((Zl Dq #v[Zr ((Zi 2 [] (FV (λr=>BB r 0) (λr=>BB r 1)) (ZW 2 (Zm (Zc 0) (Zm (Zc 1) ZU))) (λ_=>Z J') Qt) r)]) r)) ∅)
def UM:=AL 2 2 UL
def UN:AB:=(Zh TC #v[1,(Za Ap (!2) (!0)) r,(Za Ap (!3) (!0)) r,(Za Ap (!4) (!0)) r])
def UO:Ar:=λr=>Ze (ZF 4 ((Zh Qr #v[0,3]) r) r) (λr=>Ze (ZK ((Zi 2 [1,2,4] (H9 (λr=>BB r 0)) (ZW 2 (Zm (Zc 0) (Zm (Zc 1) ZU))) (λ_=>Z J') UN) r)) ∅)
def Qu:=AL 4 5 UO
def dz:AB:=λr=>Zr ((EE G6 #v[0]) r)
def dA:Ba:=λs=>Ek (jT 2 (λr=>Z2 (ZQ ((Zh NK #v[1]) r))) s) (ZN (.fail) ∅) (.next s)
def dB:Ba:=λs=>GF "Book" "axes" (λs=>Dl s 0) (xF .l (jG 1 (Zi 1 [] (λr=>(BB r 1).bind Zv) (Zc 0) (λ_=>Z J') dz) s) s) s
def dC:Ba:=λs=>GF "Book" "standing" (λs=>Dl s 0) (xF .l (jG 2 (λr=>Zd ((Z []).bind Zg)) s) s) s
def dE:Ba:=λs=>GF "Book" "tables" (λs=>Dl s 0) (xC .d (jG 1 (IR Qs #v[(Bd r 0).bind (Cz "Book" "axes"),Zr (Zd ((Z []).bind Zg)),Zr (Zd (#[(Zh Nu #v[(Bd r 0).bind (Cz "Book" "axes")]) r].bind Zg))]) s) s) s
def dF:Ba:=λs=>.next s
def dG:=dE <<< dF
def dH:=dC <<< dG
def dI:=dB <<< dH
def dJ:=dA <<< dI
def Qv:Ba:=dJ
def UP:=El 2 2 Qv
def dK:Ba:=λs=>CM 1 (xP (Pn "Book" "tables" s (Dl s 0)) s) s
def dL:Ba:=λs=>GF "Book" "tables" (λs=>Dl s 0) (xC .d (jG 1 (IR Qs #v[(Bd r 0).bind (Cz "Book" "axes"),(Bd r 0).bind (Cz "Book" "standing"),Zr ((EE Kk #v[1]) r)]) s) s) s
def dM:Ba:=λs=>DY (xC .l (jG 2 (Dz Uy #v[1,(Bd r 0).bind (Cz "Book" "tables")]) s) s)
def uR:Ba:=λs=>.next s
def dN:=dM <<< uR
def dO:=dL <<< dN
def dP:=dK <<< dO
def UQ:Ba:=dP
def UR:=El 1 2 UQ
def US:Ar:=λr=>Ze (ZG (Dy (Z2 (ZQ ((Zl Ca #v[1,Z (.ty "tuple")]) r))) (AR ((Za Cp (Zl Zt #v[1]) (~~~3)) r))) (Ze (Zy (Z (.bl O'))) ∅) (.next r)) (λr=>Ze (ZG (FH (AR ((Za Cp (Za Ap (!1) (~~~0)) (λ_=>Z (.str "+"))) r)) (AR ((Za Cp (Za Ap (!1) (~~~0)) (λ_=>Z (.str "-"))) r))) (Ze (Zy (Z (.bl O'))) ∅) (.next r)) (λr=>Ze (Zy (B9 (FH (AR ((Zh UM #v[0,(Za Ap (!1) (~~~1)) r]) r)) (AR ((Zh F6 #v[(Za Ap (!1) (~~~2)) r]) r))))) ∅))
def Qw:=AL 2 2 US
def UT:Ar:=λr=>Ze (ZG (Z2 (Dc ((Zh Jp #v[0,2,3,4]) r))) (Ze (.fail) ∅) (.next r)) (λr=>Ze (ZK ((Dz NP #v[(Zh Qu #v[0,2,3,4]) r,1]) r)) ∅)
def UU:=AL 5 5 UT
def uS:IS->O Ae:=λs=>FP (jT 2 (λr=>Z2 (Dc ((Zh Jp #v[0,2,3,4]) r))) s) (Ks (Zs (((jE 2 (λ_=>Z (.str "the table does not answer the question"))) s).map .val) (Z [])) "NoGrain") (J)
def uT:U IV->Gh->O Ae:=Ji 5 5 uS
def UV:VE->O Bool:=λr=>ZQ ((Zh Jj #v[2,0]) r)
def dQ:AB:=λr=>(Zd (#[A1 r 0,A1 r 1].bind Zg)).map D.tup
def UW:Ar:=λr=>Ze (ZF 4 ((Zh Qu #v[0,2,(Zh Tt #v[0]) r,3]) r) r) (λr=>Ze (ZK ((Zi 2 [4] (λr=>(BB r 1).bind Zv) (ZW 2 (Zm (Zc 0) (Zm (Zc 1) ZU))) UV dQ) r)) ∅)
def UX:=AL 4 5 UW
def Qx:Ba:=λs=>ZN (Ek (jT 2 (λr=>Z2 (ZQ ((Zh Qw #v[0,4]) r))) s) (ZN (.fail) ∅) (.next s)) (λs=>ZN (Ek (jT 2 (λr=>AR ((Za BY (Za Ap (!4) (~~~0)) (λ_=>Z (.str "+"))) r)) s) (ZN (Hg (Hh Tb (Zs ((Dl s 3).map .cel) (Zs (((jE 2 (λr=>(Zd (#[(Za Ap (!4) (~~~1)) r,(Za Ap (!4) (~~~2)) r].bind Zg)).map D.tup)) s).map .val) (Z []))) s) s) ∅) (ZN (Hg (Hh bi (Zs ((Dl s 3).map .cel) (Zs (((jE 2 (λr=>(Zd (#[(Za Ap (!4) (~~~1)) r,(Za Ap (!4) (~~~2)) r].bind Zg)).map D.tup)) s).map .val) (Z []))) s) s) ∅)) ∅)
def dR:Ba:=λs=>CM 3 (xC .l (jG 2 (EE G6 #v[1]) s) s) s
def dS:Ba:=λs=>Kp 4 Qx (((jE 0 (λr=>A1 r 2)) s).bind LL) s
def dT:Ba:=λs=>DY (xF .l (jG 2 (Ki Qk (!3)) s) s)
def uU:Ba:=λs=>.next s
def dU:=dT <<< uU
def dV:=dS <<< dU
def dW:=dR <<< dV
def UY:Ba:=dW
def UZ:=El 3 5 UY
def U0:Ar:=λr=>Ze (Zy ((Zl Zt #v[(Zh UX #v[0,1,2,3]) r]) r)) ∅
def U1:=AL 4 4 U0
def U2:Ba:=λs=>ZN (GF "Book" "standing" (λs=>Dl s 0) (Hh UZ (Zs (((jE 1 (λr=>(Bd r 0).bind (Cz "Book" "axes"))) s).map .val) (Zs (((jE 1 (λr=>(Bd r 0).bind (Cz "Book" "standing"))) s).map .val) (Zs (((jE 0 (λr=>A1 r 1)) s).map .val) (Z [])))) s) s) (λs=>ZN (DY (EL "Book" "tables_renewed" UR (Dl s 0) (Z []) s)) ∅)
def U3:=El 2 2 U2
def Kz:Ba:=λs=>ZN (Ek (jT 2 (λr=>Dc ((Zh Jp #v[(Bd r 0).bind (Cz "Book" "axes"),4,1,2]) r)) s) (ZN (CM 5 (xD ((jE 2 (Zh U1 #v[(Bd r 0).bind (Cz "Book" "axes"),(Za C1 (λr=>(Bd r 0).bind (Cz "Book" "tables")) (!4)) r,4,2])) s) s) s) (λs=>ZN (Ek (jT 2 (λr=>Dy (Dc (Bd r 3)) (AR ((Za F4 (!5) (Za Ap (!3) (~~~1))) r))) s) (ZN (CM 3 (xD ((jE 2 (λr=>(Zd (#[A1 r 4,A1 r 5].bind Zg)).map D.tup)) s) s) s) ∅) (.next s)) ∅)) (.next s)) ∅
def dX:Ba:=λs=>Ek (jT 2 (λr=>Z2 (ZQ ((Zh Z0 #v[(Bd r 0).bind (Cz "Book" "axes"),1]) r))) s) (ZN (.fail) ∅) (.next s)
def dY:Ba:=λs=>Ek (jT 2 (λr=>Z2 (ZQ ((Zh GJ #v[(Bd r 0).bind (Cz "Book" "axes"),2]) r))) s) (ZN (.fail) ∅) (.next s)
def dZ:Ba:=λs=>CM 3 (xD ((jE 2 (λ_=>Z .non)) s) s) s
def d3:Ba:=λs=>Kp 4 Kz (((jE 1 (λr=>(Hc "Book" "kept" Te (Ec r 0) (Z [])).map Dd)) s).bind LL) s
def d4:Ba:=λs=>DY (xD ((jE 0 (λr=>A1 r 3)) s) s)
def uV:Ba:=λs=>.next s
def d5:=d4 <<< uV
def d6:=d3 <<< d5
def d7:=dZ <<< d6
def d8:=dY <<< d7
def d9:=dX <<< d8
def U4:Ba:=d9
def NU:=El 3 6 U4
def KA:IS->O Ae:=λs=>FP (jT 2 (λr=>Z2 (ZQ ((Zh Z0 #v[(Bd r 0).bind (Cz "Book" "axes"),1]) r))) s) (Ks (Zs (((jE 2 (λ_=>Z (.str "no grain of the ladders"))) s).map .val) (Z [])) "NoGrain") (FP (jT 2 (λr=>Z2 (ZQ ((Zh GJ #v[(Bd r 0).bind (Cz "Book" "axes"),2]) r))) s) (Ks (Zs (((jE 2 (λ_=>Z (.str "no picks of the ladders"))) s).map .val) (Z [])) "NoPick") (J))
def Ig:U IV->Gh->O Ae:=Ji 3 6 KA
def U5:Ba:=λs=>ZN (CM 3 (Ib Ap (EL "Book" "plan" NU (Dl s 0) (Zs (((jE 0 (λr=>A1 r 1)) s).map .val) (Zs (((jE 0 (λr=>A1 r 2)) s).map .val) (Z []))) s) (jE 2 (~~~0)) s) s) (λs=>ZN (DY (xF .l (jG 2 (Dz UU #v[(Bd r 0).bind (Cz "Book" "axes"),(Za C1 (λr=>(Bd r 0).bind (Cz "Book" "tables")) (!3)) r,3,1,2]) s) s)) ∅)
def Qy:=El 3 4 U5
def U6:IS->O Ae:=λs=>Hj "Book" "plan" Ig (Dl s 0) (Zs (((jE 0 (λr=>A1 r 1)) s).map .val) (Zs (((jE 0 (λr=>A1 r 2)) s).map .val) (Z []))) s
def U7:U IV->Gh->O Ae:=Ji 3 4 U6
def ed:Ba:=λs=>ZN (CM 6 (xF .l (jG 2 (λr=>Zd (#[(FQ 5 CS (FR "NoGrain")) r,(FQ 5 CS (FR "NoPick")) r,(FQ 5 CS (FR "NoLadder")) r,(FQ 5 CS (FR "NoValue")) r].bind Zg)) s) s) s) (λs=>ZN (CM 6 (xD ((jE 0 (Za Zw (!6) (λr=>Zr (Zd (#[(FQ 5 CS (FR "NoRow")) r,(FQ 5 CS (FR "NoSuch")) r,(FQ 5 CS (FR "NoText")) r].bind Zg))))) s) s) s) (λs=>ZN (DY (xD ((jE 0 (λr=>(Zd (#[(Za Zw (!6) (λr=>Zr (Zd (#[(FQ 5 CS (FR "TooMuch")) r].bind Zg)))) r,(FQ 5 CS (FR "ValueError")) r].bind Zg)).map D.tup)) s) s)) ∅))
def NX:Ba:=λs=>CM 4 (xD ((jE 2 (λ_=>Z .non)) s) s) s
def NY:Ba:=λs=>Kt CS 5 (FP (jT 2 (λr=>AR ((Za BY (!1) (~~~0)) r)) s) (Hj "Book" "plan" Ig (Dl s 0) (Zs (((jE 0 (λr=>A1 r 2)) s).map .val) (Zs (((jE 0 (λr=>A1 r 3)) s).map .val) (Z []))) s) (Hj "Book" "answer" U7 (Dl s 0) (Zs (((jE 0 (λr=>A1 r 2)) s).map .val) (Zs (((jE 0 (λr=>A1 r 3)) s).map .val) (Z []))) s)) (ZN (Ek (jT 2 (λr=>AR ((Za BY (!1) (~~~0)) r)) s) (ZN (CM 4 (EL "Book" "plan" NU (Dl s 0) (Zs (((jE 0 (λr=>A1 r 2)) s).map .val) (Zs (((jE 0 (λr=>A1 r 3)) s).map .val) (Z []))) s) s) ∅) (ZN (CM 4 (EL "Book" "answer" Qy (Dl s 0) (Zs (((jE 0 (λr=>A1 r 2)) s).map .val) (Zs (((jE 0 (λr=>A1 r 3)) s).map .val) (Z []))) s) s) ∅)) ∅) ed s
def U8:Ba:=λs=>DY (xD ((jE 2 (λr=>B9 (Z2 (Dc (Bd r 4))))) s) s)
def ef:Ba:=λs=>.next s
def Qz:=U8 <<< ef
def L3:=NY <<< Qz
def L4:=NX <<< L3
def Jq:Ba:=L4
def Z7:=El 4 7 Jq
def en:AB:=λr=>Zr ((EE G6 #v[0]) r)
def QA:AB:=(Zh TJ #v[1,(Za Zw (Za Fl (Zh ZE #v[2,Z (.int 6)]) (Za Zw (!0) (~~~1))) (!0)) r])
def U9:AB:=(Za Zw (λr=>(Zd (#[Z (.str "+")].bind Zg)).map D.tup) (!0))
def eo:AB:=(Za BY (!0) (~~~1))
def et:AB:=(Za BY (!0) (~~~0))
def Va:Ba:=λs=>ZN (Py (Pz (Nq (Ib Cp (Hh Z7 (Zs ((Dl s 2).map .cel) (Zs (((jE 0 (λr=>A1 r 10)) s).map .val) (Zs (((jE 0 (λr=>A1 r 5)) s).map .val) (Zs (((jE 0 (λr=>A1 r 9)) s).map .val) (Z []))))) s) (jE 0 (λr=>A1 r 7)) s)) (jT 2 (λr=>AR ((Za Cp (!9) (!6)) r))) s) (λs=>ZN (DY (xD ((jE 2 (λ_=>Z (.bl O'))) s) s)) ∅) ∅ s) ∅
def eu:Ba:=λs=>CM 1 (xF .l (jG 0 (Dz ND #v[0]) s) s) s
def ez:Ba:=λs=>CM 2 (Pp "Book" UP (Zs (((jE 1 (λr=>Zr ((Zi 1 [] (λr=>(BB r 1).bind Zv) (Zc 0) (λ_=>Z J') en) r))) s).map .val) (Z [])) s) s
def eA:Ba:=λs=>CM 3 (xF .l (jG 2 (Zi 1 [1,0] (λr=>(#[(Za ZJ (Zh ZE #v[0,Z (.int 6)]) (~~~9)) r].bind Zg).bind DR) (Zc 0) (λ_=>Z J') QA) s) s) s
def eB:Ba:=λs=>Hg (EL "Book" "pour" U3 (Dl s 2) (Zs (((jE 1 (λr=>Zr ((Zi 1 [] (λr=>(BB r 3).bind Zv) (Zc 0) (λ_=>Z J') U9) r))) s).map .val) (Z [])) s) s
def eC:Ba:=λs=>Hg (EL "Book" "keep" NS (Dl s 2) (Zs (((jE 2 (Zh NA #v[1,(Zh ZE #v[0,Z (.int 5)]) r])) s).map .val) (Z [])) s) s
def eF:Ba:=λs=>CM 4 (xD ((jE 1 (λr=>(Hc "Book" "rows" PJ (Ec r 2) (Z [])).map Dd)) s) s) s
def eG:Ba:=λs=>CM 5 (xD ((jE 2 (Zh NA #v[1,(Zh ZE #v[0,Z (.int 7)]) r])) s) s) s
def eH:Ba:=λs=>CM 6 (xF .l (jG 0 (Dz TL #v[1,(Za Fl (Zh ZE #v[0,Z (.int 7)]) (~~~3)) r]) s) s) s
def eI:Ba:=λs=>CM 7 (xD ((jE 2 (λ_=>Z (.bl J'))) s) s) s
def eJ:Ba:=λs=>CM 8 (xD ((jE 2 (Za ZJ (Zh ZE #v[0,Z (.int 8)]) (~~~4))) s) s) s
def NZ:Ba:=λs=>Ek (jT 2 (λr=>Dy (AR ((Za BY (!8) (~~~1)) r)) (AR ((Za BY (!8) (~~~3)) r))) s) (ZN (CM 6 (xD ((jE 0 (Zh TQ #v[1,6,(Zh ZE #v[0,Z (.int 9)]) r])) s) s) s) (λs=>ZN (CM 7 (xD ((jE 0 (λr=>(Zd (#[Zr ((Zi 1 [] (λr=>(#[Z (.int 8)].bind Zg).bind DR) (Zc 0) (λ_=>Z J') eo) r),Z (.bl J')].bind Zg)).map D.tup)) s) s) s) ∅)) (.next s)
def N0:Ba:=λs=>Ek (jT 2 (λr=>AR ((Za E3 (!8) (~~~1)) r)) s) (ZN (CM 5 (xD ((jE 0 (Zh Ti #v[5,(Zh ZE #v[0,Z (.int 10)]) r])) s) s) s) (λs=>ZN (CM 7 (xD ((jE 0 (λr=>(Zd (#[Zr ((Zi 1 [] (λr=>(#[Z (.int 8)].bind Zg).bind DR) (Zc 0) (λ_=>Z J') et) r),Z (.bl J')].bind Zg)).map D.tup)) s) s) s) ∅)) (.next s)
def eK:Ba:=λs=>CM 9 (xD ((jE 0 (Zh To #v[6])) s) s) s
def eM:Ba:=λs=>Kp 10 Va (((jE 2 (~~~2)) s).bind Po) s
def eO:Ba:=λs=>DY (xD ((jE 2 (Za BY (λr=>(Hc "Book" "rows" PJ (Ec r 2) (Z [])).map Dd) (!4))) s) s)
def uW:Ba:=λs=>.next s
def eP:=eO <<< uW
def eQ:=eM <<< eP
def Vb:=eK <<< eQ
def N1:=N0 <<< Vb
def L5:=NZ <<< N1
def eR:=eJ <<< L5
def eS:=eI <<< eR
def eT:=eH <<< eS
def eU:=eG <<< eT
def eV:=eF <<< eU
def eW:=eC <<< eV
def eX:=eB <<< eW
def eY:=eA <<< eX
def eZ:=ez <<< eY
def e8:=eu <<< eZ
def Vc:Ba:=e8
def e9:=El 1 11 Vc
theorem uX(m:Nat)(G:Gh)(d:D):Ej m G (.val d)=.val d:=rfl
theorem uY(m:Nat)(G:Gh):Ej m G .no=.no:=rfl
theorem uZ(i:Int):Bt 2 (.int i)=J':=rfl
theorem u0(x:D):Zd (Z [x])=Z [x]:=rfl
theorem u3(x y:D):Zd (Z [x,y])=Z [x,y]:=rfl
theorem u4(x y z:D):Zd (Z [x,y,z])=Z [x,y,z]:=rfl
theorem va(i:Int):Gz (Z (.int i))=Z (.int (-i)):=rfl
theorem KC(x y:Int):Zw (.int x) (.int y)=Z (.int (x+y)):=rfl
theorem fh(x y:Int):Ll (.int x) (.int y)=Z (.int (x-y)):=rfl
theorem vb:BY (.int 0) (.int 0)=Z (.bl J'):=rfl
theorem vc:BY (.int 0) (.int 1)=Z (.bl O'):=rfl
theorem vd:BY (.int 1) (.int 0)=Z (.bl O'):=rfl
theorem ve:BY (.int 1) (.int 1)=Z (.bl J'):=rfl
end
section
local macro_rules | `(#v[$x])=>`(.val (.lst $x))
local macro_rules | `(‹$x›)=>`(.val (.int $x))
local macro_rules | `(tactic|rwa[$[$t:term],*] $[$l]?)=>`(tactic|simp only[De,E7,Fn,Em,Zs,A3,if_true,Bd,Za,Ed,Ec,E8,Db,Fv,Ze,Zh,AR,vw,aY,jE,Ce,jT,Gw,pk,jO,Zl,Zr,A1,HI,Zy,MW,BB,Z2,ZN,Ia,Ek,Zv,IW,ZG,decide_true,Zc,Dy,Dl,FH,xD,CM,ZF,Zg,uX,uY,S2,uZ,u0,u3,u4,va,KC,fh,vb,vc,vd,ve,$[$t:term],*] $[$l]?)
abbrev AX:=U (U (U At))
abbrev Bv:=U (U At)
theorem Jr(s:Sl)(ns:U Int)(a:s=#v[ns.map D.int]\/s=.lent (ns.map D.int))(k:Int)(b:0<=k):ZE [s,‹k›]=Z ‹ns.getD k.toNat 0›:=by
 by_cases h:k<ns.length
 ·rcases a with rfl|rfl<;>simp[ZE,AL,Tf,h,atI,DG,b]
 ·rcases a with rfl|rfl<;>simp[ZE,AL,Tf,h,show ns.length<=k.toNat by lia]
def BM:Ae:="abcdefghijklmnopqrstuvwxyz"
noncomputable def Fw:Ae:="0123456789"
def signs:Ae:="abcdefghijklmnopqrstuvwxyz0123456789"
theorem fj:signs.length=36:=by decide +kernel
noncomputable def EM:D->Bool
 |.int _=>J'
 |_=>O'
def Js(c:Nat):Bool:=decide (c∈BM.cps.toList)||decide (c∈Fw.cps.toList)
def KD:U Nat->Bool
 |[]=>O'
 |c::r=>decide (c∈BM.cps.toList)&&(c::r).all Js&&decide ((c::r).length<=12)
def Bz:D->Bool
 |.str z=>KD z.cps.toList
 |_=>O'
def Sm:D->Prop
 |.str z=>z.length<=100
 |.ty _=>False
 |.lst _ .d=>False
 |.lst _ (.i _ _)=>False
 |_=>True
theorem QB(d:D)(h:Sm d):F6 [.val d]=Z (.val (.bl (EM d))):=by
 cases d with
 |lst a b=>cases b with
  |d=>exact h.elim
  |i _ _=>exact h.elim
  |l=>simp[F6,AL,PB,EM]
 |ty n=>exact h.elim
 |_=>simp[F6,AL,PB,EM]
theorem vf(c:Nat):PF [.val (.str #[(T' [c])])]=Z (.bl (Js c)):=by
 rwa[PF,S8,B9]
 grind [Js,BM,Fw]
theorem vh(L:U Nat):ZH (Zc 0) (λ_=>Z J') PF [.no] (L.map λc=>D.str #[(T' [c])])=Z ((L.map Js).map D.bl):=by
 rw[Zx (λc=>D.str #[(T' [c])]) (λc=>D.bl (Js c)) L λc _=>#[[.val (.str #[(T' [c])])],rfl,vf c]]
 simp
theorem vi(d:D)(h:Sm d):Ic [.val d]=Z (.val (.bl (Bz d))):=by
 cases d with
 |str z=>
  obtain⟨⟨L⟩⟩:=z
  have a:L.length<=AA:=BJ h (by ext)
  have k:=vh L
  cases L with
  |nil=>simp[Ic,AL,Kv,Bz,KD,Str.length]
  |cons c r=>
   erw[Ce]at h a
   have f:¬ ((r.length:Int)+1<1):=of_decide_eq_false rfl
   by_cases e:r.length+1<=12
   ·have g:¬ ((12:Int)<(r.length:Int)+1):=by lia
    by_cases j:c∈(IF "abcdefghijklmnopqrstuvwxyz").cps
    ·simp[Ic,AL,Kv,Bz,KD,Str.length,a,f,g,-DC,S8,atI,DG,k,-A3,-BS,j,Nat.le_of_lt_succ e,BM]
    ·simp[Ic,AL,Kv,Bz,KD,Str.length,a,f,g,-DC,S8,atI,DG,j,Nat.le_of_lt_succ e,BM]
   ·simp[Ic,AL,Kv,Bz,KD,Str.length,a,f,show(12:Int)<(r.length:Int)+1 by lia,show ¬ r.length<=11 by lia]
 |ty n=>exact h.elim
 |lst m b=>cases b with
  |d=>exact h.elim
  |i _ _=>exact h.elim
  |l=>simp[Ic,AL,Kv,Bz]
 |_=>simp[Ic,AL,Kv,Bz]
theorem Vd(d:D)(h:Sm d):LW [.val d]=Z (.val (.bl (EM d||Bz d))):=by
 have a:=QB d h
 cases b:EM d<;>simp[b]at a ⊢<;>simp[LW,AL,bY,a,vi d h]
def E9(d:D):Bool:=EM d||Bz d
def N2:D->Prop
 |.tup a=>a.length<=1000/\∀x∈a,Sm x
 |d=>Sm d
def Dt:D->Bool
 |.tup a=>decide (1<=a.length)&&decide (a.length<=4)&&a.all E9
 |_=>O'
theorem vj{e:AB}(a:∀d,Sm d->e [.val d]=Z (.bl (E9 d)))(xs:U D)(h:∀x∈xs,Sm x):ZH (Zc 0) (λ_=>Z J') e [.no] xs=Z ((xs.map E9).map D.bl):=by
 have:=Zx (b:=Zc 0) (e:=e) (ρ:=[.no]) (λd:D=>d) (λd=>D.bl (E9 d)) xs λd hd=>#[[.val d],rfl,a d (h d hd)]
 simp_all
theorem vl(d:D)(h:N2 d):Jl [.val d]=Z (.val (.bl (Dt d))):=by
 cases d with
 |tup a=>
  by_cases c:1<=a.length
  ·by_cases f:a.length<=4
   ·simp[Jl,AL,LZ,Dt,show ¬ ((a.length:Int)<1) by lia,show ¬ ((4:Int)<(a.length:Int)) by lia,c,f,show a.length<=AA from BJ h.1 (by ext),Zn,vj (e:=TU) (λd hd=>by have:=Vd d hd;erw[TU,Zh,Zs,Ec,E7,De,this,Em,Dd];rfl) a h.2,-BS]
   ·simp[Jl,AL,LZ,Dt,show ¬ ((a.length:Int)<1) by lia,show(4:Int)<(a.length:Int) by lia,c,f]
  ·simp[Jl,AL,LZ,Dt,show(a.length:Int)<1 by lia,c]
 |ty n=>exact h.elim
 |lst a b=>cases b with
  |d=>exact h.elim
  |i _ _=>exact h.elim
  |l=>simp[Jl,AL,LZ,Dt]
 |_=>simp[Jl,AL,LZ,Dt]
def Aj(l:U At):D:=.tup (l.map aD)
abbrev EK:=Nat×At
noncomputable def Cs{T:Type}:U (EK×T)->EK->O T
 |[],_=>J
 |e::r,k=>if e.1=k then Z e.2 else Cs r k
noncomputable def D5{T:Type}[DecidableEq T]:U (EK×T)->U (EK×T)->O (U (EK×T))
 |S,[]=>Z S
 |S,e::E=>match Cs S e.1 with
  |some t=>if t=e.2 then D5 S E else J
  |none=>D5 (S++[e]) E
def kE(k:EK):KT:=.tup [.int k.1,k.2]
def SK{T:Type}(f:T->D)(S:U (EK×T)):A6:=S.map λe=>(kE e.1,f e.2)
theorem vm{a b:EK}(h:kE a=kE b):a=b:=by grind [kE]
theorem Ve{T:Type}(f:T->D)(k:EK):∀S:U (EK×T),Zo (SK f S) (kE k)=(Cs S k).map f
 |[]=>rfl
 |e::r=>by
  have a:=Ve f k r
  erw[SK,A3]at a ⊢
  unfold Zo Cs
  grind [vm]
theorem vn{T:Type}(f:T->D)(S:U (EK×T)):∀p∈SK f S,EG p.1=O':=by
 intro p a
 obtain⟨e,_,rfl⟩:=Be.mp a
 rfl
theorem vo{T:Type}(f:T->D)(S:U (EK×T))(e:EK×T)(h:Cs S e.1=J):ZR (SK f S) (kE e.1) (f e.2)=SK f (S++[e]):=by
 unfold ZR
 grind [Ve,SK]
theorem F7(a:At):Dg (aD a)=Z (.at a):=M4 (.at a)
theorem Vf:∀(a b:At),AG (aD a) (aD b)=decide (a=b):=by
 intro a b
 cases a<;>cases b<;>simp[aD]
theorem fm:∀(a b:U At),Cw (a.map aD) (b.map aD)=decide (a=b)
 |[],[]=>by simp
 |[],_::_=>by simp
 |_::_,[]=>by simp
 |x::a,y::b=>by
  simp[Vf,fm a b]
theorem KG(n:Nat)(a:At):AT n (aD a)=J':=by cases a<;>cases n<;>rfl
theorem Vg(n:Nat)(l:U At):AT (n+1) (Aj l)=J':=by
 show(l.map aD).all (AT n)=J'
 rw[J9,CZ]
 exact λa _=>KG n a
theorem QC(a b:U At):Cp (Aj a) (Aj b)=Z (.bl (!decide (a=b))):=by
 have c:=Vg 11 a
 have d:=Vg 11 b
 simp_all [Aj,fm]
theorem vq{T:Type}[DecidableEq T](f:T->D)(k:∀a b,Cp (f a) (f b)=Z (.bl (!decide (a=b))))(S:U (EK×T))(n:S.length<100000)(e:EK×T)(i:Nat)(l m g:AB)(ρ:VE)(o:E2 ρ i=Z (Zb (SK f S)))(p:l ρ=Z (kD (kE e.1)))(q:m ρ=Z (f e.2))
  (r:∀xs,g (ρ.set i (.own xs .d))=Z (f e.2)) (h:g ρ=Z (f e.2)):
  M6 (HY i l m) g ρ=match Cs S e.1 with
   |some t=>Z (!decide (t=e.2),ρ)
   |none=>Z (O',ρ.set i (.own (Zb (SK f (S++[e]))) .d)):=by
 have c:=Ve f e.1 S
 unfold M6 HY
 rwa[o,p,q,E5,M4,show Dh (kE e.1) (SK f S)=J' from Kh _ (vn f S),show(SK f S).length<AA from BE (show(SK f S).length<100000 by simpa[SK]using n) (by ext)]
 cases j:Cs S e.1 with
 |some t=>
  rw[j]at c
  erw[c,J2,h,k]
 |none=>
  rw[j]at c
  rwa[c,Option.map_none,r,k,J2,vo f S e j]
def D0:Nat->U At->U (EK×U At)
 |_,[]=>[]
 |i,a::r=>((i,a),r)::D0 (i+1) r
theorem Vh(s0 e:Sl)(l:U At)(z:l.length<=4):∀(Ax pre:U At)(S:U (EK×U At))(k m h:Sl),l=pre++Ax->S.length+Ax.length<100000 ->
  (∃n s u v,D5 S (D0 pre.length Ax)=Z n/\n.length<=S.length+Ax.length/\ZB (ZW 2 (Zm (Zc 4) (Zm (Zc 5) ZU))) NE (C3 pre.length (Ax.map aD)) [s0,.own (Zb (SK Aj S)) .d,e,.val (Aj l),k,m,h]=.next [s0,.own (Zb (SK Aj n)) .d,e,.val (Aj l),s,u,v]) \/
  (D5 S (D0 pre.length Ax)=J/\ZB (ZW 2 (Zm (Zc 4) (Zm (Zc 5) ZU))) NE (C3 pre.length (Ax.map aD)) [s0,.own (Zb (SK Aj S)) .d,e,.val (Aj l),k,m,h]=.ret (.val (.bl O')))
 |[],pre,S,k,m,h,_,_=>.inl #[S,k,m,h,rfl,by simp,rfl]
 |a::r,pre,S,k,m,h,i,B=>by
  erw[Ce]at B
  have o:E4 (l.map aD) (Z ((pre.length:Int)+1)) J=r.map aD:=by
   rw[aV,Pu _ _ (by lia),i]
   simp_all
  have w:=vq Aj QC S (by lia) ((pre.length,a),r) 1 (λc=>(Zd (((λc=>Zs (Ed ((λc=>A1 c 4) c)) ((λc=>Zs (Ed ((λc=>A1 c 5) c)) ((λ_=>Z []) c)) c)) c).bind Zg)).map D.tup) (λc=>A1 c 6) (λc=>Bd c 6)
   [s0,.own (Zb (SK Aj S)) .d,e,.val (Aj l),‹pre.length›,.val (aD a),.val (Aj r)] rfl (by
    simp[show 2<=AA by ext,kE,kD,aD]) rfl (λF=>rfl) rfl
  have b:NE [s0,.own (Zb (SK Aj S)) .d,e,.val (Aj l),‹pre.length›,.val (aD a),h] =
    Jb (match Cs S ((pre.length,a):EK)with
     |some t=>Z (!decide (t=r),[s0,.own (Zb (SK Aj S)) .d,e,.val (Aj l),‹pre.length›,.val (aD a),.val (Aj r)])
     |none=>Z (O',[s0,.own (Zb (SK Aj (S++[((pre.length,a),r)]))) .d,e,.val (Aj l),‹pre.length›,.val (aD a),.val (Aj r)])) (λ_=>.ret (.val (.bl O'))) (λc=>.next c):=by
   have p:ZF 6 (DJ (λc=>Bd c 3) (λc=>DS (Za Zw (λc=>Bd c 4) (λ_=>Z (.int 1)) c)) (λ_=>Z J) DT [s0,.own (Zb (SK Aj S)) .d,e,.val (Aj l),‹pre.length›,.val (aD a),h]) [s0,.own (Zb (SK Aj S)) .d,e,.val (Aj l),‹pre.length›,.val (aD a),h] =
     .next [s0,.own (Zb (SK Aj S)) .d,e,.val (Aj l),‹pre.length›,.val (aD a),.val (Aj r)]:=by
    simp[Aj,o]
   unfold NE
   rw[p]
   erw[Ze]
   rw[w]
   cases g:Cs S ((pre.length,a):EK)with
   |none=>simp[Jb]
   |some t=>cases hd:decide (t=r)<;>simp[Jb,hd]
  have j:ZW 2 (Zm (Zc 4) (Zm (Zc 5) ZU)) (.tup [.int pre.length,aD a]) [s0,.own (Zb (SK Aj S)) .d,e,.val (Aj l),k,m,h]=Z [s0,.own (Zb (SK Aj S)) .d,e,.val (Aj l),‹pre.length›,.val (aD a),h]:=rfl
  rw[show C3 pre.length ((a::r).map aD)=.tup [.int pre.length,aD a]::C3 (pre.length+1) (r.map aD)from rfl]
  cases g:Cs S ((pre.length,a):EK)with
  |some t=>
   rw[g]at b
   by_cases q:t=r
   ·have x:=Vh s0 e l z r (pre++[a]) S ‹pre.length› (.val (aD a)) (.val (Aj r)) (by rw[i];simp) (by lia)
    rw[show(pre++[a]).length=pre.length+1 by simp]at x
    have f:D5 S (D0 pre.length (a::r))=D5 S (D0 (pre.length+1) r):=by simp[D0,D5,g,q]
    rwa[q,Jb]at b
    rw[f]
    erw[ZB,j,b]
    rcases x with⟨n,C,E,G,y,A,H⟩|⟨y,A⟩
    ·exact .inl #[n,C,E,G,y,by erw[Ce];lia,H]
    ·exact .inr #[y,A]
   ·have f:D5 S (D0 pre.length (a::r))=J:=by simp[D0,D5,g,q]
    erw[q,decide_false,IW,Jb]at b
    exact .inr #[f,by erw[ZB,j,b]]
  |none=>
   have x:=Vh s0 e l z r (pre++[a]) (S++[((pre.length,a),r)]) ‹pre.length› (.val (aD a)) (.val (Aj r)) (by rw[i];simp) (by simp;lia)
   have f:D5 S (D0 pre.length (a::r))=D5 (S++[((pre.length,a),r)]) (D0 (pre.length+1) r):=by simp[D0,D5,g]
   erw[Jb]at b
   erw[ZB,j,b]
   grind
def FK(F:U At):A6:=F.map λa=>(.at a,.bl J')
theorem Vi(a:At):∀F:U At,Zo (FK F) (.at a)=if a∈F then Z (.bl J')else J
 |[]=>by simp[FK,Zo]
 |b::F=>by
  have c:=Vi a F
  erw[FK,A3]at c ⊢
  unfold Zo
  grind
theorem vr(F:U At):∀p∈FK F,EG p.1=J':=by
 intro p a
 obtain⟨e,_,rfl⟩:=Be.mp a
 rfl
theorem fq(F:U At)(a:At)(h:a∉F):ZR (FK F) (.at a) (.bl J')=FK (F++[a]):=by
 unfold ZR
 grind [Vi,FK]
noncomputable def Fa(n:Nat):U At->U (EK×U At)->U (U At)->Bool
 |_,_,[]=>J'
 |F,S,l::b=>match l with
  |[]=>O'
  |a::_=>if l.length=n/\a∉F then(match D5 S (D0 0 l)with
   |some c=>Fa n (F++[a]) c b
   |none=>O')else O'
theorem ft(i:D)(g:U At)(s:Ap i (.int 0)=Z (Aj g)):∀(f:Bv)(F:U At)(S:U (EK×U At))(t j k n:Sl),(∀l∈f,1<=l.length/\l.length<=4)->S.length+4*f.length<100000->F.length+f.length<100000 ->
  (∃ρ,Fa g.length F S f=J'/\ZB (Zc 3) ZL (f.map Aj) [.val i,.own (Zb (SK Aj S)) .d,.own (Zb (FK F)) .d,t,j,k,n]=.next ρ) \/
  (Fa g.length F S f=O'/\ZB (Zc 3) ZL (f.map Aj) [.val i,.own (Zb (SK Aj S)) .d,.own (Zb (FK F)) .d,t,j,k,n]=.ret (.val (.bl O')))
 |[],F,S,t,j,k,n,_,_,_=>.inl #[_,rfl,rfl]
 |[]::f,F,S,t,j,k,n,h,_,_=>by have:=(h [] Bk).1;simp at this
 |(a::r)::f,F,S,t,j,k,n,h,z,u=>by
  erw[Ce]at z u
  have A:=h (a::r) Bk
  have H:F.length<AA:=BE (show F.length<100000 by exact Df u) (by ext)
  have B:=FO a (vr F)
  have v:=Vi a F
  have w:(FK F).length=F.length:=by simp[FK]
  have b:Zt [Aj g]=Z (.int g.length):=by simp[Aj]
  have c:Zt [Aj (a::r)]=Z (.int ((a::r).length:Int)):=by simp[Aj]
  have o:Ap (Aj (a::r)) (.int 0)=Z (aD a):=by erw[Aj,Ap];exact(show atI ((a::r).map aD) 0=Z (aD a) by simp[atI,DG])
  have x:Z9 (Aj (a::r))=Z ((a::r).map aD):=rfl
  erw[A3,ZB,Zc,Fv,E8]
  by_cases e:(a::r).length=g.length
  ·by_cases p:a∈F
   ·rw[if_pos p]at v
    refine .inr #[by simp[Fa,p],?_]
    have q:ZL [.val i,.own (Zb (SK Aj S)) .d,.own (Zb (FK F)) .d,.val (Aj (a::r)),j,k,n]=.ret (.val (.bl O')):=by
     simp[ZL,-Ap,-Zt,s,o,b,c,e,F7 a,B,v]
    rw[q]
   ·rw[if_neg p]at v
    have y:=Vh (.val i) (.own (Zb (FK (F++[a]))) .d) (a::r) A.2 (a::r) [] S j k n (by simp) (by erw[Ce]at A ⊢;lia)
    erw[HI]at y
    rcases y with⟨C,Q,K,L,E,G,M⟩|⟨E,G⟩
    ·have N:=ft i g s f (F++[a]) C (.val (Aj (a::r))) Q K L (λm P=>h m (Bu _ P)) (by erw[Ce]at A G;lia) (by simp;lia)
     have q:ZL [.val i,.own (Zb (SK Aj S)) .d,.own (Zb (FK F)) .d,.val (Aj (a::r)),j,k,n]=.next [.val i,.own (Zb (SK Aj C)) .d,.own (Zb (FK (F++[a]))) .d,.val (Aj (a::r)),Q,K,L]:=by
      simp[ZL,-Ap,-Zt,s,o,b,c,e,F7 a,B,v,GC,w,H,fq F a p,-Z9,x,M,-A3]
     rw[q,show Fa g.length F S ((a::r)::f)=Fa g.length (F++[a]) C f by erw[Fa,e,p,E,not_false_eq_true,and_self,if_true]]
     exact N
    ·refine .inr #[(show Fa g.length F S ((a::r)::f)=O' by erw[Fa,e,p,E,not_false_eq_true,and_self,if_true]),?_]
     have q:ZL [.val i,.own (Zb (SK Aj S)) .d,.own (Zb (FK F)) .d,.val (Aj (a::r)),j,k,n]=.ret (.val (.bl O')):=by
      simp[ZL,-Ap,-Zt,s,o,b,c,e,F7 a,B,v,GC,w,H,fq F a p,-Z9,x,G,-A3]
     rw[q]
  ·refine .inr #[by erw[Fa,e,false_and,if_false],?_]
   have q:ZL [.val i,.own (Zb (SK Aj S)) .d,.own (Zb (FK F)) .d,.val (Aj (a::r)),j,k,n]=.ret (.val (.bl O')):=by
    simp[ZL,-Ap,-Zt,s,b,c,show ¬ ((r.length:Int)+1=(g.length:Int)) by erw[Ce]at e;exact Nat.ToInt.of_diseq rfl rfl e]
   rw[q]
theorem vt{d:D}(h:E9 d=J'):∃a,d=aD a:=by
 cases d with
 |int i=>exact#[.int i,rfl]
 |str x=>exact#[.str x,rfl]
 |_=>simp[E9,EM,Bz]at h
theorem fu:∀{xs:U D},xs.all E9=J'->∃l:U At,xs=l.map aD
 |[],_=>#[[],rfl]
 |x::xs,h=>by
  erw[J8,Co]at h
  obtain⟨a,rfl⟩:=vt h.1
  obtain⟨l,rfl⟩:=fu h.2
  exact#[a::l,rfl]
theorem Ih{d:D}(h:Dt d=J'):∃l:U At,d=Aj l/\1<=l.length/\l.length<=4:=by
 cases d with
 |tup a=>
  erw[Dt,Co,decide_eq_true_eq]at h
  obtain⟨l,rfl⟩:=fu h.2
  exact#[l,rfl,by simpa using h.1.1,by simpa using h.1.2]
 |_=>simp[Dt]at h
theorem fw:∀{xs:U D},xs.all Dt=J'->∃a:Bv,xs=a.map Aj/\∀l∈a,1<=l.length/\l.length<=4
 |[],_=>#[[],rfl,λ_ h=>nomatch h]
 |x::xs,h=>by
  erw[J8,Co]at h
  obtain⟨l,rfl,c⟩:=Ih h.1
  obtain⟨a,rfl,d⟩:=fw h.2
  refine#[l::a,rfl,λm b=>?_]
  rcases BK.mp b with rfl|b
  ·exact c
  ·exact d m b
def L6(a:Bv):Bool:=match a with
 |[]=>J'
 |l::_=>Fa l.length [] [] a
theorem vu{e:AB}(a:∀d,N2 d->e [.val d]=Z (.bl (Dt d)))(xs:U D)(h:∀x∈xs,N2 x):ZH (Zc 0) (λ_=>Z J') e [.no] xs=Z ((xs.map Dt).map D.bl):=by
 have:=Zx (b:=Zc 0) (e:=e) (ρ:=[.no]) (λd:D=>d) (λd=>D.bl (Dt d)) xs λd hd=>#[[.val d],rfl,a d (h d hd)]
 simp_all
theorem vz(xs:U D)(h:∀x∈xs,N2 x)(hz:xs.length<=1000):(xs.all Dt=O'/\Ie [#v[xs]]=Z (.val (.bl O')))\/(xs.all Dt=J'/\∃a:Bv,xs=a.map Aj/\(∀l∈a,1<=l.length/\l.length<=4)/\Ie [#v[xs]]=Z (.val (.bl (L6 a)))):=by
 have k:=vu (e:=Ua) (λd hd=>by have:=vl d hd;rwa[Ua,this,Dd]) xs h
 have c:xs.length<=AA:=BJ hz (by ext)
 have g:(xs.map Dt).all id=xs.all Dt:=by rw[J9];rfl
 have i:(xs.map Dt).all (λx=>x)=xs.all Dt:=g
 cases f:xs.all Dt with
 |false=>
  refine .inl #[rfl,?_]
  rw[f]at g i
  simp[Ie,AL,NH,NG,NF,c,Zn,k,-BS,g]
 |true=>
  rw[f]at g i
  obtain⟨a,rfl,j⟩:=fw f
  refine .inr #[rfl,a,rfl,j,?_]
  cases a with
  |nil=>simp[Ie,AL,NH,NG,NF,Qj,Qe,Qi,Qf,Qh,Qg,Uc,Ub,ZH,HS,ZB,L6]
  |cons b a=>
   have p:(b::a).length<=1000:=by rw[Bh]at hz;exact hz
   have o:=ft (.lst ((b::a).map Aj)) b (show Ap (.lst ((b::a).map Aj)) (.int 0)=Z (Aj b) by simp[atI,DG]) (b::a) [] [] .no .no .no .no j (by erw[HI];lia) (by erw[HI];lia)
   rw[show Zb (SK Aj [])=[]from rfl,show Zb (FK [])=[]from rfl]at o
   rw[show L6 (b::a)=Fa b.length [] [] (b::a)from rfl]
   generalize (b::a).map Aj=G at *
   rcases o with⟨q,m,n⟩|⟨m,n⟩
   ·rw[m]
    simp[Ie,AL,NH,NG,NF,Qj,Qe,Qi,Qf,Qh,Qg,Uc,Ub,c,Zn,k,-BS,g,n]
   ·rw[m]
    simp[Ie,AL,NH,NG,NF,Qj,Qe,Qi,Qf,Qh,Qg,c,Zn,k,-BS,g,n]
def BQ{T:Type}(E:U (EK×T)):Prop:=∀k t a,(k,t)∈E->(k,a)∈E->t=a
theorem fy{T:Type}{k:EK}{t:T}:∀{S:U (EK×T)},Cs S k=Z t->(k,t)∈S
 |[],h=>by cases h
 |e::r,h=>by
  unfold Cs at h
  by_cases a:e.1=k
  ·grind [Bk]
  ·rw[if_neg a]at h;exact Bu _ (fy h)
theorem Vj{T:Type}{k:EK}:∀{S:U (EK×T)},Cs S k=J->∀t,(k,t)∉S
 |[],_,t,h=>nomatch h
 |e::r,a,t,h=>by
  unfold Cs at a
  by_cases b:e.1=k
  ·rw[if_pos b]at a;cases a
  ·rw[if_neg b]at a
   rcases BK.mp h with h|h
   ·exact b (by rw[<- h])
   ·exact Vj a t h
theorem Vk{T:Type}[DecidableEq T]:∀(E S:U (EK×T)),BQ S->(∃m,D5 S E=Z m/\(∀e,e∈m↔e∈S++E)/\BQ (S++E))\/(D5 S E=J/\¬ BQ (S++E))
 |[],S,h=>.inl #[S,rfl,by simp,by simpa using h]
 |e::E,S,h=>by
  unfold D5
  cases n:Cs S e.1 with
  |some t=>
   have p:=fy n
   by_cases o:t=e.2
   ·have d:∀x,x∈S++e::E↔x∈S++E:=λx=>by
     grind
    have j:BQ (S++e::E)↔BQ (S++E):=#[λf k t l g i=>f k t l ((d _).mpr g) ((d _).mpr i),λf k t l g i=>f k t l ((d _).mp g) ((d _).mp i)]
    erw[o,if_true]
    rcases Vk E S h with⟨m,a,b,c⟩|⟨a,b⟩
    ·exact .inl #[m,a,λx=>(b x).trans (d x).symm,j.mpr c]
    ·exact .inr #[a,λf=>b (j.mp f)]
   ·erw[o,if_false]
    refine .inr #[trivial,λf=>o (f e.1 t e.2 (Iw _ p) (CY _ Bk))]
  |none=>
   have q:BQ (S++[e]):=λk t l g i=>by
    erw[Dn,D9]at g i
    rcases g with g|g<;>rcases i with i|i
    ·exact h k t l g i
    ·have:k=e.1:=by rw[<- i]
     subst this;exact absurd g ((Vj n) t)
    ·have:k=e.1:=by rw[<- g]
     subst this;exact absurd i ((Vj n) l)
    ·have:=g.trans i.symm
     injection this
   rw[show S++e::E=S++[e]++E by simp]
   exact Vk E (S++[e]) q
noncomputable def hd(l:U At):At:=l.headD .non
noncomputable def KH{T:Type}[DecidableEq T](CJ:U At->U (EK×T))(n:Nat):U At->U (EK×T)->U (U At)->Bool
 |_,_,[]=>J'
 |F,S,l::b=>match l with
  |[]=>O'
  |a::_=>if l.length=n/\a∉F then(match D5 S (CJ l)with
   |some c=>KH CJ n (F++[a]) c b
   |none=>O')else O'
theorem fA(n:Nat):∀(b:Bv)(F:U At)(S:U (EK×U At)),Fa n F S b=KH (D0 0) n F S b
 |[],_,_=>rfl
 |[]::b,_,_=>rfl
 |(a::r)::b,F,S=>by
  erw[Fa,KH]
  cases D5 S (D0 0 (a::r))with
  |none=>rfl
  |some c=>erw[fA n b]
theorem BQ.congr{T:Type}{E d:U (EK×T)}(h:∀e,e∈E↔e∈d):BQ E↔BQ d:=#[λf k t a b c=>f k t a ((h _).mpr b) ((h _).mpr c),λf k t a b c=>f k t a ((h _).mp b) ((h _).mp c)]
theorem BQ.left{T:Type}{E a:U (EK×T)}(h:BQ (E++a)):BQ E:=λk t b c d=>h k t b (Iw _ c) (Iw _ d)
theorem fB{T:Type}[DecidableEq T](CJ:U At->U (EK×T))(n:Nat):∀(b:Bv)(F:U At)(S:U (EK×T)),F.Nodup->BQ S->(∀l∈b,l≠[]) ->
  (KH CJ n F S b=J'↔(∀l∈b,l.length=n)/\(F++b.map hd).Nodup/\BQ (S++b.flatMap CJ))
 |[],F,S,k,m,_=>by simp[KH,k,m]
 |[]::b,F,S,k,m,h=>by exact absurd rfl (h [] Bk)
 |(a::r)::b,F,S,k,m,h=>by
  rw[show S++((a::r)::b).flatMap CJ=S++CJ (a::r)++b.flatMap CJ by simp,show F++((a::r)::b).map hd=F++[a]++b.map hd by simp[hd]]
  have q:KH CJ n F S ((a::r)::b)=if(a::r).length=n/\a∉F then(match D5 S (CJ (a::r))with
   |some o=>KH CJ n (F++[a]) o b
   |none=>O')else O':=rfl
  rw[q]
  by_cases f:(a::r).length=n/\a∉F
  ·have s:(F++[a]).Nodup:=by
    rw[Lv]
    exact#[k,by simp,λx v y u=>by simp at u;subst u;rintro rfl;exact f.2 v]
   rw[if_pos f]
   rcases Vk (CJ (a::r)) S m with⟨o,t,p,w⟩|⟨t,p⟩
   ·erw[t]
    rw[fB CJ n b (F++[a]) o s ((BQ.congr p).mpr w) (λl c=>h l (Bu _ c))]
    have g:BQ (o++b.flatMap CJ)↔BQ (S++CJ (a::r)++b.flatMap CJ):=BQ.congr λe=>by
     rw[Dn,Dn,p e]
    rw[g]
    constructor
    ·rintro⟨i,d,j⟩
     exact#[λl c=>by rcases BK.mp c with rfl|c;exact f.1;exact i l c,d,j]
    ·rintro⟨i,d,j⟩
     exact#[λl c=>i l (Bu _ c),d,j]
   ·erw[t]
    constructor
    ·intro z;cases z
    ·rintro⟨_,_,j⟩
     exact absurd j.left p
  ·rw[if_neg f]
   constructor
   ·intro z;cases z
   ·rintro⟨i,d,_⟩
    refine absurd #[i _ Bk,λA=>?_] f
    rw[Lv]at d
    have:=d.1
    rw[Lv]at this
    exact this.2.2 a A a (by simp) rfl
theorem Vl:∀(l:U At)(j:Nat)(e:EK×U At),e∈D0 j l↔∃m,e.1.1=j+m/\l[m]?=Z e.1.2/\e.2=l.drop (m+1)
 |[],j,e=>by simp[D0]
 |a::r,j,e=>by
  rw[D0,BK,Vl r (j+1) e]
  constructor
  ·rintro(rfl|⟨m,d,b,c⟩)
   ·exact#[0,by simp,by simp,by simp]
   ·exact#[m+1,by lia,by simpa using b,by simpa using c]
  ·rintro⟨m,d,b,c⟩
   cases m with
   |zero=>
    left
    obtain⟨⟨i,x⟩,t⟩:=e
    simp at d b c
    rw[d,b,c]
   |succ m=>right;exact#[m,by lia,by simpa using b,by simpa using c]
theorem vA{T:Type}:BQ ([]:U (EK×T)):=λ_ _ _ h=>by cases h
theorem RK(x:Ae):x.length=x.cps.toList.length:=rfl
theorem vB{a:Type}{f:Nat->a}{m:Nat}(h:((Bf m).map f).Nodup){k:Nat}(b:j<m)(c:k<m)(e:f j=f k):j=k:=by grind [List.nodup_iff_pairwise_ne,List.pairwise_map,Nat.lt_trichotomy,List.pairwise_iff_getElem]
def GW(W:U Nat):Prop:=(∃c r,W=c::r/\c∈BM.cps.toList)/\W.all Js=J'
theorem GW.word{W:U Nat}(h:GW W)(a:W.length<=12):KD W=J':=by
 obtain⟨⟨c,r,rfl,b⟩,d⟩:=h
 grind [KD]
theorem vD{z:Ae}(h:GW z.cps.toList)(a:z.cps.toList.length<=12):E9 (aD (.str z))=J'/\Sm (aD (.str z)):=by
 refine#[?_,?_]
 ·show(EM (.str z)||Bz (.str z))=J'
  grind [EM,Bz,GW.word]
 ·show z.length<=100
  rw[RK];lia
theorem GK(x k:Int)(a:0<k)(b:k<1000000000):Fl (.int x) (.int k)=Z (.int (x/k)):=by
 show(if Mo x k then Z (D.int (x/k))else J)=_
 rw[if_pos #[a,by lia]]
theorem Z4(x k:Int)(a:0<k):ZJ (.int x) (.int k)=Z (.int (x%k)):=by
 simp_all
theorem GN{x y:Int}(h:DF x y):DB (.int x) (.int y)=Z (.int (x*y)):=by show(if DF x y then Z (D.int (x*y))else J)=_;rw[if_pos h]
theorem Hq(a b:Int):BY (.int a) (.int b)=Z (.bl (decide (a=b))):=rfl
noncomputable def Ii(x:Int)(k:Nat):Int:=(x*45742+x/46949+29*(k:Int)+11)%2147483647
theorem vE(x:Int)(k:Nat):0<=Ii x k/8:=by grind [Ii]
def Ij(x:Int)(k:Nat):Nat->U Int
 |0=>[]
 |n+1=>(Ii x k/8)::Ij (Ii x k) (k+1) n
theorem fC:∀(n k:Nat)(x:Int),(Ij x k n).length=n
 |0,_,_=>rfl
 |n+1,k,x=>by simp[Ij,fC n]
theorem fE:∀(n k:Nat)(x:Int),∀y∈Ij x k n,0<=y
 |0,_,_,y,h=>by cases h
 |n+1,k,x,y,h=>by
  erw[Ij,BK]at h
  rcases h with rfl|h
  ·exact vE x k
  ·exact fE n _ _ y h
theorem vF(s0 a:Sl)(k:Nat)(x:Int)(acc:U Int)(hz:acc.length<AA):PM [s0,a,‹x›,.own (acc.map D.int),‹k›]=.next [s0,a,‹Ii x k›,.own ((acc++[Ii x k/8]).map D.int),‹k›]:=by
 have b:=GN (x:=x) (y:=45742) (by right;decide)
 have c:=GN (x:=29) (y:=(k:Int)) (by left;decide)
 unfold Ii
 rwa[PM,b,GK x 46949 (by ext) (by ext),c,Z4 (x*45742+x/46949+29*(k:Int)+11) 2147483647 (by ext),GK ((x*45742+x/46949+29*(k:Int)+11)%2147483647) 8 (by ext) (by ext),Ef,DH,Bh,if_pos hz,FN]
theorem fF(s0 c:Sl):∀(n k:Nat)(x:Int)(acc:U Int)(b:Sl),acc.length+n<100000->∃d a,ZB (Zc 4) PM ((EN k n).map λ(k:Nat)=>D.int k) [s0,c,‹x›,.own (acc.map D.int),b]=.next [s0,c,‹d›,.own ((acc++Ij x k n).map D.int),a]
 |0,k,x,acc,b,_=>#[x,b,by simp[ZB,Ij]]
 |n+1,k,x,acc,b,h=>by
  obtain⟨d,a,e⟩:=fF s0 c n (k+1) (Ii x k) (acc++[Ii x k/8]) ‹k› (by simp;lia)
  have f:acc.length<AA:=BE (show acc.length<100000 by exact Df h) (by ext)
  refine#[d,a,?_]
  rw[KI,A3]
  rwa[ZB]
  grind [vF,Ij]
theorem QD(c:Int)(n:Nat)(h:n<=100):∃ws:U Int,Ho [‹c›,‹n›]=Z #v[ws.map D.int]/\ws.length=n/\∀y∈ws,0<=y:=by
 have b:DR [.int ((n:Int)+2)]=Z ((EN 0 (n+2)).map λ(k:Nat)=>D.int k):=by
  have:=Hn (n+2) (by lia)
  rw[KJ]at this
  exact this
 obtain⟨i,d,e⟩:=fF ‹c› ‹n› (n+2) 0 (c%2147483549+17) [] .no (by simp;lia)
 have f:=fC (n+2) 0 (c%2147483549+17)
 have a:=fE (n+2) 0 (c%2147483549+17)
 erw[D1,Db]at e
 generalize Ij (c%2147483549+17) 0 (n+2)=W at *
 exact#[W.drop 2,by simp[Ho,AL,bv,bu,bt,br,bq,bj,bn,bo,bp,b,e,show E4 (W.map D.int) (Z 2) J=(W.drop 2).map D.int by rw[aV,Pu _ _ (QE 2)];rfl],by simp[f],λy g=>a y (List.mem_of_mem_drop g)]
theorem vG(c:Int):∃ws:U Int,Ho [‹c›,‹40›]=Z #v[ws.map D.int]/\ws.length=40/\∀y∈ws,0<=y:=QD c 40 (by ext)
theorem Jt{xs:U Int}{i:Int}(a:0<=i)(b:i<xs.length):atI (xs.map D.int) i=Z (.int (xs.getD i.toNat 0)):=by
 rw[show i=((i.toNat:Nat):Int) by exact Int.eq_natCast_toNat.mpr a]
 have h:i.toNat<xs.length:=(Int.toNat_lt a).mpr b
 exact Z3 (by rw[DQ,Jf,B8 h];simp[Ex,h])
theorem Vm{i g:Type}{b:D->VE->O VE}{e:AB}{ρ:VE}(G:i->D)(W:g->D)(P:g->Prop):∀(xs:U i),(∀x∈xs,∃c a,P c/\b (G x) ρ=Z a/\e a=Z (W c))->∃f:U g,ZH b (λ_=>Z J') e ρ (xs.map G)=Z (f.map W)/\f.length=xs.length/\∀c∈f,P c
 |[],_=>#[[],rfl,rfl,λ_ h=>nomatch h]
 |x::xs,h=>by
  obtain⟨c,a,o,j,k⟩:=h x Bk
  obtain⟨f,l,m,p⟩:=Vm G W P xs λy n=>h y (Bu _ n)
  refine#[c::f,?_,by simp[m],λd hd=>?_]
  ·rwa[ZH,j,k,l]
  ·grind [hd]
abbrev cS(c:Nat):D:=.str #[(T' [c])]
theorem vH:∀a:U Nat,(Txt.join "" (a.map λc=>(#[(T' [c])]:Ae))).cps.toList=a:=by
 intro a
 show(Builtin.Str.glued "" (a.map λc=>(#[(T' [c])]:Ae))).cps.toList=a
 rw[StrLaws.glued_eq_join]
 induction a with
 |nil=>rfl
 |cons c a b=>
  cases a with
  |nil=>rfl
  |cons d a=>
   show((#[(T' [c])]:Ae)++("":Ae)++Str.join "" ((d::a).map λc=>(#[(T' [c])]:Ae))).cps.toList=_
   have e:∀(x y:Ae),(x++y).cps.toList=x.cps.toList++y.cps.toList:=λx y=>by
    show(x.cps++y.cps).toList=_
    simp
   have f:("":Ae).cps.toList=[]:=by decide +kernel
   simp_all
structure fG(f:Nat->At):Prop where
 inj:∀j k,j<6->k<6->f j=f k->j=k
 val:∀k,k<6->E9 (aD (f k))=J'
 sm:∀k,k<6->Sm (aD (f k))
 lt:∀k i,k<6->f k=.int i -> -10^40<i/\i<10^40
theorem fH{x y:Int}(h:K4 x y):HP (.int x) (.int y)=Z (.int (x^y.toNat)):=by show(if K4 x y then Z (D.int (x^y.toNat))else J)=_;rw[if_pos h]
theorem vI(c:Int)(k:Nat):Jk [‹c›,‹0›,‹k›]=Z ‹(c%10^30-5*10^29+(k:Int))›:=by
 rfl
def sg(i:Nat):Nat:=signs.cps.toList.getD i 0
theorem vJ:((Bf 36).map sg).Nodup:=by decide +kernel
theorem fI:∀i∈Bf 26,sg i∈BM.cps.toList:=by decide +kernel
theorem Vn:∀i∈Bf 36,Js (sg i)=J':=by decide +kernel
theorem fJ(i:Nat)(h:i<36):Ap (.str "abcdefghijklmnopqrstuvwxyz0123456789") (.int i)=Z (cS (sg i)):=by
 have a:signs.cps.toList.length=36:=by rw[<- RK];exact fj
 show(if signs.length<=AA then(atI signs.cps.toList (i:Int)).map λc=>D.str #[(T' [c])]else J)=_
 rw[if_pos (show signs.length<=AA by rw[fj];decide),Z3 (B8 (by lia))]
 simp[sg,Ex,a,h]
noncomputable def md(j:Nat):Int:=if j=0 then 26 else 36
theorem fK(j:Nat):Ap (.lst [.int 36,.int 26]) (.int (if decide ((j:Int)=0)=J' then 1 else 0))=Z (.int (md j)):=by
 unfold md
 by_cases h:j=0
 ·subst h;rfl
 ·erw[h,Int.ofNat_ne_zero.mpr h,decide_false,if_false];rfl
theorem QF(j:Nat):0<md j/\md j<=36:=by unfold md;split<;>decide
def Fx(x:Int)(j:Nat):Nat:=(x%md j).toNat
theorem KN(x:Int)(j:Nat):Fx x j<36:=by
 have:=QF j
 unfold Fx
 have a:=Fy x this.1
 grind
theorem fL(x:Int):Fx x 0<26:=by grind [Fx,md]
theorem QG(x:Int)(j:Nat):x%md j=(Fx x j:Int):=by grind [QF,md,Fx]
theorem vK(x:Int)(j:Nat){a b:Nat}(c:a<6)(d:b<6)(e:Fx (x+5*(a:Int)) j=Fx (x+5*(b:Int)) j):a=b:=by
 have f:(x+5*(a:Int))%md j=(x+5*(b:Int))%md j:=by rw[QG,QG,e]
 grind [md]
theorem vL(c:Int)(j:Nat)(b:j<1000):PN [‹j›,.val (.str "abcdefghijklmnopqrstuvwxyz0123456789"),‹c›]=Z (cS (sg (Fx (c/((j:Int)+2)+4*(j:Int)) j))):=by
 have a:=GN (x:=4) (y:=(j:Int)) (by left;decide)
 erw[PN,Za,Bd,Fn,E7,De,KC,GK c ((j:Int)+2) (Int.sign_eq_one_iff_pos.mp rfl) (by lia),a,Hq,Ed,Em,Zs,Zl,Gw,pk,L2.intD,Zg,Zd,if_pos (show([D.int 36,.int 26]:U D).length<=AA by ext),Zr,fK j,Z4 (c/((j:Int)+2)+4*(j:Int)) (md j) (QF j).1]
 rw[QG,fJ _ (KN (c/((j:Int)+2)+4*(j:Int)) j)]
def wB(c:Int)(n:Nat):U Nat:=(Bf n).map λ(j:Nat)=>sg (Fx (c/((j:Int)+2)+4*(j:Int)) j)
def wK(c:Int)(n a:Nat)(k:Nat):U Nat:=(wB c n).set a (sg (Fx (c/((a:Int)+2)+4*(a:Int)+5*(k:Int)) a))
def wS(L:U Nat):Ae:=Txt.join "" (L.map λc=>(#[(T' [c])]:Ae))
theorem QH(L:U Nat):(wS L).cps.toList=L:=vH L
theorem QI(c:Int)(n:Nat):(wB c n).length=n:=by simp[wB]
theorem vM(c:Int)(n:Nat):∀x∈wB c n,Js x=J':=by
 intro x a
 obtain⟨j,b,rfl⟩:=Be.mp a
 grind [Vn,KN]
theorem vN(c:Int)(n:Nat)(h:0<n):∃x r,wB c n=x::r/\x∈BM.cps.toList:=by
 obtain⟨m,rfl⟩:∃m,n=m+1:=#[n-1,by exact(Nat.sub_eq_iff_eq_add h).mp rfl]
 exact#[_,_,by rw[wB,List.range_succ_eq_map,A3],fI _ (ET.mpr (fL _))]
theorem vO(c:Int)(n a k:Nat)(h:0<n):GW (wK c n a k):=by
 obtain⟨x,r,e,f⟩:=vN c n h
 have d:=vM c n
 unfold wK
 rw[e]at d ⊢
 cases a with
 |zero=>
  refine#[#[_,r,rfl,fI _ (ET.mpr (fL _))],CZ.mpr λy b=>?_]
  rcases BK.mp b with rfl|b
  ·exact Vn _ (ET.mpr (KN _ _))
  ·exact d y (Bu _ b)
 |succ a=>
  refine#[#[x,r.set a _,rfl,f],CZ.mpr λy b=>?_]
  grind [Vn,KN]
theorem vP(c:Int)(n a:Nat)(d:a<n){k:Nat}(f:j<6)(g:k<6)(e:wK c n a j=wK c n a k):j=k:=by
 unfold wK at e
 have b:=congrArg (λl=>l[a]?) e
 erw[Hx (show a<(wB c n).length by exact K7 d (QI c n).symm),Option.some.injEq]at b
 exact vK _ _ f g (vB vJ (KN _ _) (KN _ _) b)
theorem fM:∀L:U Nat,(L.map λ_=>1).sum=L.length
 |[]=>rfl
 |_::L=>by rw[A3,List.sum_cons,fM L,Ce];exact Nat.add_comm 1 L.length
theorem vQ(c w:Int)(s:¬ w=0)(n a k:Nat)(h:1+c%12=(n:Int))(d:n<=12)(i:c/12%(n:Int)=(a:Int))(l:a<n):Jk [‹c›,‹w›,‹k›]=Z (.val (.str (wS (wK c n a k)))):=by
 have q3:=Z4 (c/12) (n:Int) (by lia)
 rw[i]at q3
 have g:=Zx (b:=Zc 0) (e:=PN) (ρ:=[.no,.val (.str "abcdefghijklmnopqrstuvwxyz0123456789"),‹c›]) (λ(j:Nat)=>D.int j) (λ(j:Nat)=>cS (sg (Fx (c/((j:Int)+2)+4*(j:Int)) j))) (Bf n) λj m=>#[_,rfl,vL c j (by have:=ET.mp m;lia)]
 rw[show(Bf n).map (λ(j:Nat)=>cS (sg (Fx (c/((j:Int)+2)+4*(j:Int)) j)))=(wB c n).map cS by rw[wB,BS];rfl]at g
 have o:=GN (x:=4) (y:=(a:Int)) (by left;decide)
 have f:=GN (x:=5) (y:=(k:Int)) (by left;decide)
 have p:DG ((wB c n).map cS).length (a:Int)=Z a:=by
  rw[Bh,QI];unfold DG
  grind
 have q:IX ((wK c n a k).map cS)=Z ((wK c n a k).map λc=>(#[(T' [c])]:Ae)):=by
  have:=Yc ((wK c n a k).map λc=>(#[(T' [c])]:Ae))
  rw[BS]at this;exact this
 have r:(((wK c n a k).map λc=>(#[(T' [c])]:Ae)).map (·.length)).sum+((wK c n a k).map λc=>(#[(T' [c])]:Ae)).length*("":Ae).length<=16777216:=by
  have u:(wK c n a k).length=n:=by simp[wK,QI]
  have v:((wK c n a k).map λc=>(#[(T' [c])]:Ae)).map (·.length)=(wK c n a k).map λ_=>1:=by rw[BS];rfl
  have z:("":Ae).length=0:=by ext
  grind [fM]
 erw[Jk,AL,Ce,HI,FZ,if_true,bM,bL,bw,Za,Bd,Fn,E7,De,G0,D1,show AR (BY (.int w) (.int 0))=Z O' by simp_all,ZG,Ze,KO,L7,KP,
  bK,bz,ZF,Fv,E8,bJ,bA,Z4 c 12 (by ext),KC,h,bI,bB,GK c 12 (by ext) (by ext),q3,bH,bC,Zi,Ed,Em,A1,Zs,Zg,Hn n (by lia),Zd,if_pos (show((Bf n).map λ(k:Nat)=>D.int k).length<=AA by rw[Bh,List.length_range];exact BJ d (by ext)),Zn,A3,Db,IU,g,ZS]
 erw[bG,bD,Za,Bd,Fn,E7,De,KC,GK c ((a:Int)+2) (Int.sign_eq_one_iff_pos.mp rfl) (by lia),o,f,Hq,Ed,Em,Zs,Zl,Gw,pk,L2.intD,Zg,Zd,if_pos (show([D.int 36,.int 26]:U D).length<=AA by ext),Zr,fK a,Z4 (c/((a:Int)+2)+4*(a:Int)+5*(k:Int)) (md a) (QF a).1,OZ,DH]
 rw[QG,fJ _ (KN (c/((a:Int)+2)+4*(a:Int)+5*(k:Int)) a)]
 erw[p,Fv,E8,show((wB c n).map cS).set a (cS (sg (Fx (c/((a:Int)+2)+4*(a:Int)+5*(k:Int)) a)))=(wK c n a k).map cS by rw[wK,List.map_set],Ze,bF,bE,O0,Zs,Ec,Fn,E7,De,Gw,pk,O1,q,if_pos r,Zy,wS]
theorem fN(c w:Int):∃f,fG f/\∀k:Nat,k<6->Jk [‹c›,‹w›,‹k›]=Z (.val (aD (f k))):=by
 by_cases m:w=0
 ·subst m
  refine#[λk=>.int (c%10^30-5*10^29+(k:Int)),#[λj k _ _ e=>by injection e with e;lia,λk _=>rfl,λk _=>trivial,λk i o e=>?_],λk _=>vI c k]
  injection e with e;have l:=En c (show(10^30:Int)≠0 by ext);have t:=Fy c (show(0:Int)<10^30 by ext);lia
 ·obtain⟨n,q,b,d⟩:∃n:Nat,1+c%12=(n:Int)/\0<n/\n<=12:=#[(1+c%12).toNat,by lia,by lia,by lia]
  have l:=En (c/12) (show(n:Int)≠0 by exact Int.natCast_ne_zero_iff_pos.mpr b)
  obtain⟨a,r,g⟩:∃a:Nat,c/12%(n:Int)=(a:Int)/\a<n:=#[(c/12%(n:Int)).toNat,by exact Eq.symm (Ju l),by exact(Int.toNat_lt l).mpr (Fy (c/12) (show(0:Int)<(n:Int) by exact L8.mpr b))]
  have h:∀k,E9 (aD (.str (wS (wK c n a k))))=J'/\Sm (aD (.str (wS (wK c n a k)))):=λk=>vD (by rw[QH];exact vO c n a k b) (by rw[QH];simp[wK,QI];lia)
  refine#[λk=>.str (wS (wK c n a k)),#[λj k s o e=>?_,λk _=>(h k).1,λk _=>(h k).2,λk i _ e=>nomatch e],λk _=>vQ c w m n a k q d r g]
  have p:(wS (wK c n a j)).cps.toList=(wS (wK c n a k)).cps.toList:=by lia
  rw[QH,QH]at p
  exact vP c n a g s o p
theorem fO{b:U Int}{P:Int->Prop}(h:∀z∈b,P z)(i:Nat)(a:i<b.length):P (b.getD i 0):=by
 simp_all
abbrev XS(ws:U Int):Sl:=#v[ws.map D.int]
theorem vR(ws:U Int)(n:ws.length=40)(s0 b c d e f g:Sl)(j:Nat)(o:1<=j)(a:j<10)(l:U Int)(h:l.length=j)(hz:∀z∈l,1<=z/\z<=6):
  ∃z,1<=z/\z<=6/\PX [s0,XS ws,b,c,.own (l.map D.int),‹j›,d,e,f,g]=.next [s0,XS ws,b,c,.own ((l++[z]).map D.int),‹j›,d,e,f,g]:=by
 have k:=Jt (xs:=ws) (i:=2+(j:Int)) (QE (2+j)) (by lia)
 have m:=Jt (xs:=l) (i:=(j:Int)-1) (by lia) (by lia)
 have p:=fO hz ((j:Int)-1).toNat (by lia)
 generalize l.getD ((j:Int)-1).toNat 0=y,ws.getD (2+(j:Int)).toNat 0=w at *
 have q:=Fy w (show 0<y by lia)
 exact#[1+w%y,by exact Int.le_add_of_nonneg_right (En w (show y≠0 by lia)),by lia,by erw[PX,Za,Bd,Fn,E7,De,KC,fh,Ap,k,m,Z4 w y (by lia),Ef,Bh,if_pos (show l.length<AA by rw[h];exact BE a (by ext)),Ze,Fv,E8,FN,A3,Db]]
theorem fQ(ws:U Int)(q:ws.length=40)(s0 d f g h i l:Sl):∀(n j:Nat)(x:U Int)(m:Sl),1<=j->j+n<=9->x.length=j->(∀z∈x,1<=z/\z<=6) ->
  ∃(c:U Int) (a:Sl),c.length=j+n/\(∀z∈c,1<=z/\z<=6)/\ZB (Zc 5) PX ((EN j n).map λ(k:Nat)=>D.int k) [s0,XS ws,d,f,.own (x.map D.int),m,g,h,i,l]=.next [s0,XS ws,d,f,.own (c.map D.int),a,g,h,i,l]
 |0,j,x,m,_,_,p,o=>#[x,m,by lia,o,rfl]
 |n+1,j,x,m,r,v,p,o=>by
  obtain⟨z,s,t,e⟩:=vR ws q s0 d f g h i l j r (by lia) x p o
  obtain⟨c,a,w,u,q3⟩:=fQ ws q s0 d f g h i l n (j+1) (x++[z]) ‹j› (J1 r) (by lia) (by simp[p]) (λy b=>by
   rcases Dn.mp b with b|b
   ·exact o y b
   ·erw[D9]at b;subst b;exact#[s,t])
  refine#[c,a,by lia,u,?_]
  rw[KI,A3]
  erw[ZB,Zc,Fv,E8]
  rw[e];exact q3
def CJ(a:Nat->Nat->Nat)(j x:Nat):Nat:=if j=0 then x else a j x
def DE(f:Nat->Nat->At)(a:Nat->Nat->Nat):Nat->Nat->Nat->U At
 |_,_,0=>[]
 |j,x,n+1=>f j (CJ a j x)::DE f a (j+1) (CJ a j x) n
def Ct(ws a:U Int)(j x:Nat):Nat:=(ws.getD (7+7*j+x) 0%a.getD j 0).toNat
theorem vS(ws a:U Int)(j x:Nat)(h:1<=a.getD j 0):ws.getD (7+7*j+x) 0%a.getD j 0=(Ct ws a j x:Int):=by
 have:=En (ws.getD (7+7*j+x) 0) (show a.getD j 0≠0 by exact B0 (Int.ne_of_lt h))
 unfold Ct;exact Eq.symm (Ju this)
theorem fS(ws b:U Int)(j x:Nat)(h:1<=b.getD j 0)(a:b.getD j 0<=6):Ct ws b j x<6:=by
 have:=Fy (ws.getD (7+7*j+x) 0) (show 0<b.getD j 0 by exact Int.lt_of_add_one_le h)
 unfold Ct;lia
def cW(c:Int)(ws:U Int):Int:=c+ws.getD 2 0*(ws.getD 6 0%2)
def wW(ws:U Int)(j:Nat):Int:=(ws.getD 7 0+(j:Int)*(ws.getD 8 0%2))%2
def KQ(c:Int)(ws:U Int)(f:Nat->Nat->At):Prop:=∀j,fG (f j)/\∀k:Nat,k<6->Jk [‹cW c ws›,‹wW ws j›,‹k›]=Z (.val (aD (f j k)))
theorem vT(c:Int)(ws:U Int):∃f,KQ c ws f:=#[λj=>Classical.choose (fN (cW c ws) (wW ws j)),λj=>Classical.choose_spec (fN (cW c ws) (wW ws j))]
theorem Jv(ws:U Int)(a:ws.length=40)(i:Nat)(b:i<40):atI (ws.map D.int) (i:Int)=Z (.int (ws.getD i 0)):=by
 have:=Jt (xs:=ws) (i:=(i:Int)) (Pw i) (by lia)
 grind
theorem vU(c:Int)(ws:U Int)(b:ws.length=40)(f:Nat->Nat->At)(r:KQ c ws f)(d e g h:Sl)(A:U Int)(hz:∀z∈A,1<=z/\z<=6)(j x:Nat)(m:j<A.length)(s:j<4)(t:x<6)(acc:U At)(u:acc.length<100):
  Nz [‹c›,XS ws,d,e,.own (A.map D.int),‹j›,g,h,.own (acc.map aD),‹x›]=.next [‹c›,XS ws,d,e,.own (A.map D.int),‹j›,g,h,.own ((acc++[f j (CJ (Ct ws A) j x)]).map aD),‹(CJ (Ct ws A) j x:Int)›]:=by
 have k:=fO hz j m
 have cond:AR (E3 (.int j) (.int 0))=Z (decide (0<(j:Int))):=rfl
 have fin:∀y:Nat,y<6->(Ze (Ef 8 ((Zh Jk (λa=>Zs (Ed ((Za Zw (λa=>Bd a 0) (Za DB (Za Ap (λa=>Bd a 1) (λ_=>Z (.int 2))) (Za ZJ (Za Ap (λa=>Bd a 1) (λ_=>Z (.int 6))) (λ_=>Z (.int 2))))) a)) (Zs (Ed ((Za ZJ (Za Zw (Za Ap (λa=>Bd a 1) (λ_=>Z (.int 7))) (Za DB (λa=>Bd a 5) (Za ZJ (Za Ap (λa=>Bd a 1) (λ_=>Z (.int 8))) (λ_=>Z (.int 2))))) (λ_=>Z (.int 2))) a)) (Zs (Ec a 9) (Z []))))) [‹c›,XS ws,d,e,.own (A.map D.int),‹j›,g,h,.own (acc.map aD),‹y›]) [‹c›,XS ws,d,e,.own (A.map D.int),‹j›,g,h,.own (acc.map aD),‹y›]) (λa=>.next a))=.next [‹c›,XS ws,d,e,.own (A.map D.int),‹j›,g,h,.own ((acc++[f j y]).map aD),‹y›]:=λy v=>by
  have n:=(r j).2 y v
  unfold cW wW at n
  erw[Zh,Za,Bd,Ec,Fn,E7,De,Ap,show atI (ws.map D.int) 2=Z (.int (ws.getD 2 0))from(Jv ws b 2 (J3 rfl)),show atI (ws.map D.int) 6=Z (.int (ws.getD 6 0))from(Jv ws b 6 (J3 rfl)),show atI (ws.map D.int) 7=Z (.int (ws.getD 7 0))from(Jv ws b 7 (J3 rfl)),show atI (ws.map D.int) 8=Z (.int (ws.getD 8 0))from(Jv ws b 8 (J3 rfl)),Z4 (ws.getD 6 0) 2 (by ext),Z4 (ws.getD 8 0) 2 (by ext),GN (show DF (ws.getD 2 0) (ws.getD 6 0%2) by right;constructor<;>lia),GN (show DF (j:Int) (ws.getD 8 0%2) by right;constructor<;>lia),KC,Z4 (ws.getD 7 0+(j:Int)*(ws.getD 8 0%2)) 2 (by ext),Ed,Em,Zs,n,Dd,Ef,Bh,if_pos (show acc.length<AA from BE u (by ext)),Ze,Fv,E8,FN,A3,Db]
 by_cases o:j=0
 ·subst o
  have:=fin x t
  unfold Nz
  erw[Za,Bd,Fn,E7,De,cond]at this ⊢
  exact this
 ·have l:atI (ws.map D.int) (7+7*(j:Int)+(x:Int))=Z (.int (ws.getD (7+7*j+x) 0)):=by
   rw[<- (Jv ws b (7+7*j+x) (by lia))];congr 1
  have p:=Jt (xs:=A) (i:=(j:Int)) (Pw j) (Int.ofNat_lt.mpr m)
  rw[Jf]at p
  have q:=Z4 (ws.getD (7+7*j+x) 0) (A.getD j 0) (by lia)
  rw[vS ws A j x k.1]at q
  have w:=GN (x:=7) (y:=(j:Int)) (by left;decide)
  have:=fin (Ct ws A j x) (fS ws A j x k.1 k.2)
  unfold Nz
  rw[show CJ (Ct ws A) j x=Ct ws A j x from if_neg o]
  erw[Za,Bd,Fn,E7,De,cond,show decide (0<(j:Int))=J' from decide_eq_true (by lia),ZG,w,KC,Ap,l,p,q,ZF,Ze,Fv,E8]at this ⊢
  exact this
theorem Vo(ws c:U Int)(hz:∀z∈c,1<=z/\z<=6)(j x:Nat)(b:j<c.length)(a:x<6):CJ (Ct ws c) j x<6:=by
 unfold CJ
 split
 ·exact a
 ·simp_all [fS]
theorem fT(c:Int)(ws:U Int)(l:ws.length=40)(f:Nat->Nat->At)(m:KQ c ws f)(d e g h:Sl)(t:U Int)(hz:∀z∈t,1<=z/\z<=6):∀(n j x:Nat)(acc:U At)(i:Sl),j+n<=t.length->j+n<=4->x<6->acc.length+n<100 ->
  ∃(a:Sl) (b:Sl),ZB (Zc 5) Nz ((EN j n).map λ(k:Nat)=>D.int k) [‹c›,XS ws,d,e,.own (t.map D.int),i,g,h,.own (acc.map aD),‹x›]=.next [‹c›,XS ws,d,e,.own (t.map D.int),a,g,h,.own ((acc++DE f (Ct ws t) j x n).map aD),b]
 |0,j,x,acc,i,_,_,_,_=>#[i,_,by simp[ZB,DE];rfl]
 |n+1,j,x,acc,i,o,r,p,s=>by
  obtain⟨a,b,q⟩:=fT c ws l f m d e g h t hz n (j+1) (CJ (Ct ws t) j x) (acc++[f j (CJ (Ct ws t) j x)]) ‹j› (by lia) (by lia) (Vo ws t hz j x (Df o) p) (by simp;lia)
  refine#[a,b,?_]
  rw[KI,A3]
  erw[ZB,Zc,Fv,E8]
  rw[vU c ws l f m d e g h t hz j x (Df o) (Df r) p acc (Df s)]
  simp only
  rw[q]
  erw[DE,O9,List.singleton_append]
structure GL(ls:Bv)(p:Nat):Prop where
 n1:1<=ls.length
 n6:ls.length<=40
 p1:1<=p
 p4:p<=4
 len:∀l∈ls,l.length=p
 val:∀l∈ls,∀a∈l,E9 (aD a)=J'/\Sm (aD a)/\∀i,a=.int i->(-10^40<i/\i<10^40)\/10^45<=i/\i<10^46
 hdn:(ls.map hd).Nodup
 fn:BQ (ls.flatMap (D0 0))
theorem vV(l:U At)(a:Bv)(b:∀x∈l::a,x≠[]):L6 (l::a)=J'↔(∀x∈l::a,x.length=l.length)/\((l::a).map hd).Nodup/\BQ ((l::a).flatMap (D0 0)):=by
 show Fa l.length [] [] (l::a)=J'↔_
 rw[fA,fB (D0 0) _ _ _ _ List.nodup_nil vA b,D1,D1]
theorem GL.ne{a:Bv}{p:Nat}(h:GL a p):∀x∈a,x≠[]:=λx b e=>by
 have:=h.len x b
 have:=h.p1
 grind
theorem GL.go{a:Bv}{p:Nat}(h:GL a p):L6 a=J':=by
 cases a with
 |nil=>rfl
 |cons l a=>
  rw[vV l a h.ne]
  exact#[λx b=>by rw[h.len x b,h.len l Bk],h.hdn,h.fn]
theorem GL.take{b:Bv}{p:Nat}(h:GL b p)(n:Nat)(g:1<=n):GL (b.take n) p:=by
 have c:∀x∈b.take n,x∈b:=λx i=>List.mem_of_mem_take i
 refine#[?_,?_,h.p1,h.p4,λl a=>h.len l (c l a),λl a=>h.val l (c l a),?_,?_]
 ·rw[List.length_take];have:=h.n1;exact Nat.le_min_of_le_of_le g this
 ·rw[List.length_take];have:=h.n6;lia
 ·rw[List.map_take];exact h.hdn.sublist (List.take_sublist _ _)
 ·intro k t j m o
  obtain⟨l,a,e⟩:=N3.mp m
  obtain⟨f,d,q⟩:=N3.mp o
  exact h.fn k t j (N3.mpr #[l,c l a,e]) (N3.mpr #[f,c f d,q])
theorem N4(f:Nat->Nat->At)(a:Nat->Nat->Nat):∀(n j x:Nat),(DE f a j x n).length=n
 |0,_,_=>rfl
 |n+1,j,x=>by simp[DE,N4 f a n]
def Jw(a:Nat->Nat->Nat)(j x:Nat):Nat->Nat
 |0=>CJ a j x
 |i+1=>Jw a (j+1) (CJ a j x) i
theorem N5(f:Nat->Nat->At)(a:Nat->Nat->Nat):∀(i n j x:Nat),i<n->(DE f a j x n)[i]?=Z (f (j+i) (Jw a j x i))/\(DE f a j x n).drop (i+1)=DE f a (j+i+1) (Jw a j x i) (n-i-1)
 |_,0,_,_,h=>by lia
 |0,n+1,j,x,_=>by simp[DE,Jw]
 |i+1,n+1,j,x,h=>by
  obtain⟨b,c⟩:=N5 f a i n (j+1) (CJ a j x) (Nat.succ_lt_succ_iff.mp h)
  grind [DE,Jw]
theorem Vp(ws c:U Int)(hz:∀z∈c,1<=z/\z<=6):∀(i j x:Nat),j+i<c.length->x<6->Jw (Ct ws c) j x i<6
 |0,j,x,a,b=>Vo ws c hz j x (Nat.lt_of_succ_le a) b
 |i+1,j,x,a,b=>Vp ws c hz i (j+1) _ (by lia) (Vo ws c hz j x (Df a) b)
theorem vW(c:Int)(ws:U Int)(f:Nat->Nat->At)(o:KQ c ws f)(R:U Int)(hz:∀z∈R,1<=z/\z<=6)(p m:Nat)(hp:R.length=p)(p1:1<=p)(p4:p<=4)(P:1<=m)(m6:m<=6)(a:Nat->Nat)(B:∀k,k<m->a k<6)(r:∀j k,j<m->k<m->a j=a k->j=k):
  GL ((Bf m).map λk=>DE f (Ct ws R) 0 (a k) p) p:=by
 have C:∀(k i:Nat),k<m->i<p->(DE f (Ct ws R) 0 (a k) p)[i]?=Z (f i (Jw (Ct ws R) 0 (a k) i))/\Jw (Ct ws R) 0 (a k) i<6:=λk i s d=>by
  have:=(N5 f (Ct ws R) i p 0 (a k) d).1
  rw[Ik]at this
  exact#[this,Vp ws R hz i 0 (a k) (by lia) (B k s)]
 refine#[by simpa using P,by rw[Bh,List.length_range];lia,p1,p4,λl u=>?_,λl u b Y=>?_,?_,?_]
 ·obtain⟨k,_,rfl⟩:=Be.mp u
  exact N4 _ _ _ _ _
 ·obtain⟨k,s,rfl⟩:=Be.mp u
  obtain⟨i,r,e⟩:=List.mem_iff_getElem.mp Y
  have d:i<p:=by rw[N4]at r;exact r
  obtain⟨h,w⟩:=C k i (ET.mp s) d
  rw[B8 r,e]at h
  injection h with h
  subst h
  exact#[(o i).1.val _ w,(o i).1.sm _ w,λn hn=>.inl ((o i).1.lt _ n w hn)]
 ·rw[BS]
  refine List.pairwise_map.mpr (List.Pairwise.imp_of_mem (λ{x y} L M E e=>E ?_) (List.nodup_range (n:=m)))
  have h0:∀k,hd (DE f (Ct ws R) 0 (a k) p)=f 0 (a k):=λk=>by
   obtain⟨q,rfl⟩:∃q,p=q+1:=#[p-1,by exact(Nat.sub_eq_iff_eq_add p1).mp rfl]
   rfl
  have e:f 0 (a x)=f 0 (a y):=by grind
  exact r x y (ET.mp L) (ET.mp M) ((o 0).1.inj _ _ (B x (ET.mp L)) (B y (ET.mp M)) e)
 ·rintro⟨i,v⟩ t t' h1 h2
  obtain⟨l,u,e⟩:=N3.mp h1
  obtain⟨l',G,e'⟩:=N3.mp h2
  obtain⟨k,s,rfl⟩:=Be.mp u
  obtain⟨N,H,rfl⟩:=Be.mp G
  obtain⟨n,K,A,Q⟩:=(Vl _ _ _).mp e
  obtain⟨g,b1,S,T⟩:=(Vl _ _ _).mp e'
  erw[Ik]at K b1 A S Q T
  subst K
  have F:g=i:=by lia
  subst F
  have d:g<p:=by
   have:=(Cm.mp A).1
   rw[N4]at this;exact this
  obtain⟨h,w⟩:=C k g (ET.mp s) d
  obtain⟨g3,g4⟩:=C N g (ET.mp H) d
  rw[h]at A
  rw[g3]at S
  rw[Q,T,(N5 f (Ct ws R) g p 0 (a k) d).2,(N5 f (Ct ws R) g p 0 (a N) d).2,(o g).1.inj _ _ w g4 (by rw[Gf A,Gf S])]
def N6(b:Bv):Prop:=∀l∈b,∀a∈l,∀i,a=.int i->i<10^40
theorem vX(c:Int)(ws:U Int)(f:Nat->Nat->At)(o:KQ c ws f)(A:U Int)(hz:∀z∈A,1<=z/\z<=6)(p m:Nat)(v:A.length=p)(p1:1<=p)(p4:p<=4)(w:1<=m)(x:m<=6)(a:Nat->Nat)(q:∀k,k<m->a k<6)(y:∀j k,j<m->k<m->a j=a k->j=k):N6 ((Bf m).map λk=>DE f (Ct ws A) 0 (a k) p):=by
 intro l r b s n t
 obtain⟨k,u,rfl⟩:=Be.mp r
 obtain⟨i,d,e⟩:=List.mem_iff_getElem.mp s
 have h:i<p:=by rw[N4]at d;exact d
 obtain⟨g,_⟩:=N5 f (Ct ws A) i p 0 (a k) h
 rw[B8 d,e]at g
 injection g with g
 rw[Ik]at g
 exact((o i).1.lt _ n (Vp ws A hz i 0 (a k) (by lia) (q k (ET.mp u))) (g ▸ t)).2
def aW(ws:U Int)(m k:Nat):Nat:=(((k:Int)+ws.getD 2 0)%(m:Int)).toNat
theorem Vq(ws:U Int)(m k:Nat)(a:0<m):((k:Int)+ws.getD 2 0)%(m:Int)=(aW ws m k:Int):=by
 have:=En ((k:Int)+ws.getD 2 0) (show(m:Int)≠0 by exact Int.natCast_ne_zero_iff_pos.mpr a)
 unfold aW;exact Eq.symm (Ju this)
theorem fU(ws:U Int)(m k:Nat)(a:0<m):aW ws m k<m:=by simp_all [Fy,aW]
theorem vY(c:Int)(m j k:Nat)(a:m<=6)(b:j<m)(d:k<m)(e:((j:Int)+c)%(m:Int)=((k:Int)+c)%(m:Int)):j=k:=by
 have:m=1\/m=2\/m=3\/m=4\/m=5\/m=6:=by lia
 rcases this with rfl|rfl|rfl|rfl|rfl|rfl<;>lia
theorem vZ(c:Int)(ws:U Int)(g:ws.length=40)(f:Nat->Nat->At)(l:KQ c ws f)(u:U Int)(hz:∀z∈u,1<=z/\z<=6)(p m k:Nat)(t:u.length=p)(p4:p<=4)(d:1<=m)(n:m<=6)(acc:Bv)(o:acc.length<100)(h r s:Sl):
  ∃a e b,PY [‹c›,XS ws,‹m›,‹p›,.own (u.map D.int),h,.own (acc.map Aj),‹k›,r,s]=.next [‹c›,XS ws,‹m›,‹p›,.own (u.map D.int),a,.own ((acc++[DE f (Ct ws u) 0 (aW ws m k) p]).map Aj),‹k›,e,b]:=by
 have i:=Z4 ((k:Int)+ws.getD 2 0) (m:Int) (L8.mpr d)
 rw[Vq ws m k (LF d)]at i
 have j:=Hn p (by lia)
 rw[KJ]at j
 obtain⟨a,b,q⟩:=fT c ws g f l ‹m› ‹p› (.own (acc.map Aj)) ‹k› u hz p 0 (aW ws m k) [] h (by lia) (by lia) (BE (fU ws m k (LF d)) n) (by simp;lia)
 erw[Db,D1]at q
 refine#[a,.own ((DE f (Ct ws u) 0 (aW ws m k) p).map aD),b,?_]
 rwa[PY,Zd,if_pos (F2 _),ZS,Ap,show atI (ws.map D.int) 2=Z (.int (ws.getD 2 0))from Jv ws g 2 (J3 rfl),i,Cu,j,q,Ef,DH,show Dp [.lst ((DE f (Ct ws u) 0 (aW ws m k) p).map aD)]=Z (Aj (DE f (Ct ws u) 0 (aW ws m k) p))from rfl,Bh,if_pos (show acc.length<AA from BE o (by ext)),FN]
theorem fV(c:Int)(ws:U Int)(r:ws.length=40)(f:Nat->Nat->At)(s:KQ c ws f)(A:U Int)(hz:∀z∈A,1<=z/\z<=6)(p m:Nat)(t:A.length=p)(p4:p<=4)(u:1<=m)(v:m<=6):∀(n k:Nat)(acc:Bv)(a o b d:Sl),acc.length+n<100 ->
  ∃(g i j l:Sl),ZB (Zc 7) PY ((EN k n).map λ(k:Nat)=>D.int k) [‹c›,XS ws,‹m›,‹p›,.own (A.map D.int),a,.own (acc.map Aj),o,b,d]=.next [‹c›,XS ws,‹m›,‹p›,.own (A.map D.int),g,.own ((acc++(EN k n).map λk=>DE f (Ct ws A) 0 (aW ws m k) p).map Aj),i,j,l]
 |0,k,acc,a,o,b,d,_=>#[a,o,b,d,by simp[ZB]]
 |n+1,k,acc,a,o,b,d,h=>by
  obtain⟨w,x,y,e⟩:=vZ c ws r f s A hz p m k t p4 u v acc (Df h) a b d
  obtain⟨g,i,j,l,q⟩:=fV c ws r f s A hz p m t p4 u v n (k+1) (acc++[DE f (Ct ws A) 0 (aW ws m k) p]) w ‹k› x y (by simp;lia)
  rw[KI,A3]
  rwa[ZB]
  simp_all
theorem fW{l:U Nat}(h:l.length=8)(c:∀m∈l,1<=m/\m<=4)(x:Int):∃p:Nat,1<=p/\p<=4/\atI (l.map λm:Nat=>D.int m) (x%8)=Z (.int p):=by
 obtain⟨i,d,a⟩:∃i:Nat,x%8=(i:Int)/\i<l.length:=#[(x%8).toNat,by lia,by lia]
 have b:=c _ (FL a)
 exact#[_,b.1,b.2,d ▸ Z3 (by simp[a])]
theorem v4(x:Int):∃p:Nat,1<=p/\p<=4/\atI [D.int 2,.int 1,.int 3,.int 2,.int 3,.int 4,.int 2,.int 3] (x%8)=Z (.int p):=fW (l:=[2,1,3,2,3,4,2,3]) rfl (by ext) x
theorem v5(c:Int):∃h p,(GL h p/\N6 h)/\PZ [‹c›]=Z (.own (h.map Aj)):=by
 obtain⟨a,w,g,_⟩:=vG c
 obtain⟨f,i⟩:=vT c a
 obtain⟨m,x,b,d⟩:∃m:Nat,1+a.getD 0 0%6=(m:Int)/\1<=m/\m<=6:=#[(1+a.getD 0 0%6).toNat,by lia,by lia,by lia]
 obtain⟨p,p1,p4,y⟩:=v4 (a.getD 1 0)
 have o:=ub 1 (p:Int) (by ext) (by ext) (by lia) ((Int.toNat_lt' p1).mp p1)
 have l:(Bf ((p:Int)-1).toNat).map (λ(k:Nat)=>D.int (1+(k:Int)))=(EN 1 (p-1)).map λ(k:Nat)=>D.int k:=by
  simp_all [List.range'_eq_map_range,BS]
 rw[l]at o
 obtain⟨K,A,F,n,r⟩:=fQ a g ‹c› ‹m› ‹p› .no .no .no .no (p-1) 1 [(m:Int)] .no (Nat.le_of_ble_eq_true rfl) (by lia) rfl (λz s=>by erw[D9]at s;subst s;lia)
 have t:=Hn m (by lia)
 rw[KJ]at t
 obtain⟨B,C,E,G,q⟩:=fV c a g f i K n p m (by lia) p4 b d m 0 [] A .no .no .no (by simp;lia)
 erw[Db,D1]at q
 refine#[(EN 0 m).map λk=>DE f (Ct a K) 0 (aW a m k) p,p,?_,?_]
 ·rw[<- KJ]
  have u:∀k,k<m->aW a m k<6:=λk _=>by have:=fU a m k (LF b);exact BE this d
  have v:∀j k,j<m->k<m->aW a m j=aW a m k->j=k:=λj k H L e=>vY (a.getD 2 0) m j k d H L (by rw[Vq a m j (LF b),Vq a m k (LF b),e])
  exact#[vW c a f i K n p m (by lia) p1 p4 b d (aW a m) u v,vX c a f i K n p m (by lia) p1 p4 b d (aW a m) u v]
 ·erw[A3,Db]at r
  rwa[PZ,AL,FZ,cz,cy,b2,G0,D1,w,Dd,KO,L7,KP,cw,b4,Ap,show atI (a.map D.int) 0=Z (.int (a.getD 0 0))from Jv a g 0 (Nat.zero_lt_succ 39),Z4 (a.getD 0 0) 6 (by ext),x,cu,b5,Zd,if_pos (show(8:Nat)<=AA by ext),show atI (a.map D.int) 1=Z (.int (a.getD 1 0))from Jv a g 1 (Nat.one_lt_succ_succ 38),Z4 (a.getD 1 0) 8 (by ext),y,cr,b6,if_pos (show(1:Nat)<=AA by ext),ZS,cq,b9,Cu,o,r,cm,ce,Zd,if_pos (F2 _),ZS,ck,cf,t,q,cj,cg,DH,ZK]
abbrev LD(a:Bv):D:=.lst (a.map Aj)
theorem v6(ns:U Int)(k:Nat):∃a,(∃p,GL a p/\N6 a)/\Qc [‹k›,#v[ns.map D.int]]=Z (LD a):=by
 have b:=GN (x:=1000) (y:=(k:Int)) (by left;decide)
 obtain⟨a,p,c,d⟩:=v5 (ns.getD (1+(k:Int)).toNat 0+1000*(k:Int))
 refine#[a,#[p,c],?_]
 rwa[Qc,Jr #v[ns.map D.int] ns (.inl rfl) (1+(k:Int)) (QE (1+k)),b,Dd,d]
theorem v7(x:Int):∃m:Nat,1<=m/\m<=4/\atI [D.int 2,.int 1,.int 2,.int 3,.int 1,.int 2,.int 3,.int 4] (x%8)=Z (.int m):=fW (l:=[2,1,2,3,1,2,3,4]) rfl (by ext) x
structure BI(Ls:AX):Prop where
 n1:1<=Ls.length
 n4:Ls.length<=4
 good:∀ls∈Ls,∃p,GL ls p
theorem v8(a:Bv):Qd [.val (LD a)]=Z (LD (a.take 3)):=by
 have:=aX (a.map Aj) 3 (by ext)
 rwa[Qd,DJ,DS,DT,this]
 simp_all
theorem v9(ns:U Int):∃c,(BI c/\∀a∈c,N6 a)/\ND [#v[ns.map D.int]]=Z (.own (c.map LD)):=by
 have t:=Jr #v[ns.map D.int] ns (.inl rfl) 0 (by ext)
 obtain⟨m,u,n,w⟩:=v7 (ns.getD (0:Int).toNat 0)
 have x:=Z4 (ns.getD (0:Int).toNat 0) 8 (by ext)
 have y:=Hn m (by lia)
 obtain⟨c,z,d,o⟩:=Vm (b:=Zc 0) (e:=Qc) (ρ:=[.no,#v[ns.map D.int]]) (λ(k:Nat)=>D.int k) LD (λa=>∃p,GL a p/\N6 a) (Bf m) λk _=>by
  obtain⟨a,⟨p,f,E⟩,G⟩:=v6 ns k;exact#[a,_,#[p,f,E],rfl,G]
 rw[List.length_range]at d
 have g:(8:Nat)<=AA:=by ext
 have i:((Bf m).map λ(k:Nat)=>D.int k).length<=AA:=by rw[Bh,List.length_range];exact BJ n (by ext)
 have A:=Zx (b:=Zc 0) (e:=Qd) (ρ:=[.no]) LD (λa=>LD (a.take 3)) c λa _=>#[_,rfl,v8 a]
 rw[show c.map (λa=>LD (a.take 3))=(c.map λa=>a.take 3).map LD by rw[BS];rfl]at A
 have r:=Hq (m:Int) 4
 by_cases B:(m:Int)=4
 ·refine#[c.map λa=>a.take 3,#[#[by rw[Bh];exact le_of_le_of_eq u d.symm,by rw[Bh];exact le_of_eq_of_le d n,λa h=>?_],λa h=>?_],?_]
  ·obtain⟨s,f,rfl⟩:=Be.mp h
   obtain⟨p,j,_⟩:=o s f
   exact#[p,j.take 3 (by ext)]
  ·obtain⟨s,f,rfl⟩:=Be.mp h
   obtain⟨p,_,j⟩:=o s f
   exact λl H=>j l (List.mem_of_mem_take H)
  ·rw[decide_eq_true B]at r
   rwa[ND,AL,FZ,T9,T8,TZ,G0,D1,t,Dd,x,Zd,if_pos g,Ap,w,KO,L7,KP,T7,T0,Zi,y,if_pos i,Zn,IU,z,T6,T2,r,if_pos (show(c.map LD).length<=AA by rw[Bh,d];exact BJ n (by ext)),A,T5,T4,ZK,DH,ZS,Hl,J6]
 ·refine#[c,#[#[by exact le_of_le_of_eq u d.symm,by exact le_of_eq_of_le d n,λa h=>let⟨p,j,_⟩:=o a h;#[p,j]],λa h=>let⟨_,_,q⟩:=o a h;q],?_]
  rw[decide_eq_false B]at r
  rwa[ND,AL,FZ,T9,T8,TZ,G0,D1,t,Dd,x,Zd,if_pos g,Ap,w,KO,L7,KP,T7,T0,Zi,y,if_pos i,Zn,IU,z,T6,T2,r,T5,T4,ZK,DH,ZS,Hl,J6]
theorem wa(xs:U D)(c:1<=xs.length)(d:xs.length<=40)(b:Bool)(a:Ie [#v[xs]]=Z (.val (.bl b))):Jm [#v[xs]]=Z (.val (.bl b)):=by
 simp[Jm,AL,cX,show ¬ ((xs.length:Int)<1) by lia,show ¬ (40:Int)<(xs.length:Int) by lia,a]
theorem wb{l:U At}(b:1<=l.length)(c:l.length<=4)(d:∀a∈l,E9 (aD a)=J'):Dt (Aj l)=J':=by grind [Aj,Dt]
theorem wc{a b:U At}(h:Aj a=Aj b):a=b:=by
 have:=QC a b
 grind [QC]
theorem fX:∀{a b:Bv},a.map Aj=b.map Aj->a=b
 |[],[],_=>rfl
 |[],_::_,h=>nomatch h
 |_::_,[],h=>nomatch h
 |x::a,y::b,h=>by
  erw[A3,O2]at h
  rw[wc h.1,fX h.2]
structure Ln(l:List At):Prop where
 l1:1<=l.length
 l4:l.length<=4
 val:∀a∈l,E9 (aD a)=J'/\Sm (aD a)
theorem Ln.sml{l:U At}(h:Ln l):N2 (Aj l):=#[by rw[Bh];have:=h.l4;lia,λx b=>by obtain⟨a,c,rfl⟩:=Be.mp b;exact(h.val a c).2]
theorem wd(b:Bv)(f:1<=b.length)(i:b.length<=40)(c:∀l∈b,Ln l):Jm [.val (LD b)]=Z (.val (.bl (L6 b))):=by
 refine wa _ (by simpa using f) (by simpa using i) _ ?_
 rcases vz (b.map Aj) (λx d=>by obtain⟨l,h,rfl⟩:=Be.mp d;exact(c l h).sml) (by rw[Bh];lia)with⟨a,_⟩|⟨_,j,e,_,g⟩
 ·have:(b.map Aj).all Dt=J':=CZ.mpr λx d=>by
   obtain⟨l,h,rfl⟩:=Be.mp d
   exact wb (c l h).l1 (c l h).l4 λa k=>((c l h).val a k).1
  rw[this]at a;cases a
 ·grind [fX]
theorem GL.ln{c:Bv}{p:Nat}(h:GL c p):∀l∈c,Ln l:=λl b=>#[h.len l b ▸ h.p1,h.len l b ▸ h.p4,λa d=>#[(h.val l b a d).1,(h.val l b a d).2.1]]
theorem GL.il{a:Bv}{p:Nat}(h:GL a p):Jm [.val (LD a)]=Z (.val (.bl J')):=by
 rw[wd a h.n1 (by have:=h.n6;lia) h.ln,h.go]
theorem we{a:Type}(G:a->D)(F:a->Bool)(xs:U a)(h:∀x∈xs,Jm [.val (G x)]=Z (.val (.bl (F x)))):ZH (Zc 0) (λ_=>Z J') Ql [.no] (xs.map G)=Z ((xs.map F).map D.bl):=by
 have:=Zx (b:=Zc 0) (e:=Ql) (ρ:=[.no]) G (λx=>D.bl (F x)) xs λx c=>#[[.val (G x)],rfl,by rwa[Ql,h x c,Dd]]
 simp_all
theorem wf{a:Type}(G:a->D)(F:a->Bool)(xs:U a)(c:1<=xs.length)(b:xs.length<=4)(h:∀x∈xs,Jm [.val (G x)]=Z (.val (.bl (F x)))):NK [#v[xs.map G]]=Z (.val (.bl (xs.all F))):=by
 simp[NK,AL,cY,show ¬ ((xs.length:Int)<1) by lia,show ¬ (4:Int)<(xs.length:Int) by lia,show xs.length<=AA from BJ b (by ext),Zn,we G F xs h,-BS]
theorem BI.al{a:AX}(h:BI a):NK [#v[a.map LD]]=Z (.val (.bl J')):=by
 rw[wf LD (λ_=>J') a h.n1 h.n4 λb c=>by obtain⟨p,d⟩:=h.good b c;exact d.il]
 simp
abbrev KR(a:AX):D:=.tup (a.map λ_=>D.int 0)
theorem fY{a:AX}(h:BI a):Nu [#v[a.map LD]]=Z (.val (KR a)):=by
 rwa[Nu,AL,FZ,bf,KO,KP,Eb,Zi,Zd,if_pos (show(a.map LD).length<=AA by rw[Bh];exact BJ h.n4 (by ext)),Zn,L7,Zx (b:=Zc 0) (e:=be) (ρ:=[.no]) LD (λ_=>D.int 0) a λc _=>#[[.val (LD c)],rfl,rfl],show Dp [.lst (a.map λ_=>D.int 0)]=Z (KR a)from rfl]
structure TO{α:Type}(lt:α->α->Bool):Prop where
 asym:∀a b,lt a b=J'->lt b a=O'
 neg:∀a b c,lt a c=J'->lt a b=J'\/lt b c=J'
 anti:∀a b,lt a b=O'->lt b a=O'->a=b
noncomputable def L9{a:Type}(lt:a->a->Bool)(x:a):U a->U a
 |[]=>[x]
 |y::r=>if lt x y then x::y::r else y::L9 lt x r
def Zz{a:Type}(lt:a->a->Bool):U a->U a
 |[]=>[]
 |x::r=>L9 lt x (Zz lt r)
theorem fZ{a:Type}(lt:a->a->Bool)(x:a):∀l,(L9 lt x l).Perm (x::l)
 |[]=>.refl _
 |y::r=>by
  unfold L9
  split
  ·exact .refl _
  ·exact((fZ lt x r).cons y).trans (.swap x y r)
theorem ZA{a:Type}(lt:a->a->Bool):∀l,(Zz lt l).Perm l
 |[]=>.refl _
 |x::r=>(fZ lt x _).trans ((ZA lt r).cons x)
theorem f3{a:Type}(f:a->D)(lt:a->a->Bool)(b:D->D->Bool)(x:a):∀l:U a,(∀y∈l,b (f x) (f y)=lt x y)->HZ b (f x) (l.map f)=(L9 lt x l).map f
 |[],_=>rfl
 |y::r,h=>by
  erw[A3,HZ,L9,h y Bk,f3 f lt b x r λz c=>h z (Bu _ c)]
  split<;>rfl
theorem f4{a:Type}(f:a->D)(lt:a->a->Bool)(b:D->D->Bool):∀l:U a,(∀x∈l,∀y∈l,b (f x) (f y)=lt x y)->EH b (l.map f)=(Zz lt l).map f
 |[],_=>rfl
 |x::r,h=>by
  erw[A3,EH,Zz,f4 f lt b r λy c z d=>h y (Bu _ c) z (Bu _ d)]
  grind [f3,ZA]
theorem Vr{l:Type}{F:U Sl->O Rv}(f:l->D){lt:l->l->Bool}(T:TO lt)(b:Bool)(xs:U l)(few:xs.length<64)(m:l->D)(tells:∀a∈xs,F [.val (f a)]=Z (.val (m a)))(mode:∀a∈xs,Cc b (m a))(cmp:∀a∈xs,∀c∈xs,ltN 6 (m a) (m c)=Z (lt a c)):Fp F (xs.map f)=Z ((Zz lt xs).map f):=by
 have n:∀a∈xs,Ds F (f a)=m a:=λa d=>by unfold Ds;rw[tells a d];rfl
 have j:∀a∈xs,∀c∈xs,Ck F (f a) (f c)=lt a c:=λa d c g=>YI (by rw[n a d,n c g];exact cmp a d c g)
 have ok:Bj F (xs.map f):={
  few:=by simpa using few
  tells:=λx i=>by obtain⟨a,d,rfl⟩:=Be.mp i;exact#[_,tells a d]
  mode:=#[b,λx i=>by obtain⟨a,d,rfl⟩:=Be.mp i;rw[n a d];exact mode a d]
  cmp:=λx i y k=>by
   grind
  asym:=λx i y k h=>by
   obtain⟨a,d,rfl⟩:=Be.mp i
   obtain⟨c,g,rfl⟩:=Be.mp k
   rw[j a d c g]at h;rw[j c g a d];exact T.asym a c h
  neg:=λx i y k z r h=>by
   obtain⟨a,d,rfl⟩:=Be.mp i
   obtain⟨c,g,rfl⟩:=Be.mp k
   obtain⟨e,o,rfl⟩:=Be.mp r
   rw[j a d e o]at h;rw[j a d c g,j c g e o];exact T.neg a c e h
  anti:=λx i y k p q=>by
   obtain⟨a,d,rfl⟩:=Be.mp i
   obtain⟨c,g,rfl⟩:=Be.mp k
   rw[j a d c g]at p;rw[j c g a d]at q;rw[T.anti a c p q]}
 rw[qk ok,f4 f lt _ xs j]
noncomputable def CN{b:Type}[DecidableEq b]:O b->U b->U b
 |_,[]=>[]
 |p,a::r=>if p=Z a then CN p r else a::CN (Z a) r
theorem Vs{c:Type}[DecidableEq c]:∀(l:U c)(p:O c),l.Nodup->(∀a,p=Z a->a∉l)->CN p l=l
 |[],_,_,_=>rfl
 |a::r,p,h,d=>by
  obtain⟨f,g⟩:=IB.mp h
  unfold CN
  rw[if_neg (λe=>d a e Bk),Vs r (Z a) g λb i=>by cases i;exact f]
theorem Vt{c:Type}[DecidableEq c]:∀(l:U c)(p:O c)(a:c),a∈CN p l->a∈l
 |[],_,_,h=>h
 |b::r,p,a,h=>by
  unfold CN at h
  split at h
  ·exact Bu _ (Vt r p a h)
  ·rcases BK.mp h with rfl|h
   ·exact Bk
   ·exact Bu _ (Vt r _ a h)
theorem Vu{c:Type}[DecidableEq c]:∀(l:U c)(p:O c)(a:c),a∈l->a∈CN p l\/p=Z a
 |[],_,_,h=>by cases h
 |b::r,p,a,h=>by
  unfold CN
  split
  ·next e=>
   rcases BK.mp h with rfl|h
   ·exact .inr e
   ·exact Vu r p a h
  ·rcases BK.mp h with rfl|h
   ·exact .inl Bk
   ·rcases Vu r (Z b) a h with h|h
    ·exact .inl (Bu _ h)
    ·grind [Bk]
theorem Vv{b:Type}[DecidableEq b](l:U b)(a:b):a∈CN J l↔a∈l:=by grind [Vt,Vu]
noncomputable def GO:At->At->Bool
 |.non,.non=>O'
 |.non,_=>J'
 |.int i,.int j=>decide (i<j)
 |.int _,.str _=>J'
 |.str x,.str y=>decide (x.cps.toList<y.cps.toList)
 |_,_=>O'
theorem wg{x y:Ae}(h:x.cps.toList=y.cps.toList):x=y:=by
 obtain⟨⟨a⟩⟩:=x
 simp_all
theorem Il:TO GO:={
 asym:=λa b h=>by
  cases a<;>cases b<;>erw[GO,decide_eq_true_eq,decide_eq_false_iff_not,Ff]at h ⊢
  ·exact Int.lt_asymm h
  ·exact List.lt_asymm h
 neg:=λa b c h=>by
  cases a<;>cases c<;>erw[GO,decide_eq_true_eq,Ff]at h<;>cases b<;>erw[GO,decide_eq_true_eq,Ff,true_or,or_true,or_false]
  ·lia
  ·grind [List.lt_of_le_of_lt,List.not_lt]
 anti:=λa b d e=>by
  cases a<;>cases b<;>erw[GO,decide_eq_false_iff_not,Bool.true_eq_false]at d e
  ·rfl
  ·rw[At.int.injEq];lia
  ·rw[At.str.injEq];exact wg (List.le_antisymm (List.not_lt.mp e) (List.not_lt.mp d))}
noncomputable def Bi:U At->U At->Bool
 |[],[]=>O'
 |[],_::_=>J'
 |_::_,[]=>O'
 |a::r,b::s=>if a=b then Bi r s else GO a b
theorem f5:∀a b,Bi a b=J'->Bi b a=O'
 |[],[],_=>rfl
 |[],_::_,_=>rfl
 |_::_,[],h=>by cases h
 |a::r,b::s,h=>by
  unfold Bi at h ⊢
  by_cases e:a=b
  ·subst e;erw[if_true]at h ⊢;exact f5 r s h
  ·rw[if_neg e]at h;rw[if_neg (λz=>e z.symm)];exact Il.asym a b h
theorem f6:∀a b c,Bi a c=J'->Bi a b=J'\/Bi b c=J'
 |[],[],c,h=>.inr h
 |[],_::_,_,_=>.inl rfl
 |_::_,_,[],h=>by cases h
 |_::_,[],_::_,_=>.inr rfl
 |a::r,b::s,c::t,h=>by
  unfold Bi at h ⊢
  by_cases e:a=b
  ·subst e
   by_cases d:a=c
   ·erw[d,if_true]at h ⊢;exact f6 r s t h
   ·rw[if_neg d]at h;right;rw[if_neg d];exact h
  ·rw[if_neg e]
   by_cases d:b=c
   ·subst d;rw[if_neg e]at h;exact .inl h
   ·rw[if_neg d]
    by_cases f:a=c
    ·subst f
     cases g:GO a b with
     |true=>exact .inl rfl
     |false=>
      cases hd:GO b a with
      |true=>exact .inr rfl
      |false=>exact absurd (Il.anti a b g hd) e
    ·rw[if_neg f]at h;exact Il.neg a b c h
theorem f7:∀a b,Bi a b=O'->Bi b a=O'->a=b
 |[],[],_,_=>rfl
 |[],_::_,h,_=>by cases h
 |_::_,[],_,h=>by cases h
 |a::r,b::s,c,d=>by
  unfold Bi at c d
  by_cases e:a=b
  ·subst e;erw[if_true]at c d;rw[f7 r s c d]
  ·rw[if_neg e]at c;rw[if_neg (λz=>e z.symm)]at d;exact absurd (Il.anti a b c d) e
theorem Ey:TO Bi:=#[f5,f6,f7]
noncomputable def CW:At->D
 |.non=>.tup [.int 0,.int 0]
 |.int i=>.tup [.int 1,.int i]
 |.str x=>.tup [.int 2,.str x]
theorem wj(n:Nat)(a b:At):ltN (n+2) (CW a) (CW b)=Z (GO a b):=by
 cases a<;>cases b<;>simp[CW,GO]
 ·intro e;exact Int.le_of_eq e.symm
 ·intro e;subst e;simp
theorem f8(a b:At):AG (CW a) (CW b)=decide (a=b):=by
 cases a<;>cases b<;>simp[CW]
theorem QJ(n:Nat)(a:At):AT (n+1) (CW a)=J':=by cases a<;>cases n<;>rfl
theorem Vw(n:Nat):∀l m:U At,Fm (ltN (n+2)) (l.map CW) (m.map CW)=Z (Bi l m)
 |[],[]=>rfl
 |[],_::_=>rfl
 |_::_,[]=>rfl
 |a::r,b::s=>by
  rwa[Fm,Hm,QJ 11 a,QJ 11 b,f8 a b,wj n a b,Vw n r s,Bi,decide_eq_true_eq]
  grind
theorem N7{b:Type}[DecidableEq b]:∀(l:U b)(p:O b),(CN p l).length<=l.length
 |[],_=>A5 _
 |a::r,p=>by
  unfold CN
  split
  ·exact Ni (N7 r p)
  ·exact Oz (N7 r _)
noncomputable def mn(m y:Int):Int:=if y<m then y else m
def mx(m y:Int):Int:=if y>m then y else m
theorem wk(m y:Int):mn m y=min m y:=by grind [mn]
theorem wl(m y:Int):mx m y=max m y:=by grind [mx]
def cel(x:Int)(xs:U Int):D:=.tup [.int (xs.length+1:Nat),.int ((x::xs).sum),.int (xs.foldl mn x),.int (xs.foldl mx x)]
def wm(s:Sl)(ns:U Int):Prop:=s=#v[ns.map D.int]\/s=.lent (ns.map D.int)
theorem wn(s:Sl)(x:Int)(xs:U Int)(h:wm s (x::xs)):PH [s]=Z (.val (cel x xs)):=by
 rcases h with rfl|rfl<;>(simp[PH,AL,bg,G7,Se,Sf,cel,show(4:Nat)<=AA by ext];exact#[rfl,rfl])
theorem wp:(4:Nat)<=AA:=by ext
theorem f9(a:Int):∀(ys:U Int)(b:Int),ys.foldl mn (mn a b)=mn a (ys.foldl mn b)
 |[],b=>rfl
 |y::ys,b=>by
  erw[List.foldl_cons,show mn (mn a b) y=mn a (mn b y) by erw[wk];exact Int.min_assoc a b y,f9 a ys]
theorem gc(a:Int):∀(ys:U Int)(b:Int),ys.foldl mx (mx a b)=mx a (ys.foldl mx b)
 |[],b=>rfl
 |y::ys,b=>by
  erw[List.foldl_cons,show mx (mx a b) y=mx a (mx b y) by erw[wl];exact Int.max_assoc a b y,gc a ys]
theorem ge(x y:Int)(xs ys:U Int):LU [.val (cel x xs),.val (cel y ys)]=Z (.val (cel x (xs++y::ys))):=by
 simp[LU,AL,bh,cel,atI,DG,wp,show(xs++y::ys).foldl mn x=mn (xs.foldl mn x) (ys.foldl mn y) by rw[List.foldl_append,List.foldl_cons,f9],show(xs++y::ys).foldl mx x=mx (xs.foldl mx x) (ys.foldl mx y) by rw[List.foldl_append,List.foldl_cons,gc]]
 refine#[by lia,by exact Int.add_assoc x xs.sum (y+ys.sum),rfl,rfl]
def EO(acc:A6)(b:U (At×D)):A6:=b.foldl (λa p=>ZR a (.at p.1) p.2) acc
theorem Vx(a:At):Dg (aD a)=Z (.at a):=M4 (.at a)
theorem N8{a:At}{v:D}(h:∀p∈kvs,EG p.1=J'):∀p∈ZR kvs (.at a) v,EG p.1=J':=λp b=>by
 rcases p7 b with b|rfl
 ·exact h p b
 ·rfl
theorem gg:∀(a:U (At×D))(acc:A6),(∀p∈acc,EG p.1=J')->acc.length+a.length<=100000->EI acc (a.map λp=>.tup [aD p.1,p.2])=Z (EO acc a)
 |[],acc,_,_=>rfl
 |p::a,acc,h,b=>by
  erw[Ce]at b
  have c:=O4 acc (.at p.1) p.2
  erw[A3,EI,Vx,FO p.1 h,show acc.length<AA from BE (show acc.length<100000 by exact Df b) (by ext),decide_true,Ia,if_true,gg a (ZR acc (.at p.1) p.2) (N8 h) (by lia)]
  rfl
theorem Vy:∀(a:U (At×D))(acc:A6),(∀p∈acc,EG p.1=J')->∀p∈EO acc a,EG p.1=J'
 |[],_,h=>h
 |p::a,acc,h=>Vy a _ (N8 h)
theorem gh{a:At}:∀(b:U (At×D))(acc:A6),a∉b.map (·.1)->Zo (EO acc b) (.at a)=Zo acc (.at a)
 |[],_,_=>rfl
 |p::b,acc,h=>by
  rw[A3,BK,not_or]at h
  show Zo (EO (ZR acc (.at p.1) p.2) b) _=_
  rw[gh b (ZR acc (.at p.1) p.2) h.2,LB,if_neg (λe=>h.1 (KT.at.inj e).symm)]
theorem gj{a:At}{v:D}:∀(b:U (At×D))(acc:A6),(b.map (·.1)).Nodup->(a,v)∈b->Zo (EO acc b) (.at a)=Z v
 |p::b,acc,c,h=>by
  rw[A3,IB]at c
  show Zo (EO (ZR acc (.at p.1) p.2) b) _=_
  rcases BK.mp h with rfl|h
  ·rw[gh b _ c.1,LB,if_pos rfl]
  ·exact gj b _ c.2 h
theorem gl(a:At):∀(b:U (At×D))(acc:A6),(Zo (EO acc b) (.at a)).isSome=((Zo acc (.at a)).isSome||decide (a∈b.map (·.1)))
 |[],acc=>by simp[EO]
 |p::b,acc=>by
  show(Zo (EO (ZR acc (.at p.1) p.2) b) _).isSome=_
  rw[gl a b (ZR acc (.at p.1) p.2),LB]
  grind
theorem wq{b:U (At×D)}{a:At}{v:D}(e:(b.map (·.1)).Nodup)(h:(a,v)∈b):C1 (.lst (Zb (EO [] b)) .d) (aD a)=Z v:=by
 have f:=FO (kvs:=EO [] b) a (Vy b [] λ_ h=>nomatch h)
 rw[O3,Vx]
 grind [gj]
theorem wr(neg:Bool)(b:U (At×D))(a:At):C4 neg (aD a) (.lst (Zb (EO [] b)) .d)=Z (.bl (neg != decide (a∈b.map (·.1)))):=by
 rw[Kg,Vx]
 rwa[FO (kvs:=EO [] b) a (Vy b [] λ_ h=>nomatch h),gl a b []]
 rfl
theorem gm{a:Type}(l:U a):Dq [.lst ((l.map λ_=>J').map D.bl)]=Z (.bl J'):=by
 erw[Dq,aU,J2]
 simp_all
theorem Zp{a n:Nat}{g:Ar}{b:U Sl}{r:Rv}(h:b.length=a)(e:g (b++C9 (n-a) .no)=.ret r):AL a n g b=Z r:=by
 unfold AL
 simp_all
theorem wt{a:Type}(x:a)(xs:U a):atI (x::xs) 0=Z x:=by
 have:(0:Int)<(xs.length:Int)+1:=Int.succ_ofNat_pos xs.length
 simp[atI,DG,this]
theorem WQ{a:Type}(xs:U a)(x:a):atI (xs++[x]) (-1)=Z x:=by
 have b:(-1+((xs.length:Int)+1)).toNat=xs.length:=by lia
 have c : -((xs.length:Int)+1) <= -1:=by lia
 simp[atI,DG,b,c]
theorem wu(a:At):PQ [.val (aD a)]=Z (.val (CW a)):=by
 cases a<;>simp[PQ,AL,bZ,F6,PB,aD,CW,show(2:Nat)<=AA by ext]
theorem gn(l:U At)(h:l.length<=1000):LY [.val (Aj l)]=Z (.val (.tup (l.map CW))):=by
 have c:=Zx (b:=Zc 0) (e:=TR) (ρ:=[.no]) aD CW l λa _=>#[[.val (aD a)],rfl,by
  have:=wu a
  rwa[TR,this,Dd]]
 simp[LY,AL,cM,Aj,show l.length<=AA from BJ h (by ext),Zn,c,-BS]
theorem QK(s0:Sl):∀(c acc:Bv)(j:Sl),acc.length+c.length<100000->∃a,ZB (Zc 2) Jn (c.map Aj) [s0,.own (acc.map Aj),j]=.next [s0,.own ((acc++CN acc.getLast? c).map Aj),a]
 |[],acc,j,_=>#[j,by simp[ZB,CN]]
 |l::c,acc,j,d=>by
  erw[Ce]at d
  have f:acc.length<AA:=BE (show acc.length<100000 by exact Df d) (by ext)
  have n:Gz (Z (.int 1))=Z (.int (-1)):=rfl
  erw[A3,ZB,Zc,Fv,E8]
  rcases List.eq_nil_or_concat acc with rfl|⟨pre,x,rfl⟩
  ·obtain⟨a,e⟩:=QK s0 c [l] (.val (Aj l)) (by simp;lia)
   refine#[a,?_]
   have k:Jn [s0,.own ([].map Aj),.val (Aj l)]=.next [s0,.own ([l].map Aj),.val (Aj l)]:=by
    simp[Jn,show(0:Nat)<AA by ext]
   exact e
  ·rw[List.concat_eq_append]at d f ⊢
   have g:Ap (.lst ((pre++[x]).map Aj)) (.int (-1))=Z (Aj x):=by
    rw[FN];exact WQ _ _
   have h:ZQ (Z (.lst ((pre++[x]).map Aj)))=Z J':=by simp
   have i:=QC x l
   have b:(pre++[x]).getLast?=Z x:=by simp
   by_cases m:x=l
   ·subst m
    obtain⟨a,e⟩:=QK s0 c (pre++[x]) (.val (Aj x)) (Nat.lt_of_succ_lt d)
    refine#[a,?_]
    have k:Jn [s0,.own ((pre++[x]).map Aj),.val (Aj x)]=.next [s0,.own ((pre++[x]).map Aj),.val (Aj x)]:=by
     erw[Jn,Ze,ZG,Dy,Z2,AR,Za,Bd,Fn,E7,De,Em,h,n,g,i,decide_true,MW]
    rw[k,b,CN,if_pos rfl,<- b]
    exact e
   ·obtain⟨a,e⟩:=QK s0 c (pre++[x]++[l]) (.val (Aj l)) (by simp at d ⊢;lia)
    refine#[a,?_]
    have k:Jn [s0,.own ((pre++[x]).map Aj),.val (Aj l)]=.next [s0,.own ((pre++[x]++[l]).map Aj),.val (Aj l)]:=by
     rw[show((pre++[x]++[l]).map Aj)=(pre++[x]).map Aj++[Aj l] by simp]
     erw[Jn,Ze,ZG,Dy,Z2,AR,Za,Bd,A1,Fn,E7,De,Em,h,n,g,i,m,decide_false,IW,MW,Ef,Bh,f,if_true,Fv,E8]
    rw[k,b,CN,if_neg (by simpa using m)]
    rw[show(pre++[x]++[l]).getLast?=Z l by simp]at e
    rw[show pre++[x]++l::CN (Z l) c=pre++[x]++[l]++CN (Z l) c by simp]
    exact e
theorem N9(s:Sl)(b:Bv)(f:s=#v[b.map Aj]\/s=.lent (b.map Aj))(g:b.length<64)(d:∀l∈b,l≠[]/\l.length<=1000):NJ [s]=Z (.own ((CN J (Zz Bi b)).map Aj)):=by
 have c:=Vr (F:=LY) Aj Ey O' b g (λl=>.tup (l.map CW)) (λl h=>gn l (d l h).2) (λl h=>by
  cases l with
  |nil=>exact absurd rfl (d [] h).1
  |cons a r=>cases a<;>exact#[_,_,rfl]) (λl _ m _=>Vw 3 l m)
 obtain⟨i,e⟩:=QK s (Zz Bi b) [] .no (by rw[(ZA Bi b).length_eq];simp;lia)
 erw[Db,D1,List.getLast?_nil]at e
 refine Zp rfl ?_
 show Uf [s,.no,.no]=_
 rcases f with rfl|rfl<;>rwa[Uf,ZS,Cu,Ki,DH,ZK,show Zd (Z ([]:U D))=Z []from rfl,c,e]
theorem Jx(l:U At)(j:Nat)(h:l.length<=1000):Fu [.val (Aj l),‹j›]=Z (.val (aD (l.getD j .non))):=by
 by_cases a:j<l.length
 ·have:Ap (Aj l) (.int j)=Z (aD (l.getD j .non)):=by
   exact Z3 (by simp[B8 a,Ex])
  simp[Fu,AL,S9,-Ap,-Zt,show Zt [Aj l]=Z (.int l.length) by simp[Aj],this,Int.ofNat_lt.mpr a]
 ·rw[show l.getD j .non=.non by grind]
  simp[Fu,AL,S9,-Ap,-Zt,show Zt [Aj l]=Z (.int l.length) by simp[Aj],show ¬ (j:Int)<(l.length:Int) by lia,aD]
abbrev BV:=U At×Int×U Int
def Zu(acc:U BV):Bv:=acc.map (·.1)
def ZO:U BV->U At->O (Int×U Int)
 |[],_=>J
 |e::r,k=>if e.1=k then Z e.2 else ZO r k
noncomputable def Du:U BV->U At->Int->U BV
 |[],k,x=>[(k,x,[])]
 |e::r,k,x=>if e.1=k then(e.1,e.2.1,e.2.2++[x])::r else e::Du r k x
def ZM(v:Int×U Int->D)(e:BV):KT×D:=(.tup e.1,v e.2)
theorem B3{k:U At}:∀{acc:U BV},ZO acc k=J↔k∉Zu acc
 |[]=>by simp[ZO,Zu]
 |e::r=>by
  have a:=B3 (k:=k) (acc:=r)
  grind [ZO,Zu]
theorem Jy(v:Int×U Int->D)(k:U At):∀acc:U BV,Zo (acc.map (ZM v)) (.tup k)=(ZO acc k).map v
 |[]=>rfl
 |e::r=>by
  have a:=Jy v k r
  erw[A3,Zo,ZO,ZM,KT.tup.injEq]
  grind
theorem gq{k:KT}{w:D}:∀{kvs:A6},Zo kvs k=J->Ew kvs k w=kvs
 |[],_=>rfl
 |p::r,h=>by
  unfold Zo at h
  by_cases e:p.1=k
  ·rw[if_pos e]at h;cases h
  ·rw[if_neg e]at h
   unfold Ew
   rw[if_neg e,gq h]
theorem gt(v:Int×U Int->D){k:U At}{x:Int}{p:Int×U Int}:∀{acc:U BV},(Zu acc).Nodup->ZO acc k=Z p->Ew (acc.map (ZM v)) (.tup k) (v (p.1,p.2++[x]))=(Du acc k x).map (ZM v)
 |e::r,a,h=>by
  erw[Zu,A3,IB]at a
  unfold ZO at h
  by_cases c:e.1=k
  ·rw[if_pos c]at h;cases h
   have b:Zo (r.map (ZM v)) (.tup k)=J:=by
    rw[Jy,B3.mpr (c ▸ a.1)];rfl
   rwa[Ew,Du,ZM,c,gq b,KT.tup.injEq]
  ·rw[if_neg c]at h
   erw[A3,Ew,Du,ZM,c,if_false,KT.tup.injEq]
   rw[gt v (x:=x) a.2 h]
theorem gu{k:U At}{x:Int}:∀{acc:U BV},ZO acc k=J->Du acc k x=acc++[(k,x,[])]
 |[],_=>rfl
 |e::r,h=>by
  unfold ZO at h
  by_cases c:e.1=k
  ·rw[if_pos c]at h;cases h
  ·rw[if_neg c]at h
   unfold Du
   rw[if_neg c,gu h];rfl
theorem wv(v:Int×U Int->D){k:U At}{x:Int}{p:Int×U Int}{acc:U BV}(a:(Zu acc).Nodup)(h:ZO acc k=Z p):ZR (acc.map (ZM v)) (.tup k) (v (p.1,p.2++[x]))=(Du acc k x).map (ZM v):=by
 unfold ZR
 rw[Jy,h]
 exact gt v a h
theorem ww(v:Int×U Int->D){k:U At}{x:Int}{acc:U BV}(h:ZO acc k=J):ZR (acc.map (ZM v)) (.tup k) (v (x,[]))=(Du acc k x).map (ZM v):=by
 unfold ZR
 grind [Jy,gu,ZM]
theorem Vz(k:U At)(x:Int):∀acc:U BV,Zu (Du acc k x)=if k∈Zu acc then Zu acc else Zu acc++[k]
 |[]=>rfl
 |e::r=>by
  have a:=Vz k x r
  grind [Du,Zu]
theorem wy{k:U At}{x:Int}{acc:U BV}(h:(Zu acc).Nodup):(Zu (Du acc k x)).Nodup:=by grind [Vz]
theorem gv(k:U At)(x:Int):∀acc:U BV,(Du acc k x).length<=acc.length+1
 |[]=>by simp[Du]
 |e::r=>by
  have:=gv k x r
  unfold Du
  split<;>simp<;>lia
theorem wz{k k':U At}{x:Int}{acc:U BV}(h:k'∈Zu (Du acc k x)):k'=k\/k'∈Zu acc:=by grind [Vz]
def Ma:U BV->Nat
 |[]=>0
 |e::r=>e.2.2.length+1+Ma r
theorem gw(k:U At)(x:Int):∀acc:U BV,Ma (Du acc k x)=Ma acc+1
 |[]=>rfl
 |e::r=>by
  have:=gw k x r
  unfold Du
  split<;>simp[Ma]<;>lia
theorem VA(v:Int×U Int->D)(k:U At)(acc:U BV):Dh (.tup k) (acc.map (ZM v))=J':=Kh k λp a=>by
 obtain⟨e,_,rfl⟩:=Be.mp a
 rfl
theorem F8(l:U At):Dg (Aj l)=Z (.tup l):=M4 (.tup l)
abbrev vC(p:Int×U Int):D:=cel p.1 p.2
abbrev D6(v:Int×U Int->D)(acc:U BV):Sl:=.own (Zb (acc.map (ZM v))) .d
def Zj(r:U At×Int):D:=.tup [Aj r.1,.int r.2]
def KS(a:U (U At×Int))(acc:U BV):U BV:=a.foldl (λacc r=>Du acc r.1 r.2) acc
structure Bw(acc:List BV)(n m:Nat):Prop where
 nd:(Zu acc).Nodup
 len:acc.length<=m
 sz:Ma acc<=m
 kl:∀k∈Zu acc,k.length=n
theorem Bw.add{acc:U BV}{n m:Nat}(h:Bw acc n m){k:U At}(b:k.length=n)(x:Int):Bw (Du acc k x) n (m+1):=
 #[wy h.nd,by have:=gv k x acc;have:=h.len;lia,by rw[gw];have:=h.sz;exact Nat.add_le_add_right this 1,λd a=>by
  rcases wz a with rfl|c
  ·exact b
  ·exact h.kl _ c]
theorem Bw.nil(n:Nat):Bw [] n 0:=#[by simp[Zu],by simp,by simp[Ma],λk a=>nomatch a]
theorem Bw.tab:∀(a:U (U At×Int)){acc:U BV}{n m:Nat},Bw acc n m->(∀r∈a,r.1.length=n)->Bw (KS a acc) n (m+a.length)
 |[],_,_,_,h,_=>h
 |r::a,acc,n,m,h,b=>by
  have:=Bw.tab a (h.add (b r Bk) r.2) λq c=>b q (Bu _ c)
  rw[Ce,show m+(a.length+1)=m+1+a.length by exact Eq.symm (Nat.succ_add_eq_add_succ m a.length)]
  exact this
def EQ(acc:U BV):U D:=(Zz Bi (Zu acc)).map λk=>.tup [Aj k,vC ((ZO acc k).getD (0,[]))]
theorem gy{acc:U BV}{k:U At}(h:k∈Zz Bi (Zu acc)):∃p,ZO acc k=Z p:=by
 cases a:ZO acc k with
 |some p=>exact#[p,rfl]
 |none=>exact absurd ((ZA Bi (Zu acc)).mem_iff.mp h) (B3.mp a)
theorem gz(v:Int×U Int->D)(acc:U BV):((acc.map (ZM v)).map λp=>kD p.1)=(Zu acc).map Aj:=by
 unfold Zu
 rw[BS,BS];rfl
theorem QL(v:Int×U Int->D){acc:U BV}{k:U At}{p:Int×U Int}(h:ZO acc k=Z p):C1 (.lst (Zb (acc.map (ZM v))) .d) (Aj k)=Z (v p):=by simp_all [F8,VA,Jy]
abbrev LG:=U (U (U At)×Nat)
def Oa(q:U (U At)×Nat)(a:At):At:=((q.1.find? λl=>decide (hd l=a)).getD []).getD q.2 .non
def F9:LG->U At->U At
 |q::Q,a::s=>Oa q a::F9 Q s
 |_,_=>[]
def Im(q:U (U At)×Nat):U (At×D):=q.1.map λl=>(hd l,aD (l.getD q.2 .non))
def C7(q:U (U At)×Nat):D:=.lst (Zb (EO [] (Im q))) .d
abbrev AD(g:U Nat):D:=.tup (g.map λ(j:Nat)=>D.int j)
inductive Bc:List (Bv)->List At->Prop where
 |nil:Bc [] []
 |cons {ls Ls a as}:a∈ls.map hd->Bc Ls as->Bc (ls::Ls) (a::as)
theorem Bc.len{a:AX}{s:U At}(h:Bc a s):s.length=a.length:=by
 induction h<;>grind
theorem QM:∀{Q:LG}{s:U At},s.length=Q.length->(F9 Q s).length=Q.length
 |[],_,h=>by cases(OS.mp h);rfl
 |q::Q,a::s,h=>by erw[F9,Ce];rw[QM (by simpa using h)]
 |_::_,[],h=>by simp at h
theorem wA(q:U (U At)×Nat)(h:∀l∈q.1,Ln l)(i:q.1.length<=1000):PR [.val (LD q.1),‹0›,‹q.2›]=Z (.own (Zb (EO [] (Im q))) .d):=by
 obtain⟨a,j⟩:=q
 have k:=Zx (b:=Zc 0) (e:=Tp) (ρ:=[.no,‹0›,‹j›]) Aj (λl=>D.tup [aD (hd l),aD (l.getD j .non)]) a λl g=>#[[.val (Aj l),‹0›,‹j›],rfl,by
  have c:=Jx l j (by have:=(h l g).l4;lia)
  rwa[Tp,show Fu [.val (Aj l),‹0›]=Z (.val (aD (hd l)))from(show l.getD 0 .non=hd l by cases l<;>rfl) ▸ Jx l 0 (by have:=(h l g).l4;lia),c,Dd,Zd,FZ,if_pos (show(2:Nat)<=AA by ext)]]
 have f:=gg (Im (a,j)) [] (λ_ h=>nomatch h) (by simp[Im];lia)
 unfold Im at f
 rw[BS]at f
 unfold Im
 rwa[PR,AL,FZ,b0,KO,KP,Eb,E6,Zi,Zd,if_pos (show(a.map Aj).length<=AA by rw[Bh];exact BJ i (by ext)),Zn,L7,G0,D1,IU,k,show EI [] (a.map λl=>D.tup [aD (hd l),aD (l.getD j .non)])=Z (EO [] (a.map λl=>(hd l,aD (l.getD j .non))))from f,G4]
theorem wC(n k:Nat)(a:k<n)(L:AX)(b:L.length=n):atI (L.map λ_=>D.int 0) (k:Int)=Z (.int 0):=Z3 (by rw[DQ,B8 (K7 a b.symm)];rfl)
theorem gA(L:AX)(g:U Nat):∀(Q:LG)(k:Nat),(∀q∈Q,∃p,GL q.1 p)->k+Q.length<=L.length->(∀i q,Q[i]?=Z q->g[k+i]?=Z q.2)->ZH (ZW 2 (Zm (Zc 0) (Zm (Zc 1) ZU))) (λ_=>Z J') Qa [.no,.no,.val (KR L),.val (AD g)] (C3 k (Q.map λq=>LD q.1))=Z (Q.map C7)
 |[],k,_,_,_=>rfl
 |q::Q,k,h,c,d=>by
  erw[Ce]at c
  have n:=gA L g Q (k+1) (λl b=>h l (Bu _ b)) (by lia) λi f e=>by
   have:=d (i+1) f (by simpa using e)
   grind
  obtain⟨p,a⟩:=h q Bk
  have b:=wA q a.ln (by have:=a.n6;lia)
  have m:atI (g.map λ(j:Nat)=>D.int j) (k:Int)=Z (.int q.2):=Z3 (by rw[DQ,show g[k]?=Z q.2 from d 0 q rfl];rfl)
  have o:Qa [‹k›,.val (LD q.1),.val (KR L),.val (AD g)]=Z (C7 q):=by
   rwa[Qa,Ap,wC L.length k (Df c) L rfl,m,b,Dd,C7]
  rw[A3,C3,ZH]
  simp_all
abbrev qs(L:AX)(g:U Nat):LG:=L.zip g
theorem gB{L:AX}{g:U Nat}(h:g.length=L.length):(qs L g).map (·.1)=L:=List.map_fst_zip (Nat.le_of_eq h.symm)
theorem wD{L:AX}{g:U Nat}(h:g.length=L.length):(qs L g).map (λq=>LD q.1)=L.map LD:=by
 have:(qs L g).map (λq=>LD q.1)=((qs L g).map (·.1)).map LD:=by rw[BS];rfl
 grind [gB]
theorem gC{L:AX}{g:U Nat}{q:U (U At)×Nat}(h:q∈qs L g):q.1∈L:=(Mv h).1
theorem wE{L:AX}(h:BI L){g:U Nat}(a:g.length=L.length):Qb [#v[L.map LD],.val (KR L),.val (AD g)]=Z (.own ((qs L g).map C7)):=by
 have hd:=gA L g (qs L g) 0 (λq b=>h.good q.1 (gC b)) (by simp;exact Nat.min_le_left (IC L) g.length) λi q e=>by
  grind
 rw[wD a]at hd
 rwa[Qb,AL,FZ,cV,KO,KP,Eb,Zi,H9,show Z9 (.lst (L.map LD))=Z (L.map LD)from rfl,Zd,if_pos (show(C3 0 (L.map LD)).length<=AA by rw[Si,Bh];exact BJ h.n4 (by ext)),Zn,L7,G0,D1,IU,hd,ZK]
theorem wF{q:U (U At)×Nat}(h:(q.1.map hd).Nodup):((Im q).map (·.1)).Nodup:=by grind [Im]
theorem wG{q:U (U At)×Nat}{a:At}(h:a∈q.1.map hd):C4 O' (aD a) (C7 q)=Z (.bl J'):=by grind [C7,wr,Im]
theorem gD:∀{a:Bv}{l:U At},(a.map hd).Nodup->l∈a->a.find? (λx=>decide (hd x=hd l))=Z l
 |x::a,l,c,b=>by
  erw[A3,IB]at c
  rcases BK.mp b with rfl|b
  ·rw[List.find?_cons_of_pos (by simp)]
  ·rw[List.find?_cons_of_neg (by
    erw[decide_eq_true_eq]
    intro z
    exact c.1 (z ▸ QN b))]
   exact gD c.2 b
theorem wH{q:U (U At)×Nat}(a:(q.1.map hd).Nodup){l:U At}(h:l∈q.1):Oa q (hd l)=l.getD q.2 .non:=by simp_all [Oa,gD]
theorem wI{q:U (U At)×Nat}(b:(q.1.map hd).Nodup){a:At}(h:a∈q.1.map hd):C1 (C7 q) (aD a)=Z (aD (Oa q a)):=by
 obtain⟨l,c,rfl⟩:=Be.mp h
 rw[wH b c]
 exact wq (wF b) (Be.mpr #[l,c,rfl])
theorem gE:∀{Q:LG}{s:U At},Bc (Q.map (·.1)) s->ZH (ZW 2 (Zm (Zc 0) (Zm (Zc 1) ZU))) (λ_=>Z J') Kw [.no,.no] (Dk (λx y=>D.tup [x,y]) (Q.map C7) (s.map aD))=Z ((Q.map λ_=>J').map D.bl)
 |[],_,h=>by cases h;rfl
 |q::Q,_,h=>by
  cases h with
  |@cons _ _ a e b c=>
  have d:Kw [.val (C7 q),.val (aD a)]=Z (.bl J'):=by
   have:=wG b
   rwa[Kw,this]
  rwa[Ob,ZH,ZW,Zm,ZU,d,gE c]
theorem gF:∀{Q:LG}{s:U At},(∀q∈Q,(q.1.map hd).Nodup)->Bc (Q.map (·.1)) s->ZH (ZW 2 (Zm (Zc 0) (Zm (Zc 1) ZU))) (λ_=>Z J') Z5 [.no,.no] (Dk (λx y=>D.tup [x,y]) (Q.map C7) (s.map aD))=Z ((F9 Q s).map aD)
 |[],_,_,h=>by cases h;rfl
 |q::Q,_,b,h=>by
  cases h with
  |@cons _ _ a g c d=>
  have e:Z5 [.val (C7 q),.val (aD a)]=Z (aD (Oa q a)):=by
   have:=wI (b q Bk) c
   rwa[Z5,this]
  rwa[Ob,ZH,ZW,Zm,ZU,e,gF (λq f=>b q (Bu _ f)) d,F9]
theorem wJ{Q:LG}{s:U At}(a:Bc (Q.map (·.1)) s)(hz:Q.length<=4):Jj [#v[Q.map C7],.val (Aj s)]=Z (.val (.bl J')):=by
 have b:=gE a
 have c:=gm Q
 have d:=Zk (Dk (λx y=>D.tup [x,y]) (Q.map C7) (s.map aD)) (by simp;lia)
 refine Zp rfl ?_
 unfold Aj
 generalize (Q.map λ_=>J').map D.bl=B,s.map aD=S,Q.map C7=L at *
 show Nv [#v[L],.val (.tup S)]=_
 rwa[Nv,Zi,FV,Z9,show Zn 2 [] [#v[L],.val (.tup S)]=[.no,.no]from rfl,d,b,c]
def Jz(r:U At×Int):D:=.tup [Aj r.1,cel r.2 []]
theorem wL{Q:LG}{s:U At}(h:∀q∈Q,(q.1.map hd).Nodup)(u:Bc (Q.map (·.1)) s)(hz:Q.length<=4)(b j:Sl)(x:Int){acc:U BV}{n m:Nat}(A:Bw acc n m)(B:m<1000):
  ZD [#v[Q.map C7],b,D6 vC acc,.val (Aj s),.val (cel x []),j]=.next [#v[Q.map C7],b,D6 vC (Du acc (F9 Q s) x),.val (Aj s),.val (cel x []),.val (Aj (F9 Q s))]:=by
 have l:=wJ u hz
 have F:=gF h u
 have M:=Zk (Dk (λx y=>D.tup [x,y]) (Q.map C7) (s.map aD)) (by simp;lia)
 have C:∀x y z w,Zl Dp (λa=>Zs (Ed (Zr ((Zi 2 [] (FV (λa=>BB a 0) (λa=>BB a 3)) (ZW 2 (Zm (Zc 0) (Zm (Zc 1) ZU))) (λ_=>Z J') Z5) a))) (Z [])) [#v[Q.map C7],x,y,.val (Aj s),z,w]=Z (Aj (F9 Q s)):=by
  simp_all [Aj,C7,De,Em]
 generalize Q.map C7=L,F9 Q s=k at *
 have e:=VA vC k acc
 have f:(acc.map (ZM vC)).length<AA:=by rw[Bh];exact Gr A.len (BE B (by ext))
 have o:=E5 (acc.map (ZM vC))
 have g:C4 O' (Aj k) (.lst (Zb (acc.map (ZM vC))) .d)=Z (.bl (ZO acc k).isSome):=by
  rw[Kg,F8 k]
  show(if Dh (.tup k) (acc.map (ZM vC))=J' then _ else _)=_
  rw[if_pos e,Jy vC k acc,Option.isSome_map]
  cases(ZO acc k).isSome<;>rfl
 have c:∀d,J4 (Z (ZO acc k).isSome) ((Zh LU (λa=>Zs (Ed ((Za C1 (λa=>Bd a 2) (λa=>Bd a 5)) a)) (Zs (Ec a 4) (Z [])))) [#v[L],b,D6 vC acc,.val (Aj s),.val (cel x []),.val (Aj k)]) (Z (cel x []))=Z d->ZR (acc.map (ZM vC)) (.tup k) d=(Du acc k x).map (ZM vC)->ZD [#v[L],b,D6 vC acc,.val (Aj s),.val (cel x []),j]=.next [#v[L],b,D6 vC (Du acc k x),.val (Aj s),.val (cel x []),.val (Aj k)]:=by
  intro d E G
  unfold D6 at *
  have r:=C b (.own (Zb (acc.map (ZM vC))) .d) (.val (cel x [])) j
  generalize acc.map (ZM vC)=t at *
  unfold ZD
  have H:ZQ ((Zh Jj (λa=>Zs (Ec a 0) (Zs (Ec a 3) (Z [])))) [#v[L],b,.own (Zb t) .d,.val (Aj s),.val (cel x []),j])=Z J':=by
   rwa[l,ZQ]
  erw[H,ZG,Ze,r,ZF,Fv,E8]
  have K:Za (C4 O') (λa=>Bd a 5) (λa=>Bd a 2) [#v[L],b,.own (Zb t) .d,.val (Aj s),.val (cel x []),.val (Aj k)]=Z (.bl (ZO acc k).isSome):=by
   rwa[g]
  rw[K,show A1 [#v[L],b,.own (Zb t) .d,.val (Aj s),.val (cel x []),.val (Aj k)] 4=Z (cel x [])from rfl]
  erw[AR]
  rw[E]
  rwa[GC,E2,o,F8 k,e,G,LN,decide_eq_true f]
 cases i:ZO acc k with
 |none=>
  rw[i]at c
  exact c (vC (x,[])) rfl (ww vC i)
 |some p=>
  rw[i]at c
  refine c (vC (p.1,p.2++[x])) ?_ (wv vC A.nd i)
  unfold D6
  rwa[J4,Option.isSome,QL vC i,ge p.1 x p.2 []]
def GP(Q:LG)(a:U (U At×Int)):U (U At×Int):=a.map λr=>(F9 Q r.1,r.2)
theorem gG{Q:LG}(h:∀q∈Q,(q.1.map hd).Nodup)(hz:Q.length<=4)(f:Sl):∀(d:U (U At×Int))(acc:U BV)(m:Nat)(g i e:Sl),(∀r∈d,Bc (Q.map (·.1)) r.1)->Bw acc Q.length m->m+d.length<1000 ->
  ∃j k l,ZB (ZW 2 (Zm (Zc 3) (Zm (Zc 4) ZU))) ZD (d.map Jz) [#v[Q.map C7],f,D6 vC acc,g,i,e]=.next [#v[Q.map C7],f,D6 vC (KS (GP Q d) acc),j,k,l]
 |[],acc,m,g,i,e,_,n,_=>#[g,i,e,rfl]
 |r::d,acc,m,g,i,e,o,n,p=>by
  erw[Ce]at p
  obtain⟨a,b,c,s⟩:=gG h hz f d (Du acc (F9 Q r.1) r.2) (m+1) (.val (Aj r.1)) (.val (cel r.2 [])) (.val (Aj (F9 Q r.1))) (λq t=>o q (Bu _ t)) (n.add (QM (by simpa using(o r Bk).len)) r.2) (by lia)
  refine#[a,b,c,?_]
  rwa[Jz,ZB,ZW,Zm,ZU]
  rw[wL h (o r Bk) hz f e r.2 n (Df p)]
  exact s
theorem wM{Q:LG}(h:∀q∈Q,(q.1.map hd).Nodup)(E:0<Q.length)(hz:Q.length<=4)(f:U (U At×Int))(m:∀r∈f,Bc (Q.map (·.1)) r.1)(n:f.length<64):NP [#v[Q.map C7],#v[f.map Jz]]=Z (.own (EQ (KS (GP Q f) []))):=by
 have ok:=Bw.tab (GP Q f) (Bw.nil Q.length) λr h=>by
  obtain⟨u,w,rfl⟩:=Be.mp h
  exact QM (by simpa using(m u w).len)
 have G:(GP Q f).length=f.length:=Bh _
 obtain⟨a,b,c,e⟩:=gG h hz #v[f.map Jz] f [] 0 .no .no .no m (Bw.nil _) (by lia)
 generalize KS (GP Q f) []=g at *
 have j:(Zu g).length<64:=by unfold Zu;rw[Bh];have:=ok.len;lia
 have o:=N9 #v[(Zu g).map Aj] (Zu g) (.inl rfl) j λl n=>by
  have:=ok.kl l n
  exact#[λz=>by rw[z]at this;simp at this;lia,by lia]
 rw[Vs _ _ ((ZA Bi _).nodup_iff.mpr ok.nd) (λ_ e=>by cases e),<- gz vC]at o
 have A:=Zx (b:=Zc 0) (e:=NN) (ρ:=[.no,.lent (Zb (g.map (ZM vC))) .d]) Aj (λk=>.tup [Aj k,vC ((ZO g k).getD (0,[]))]) (Zz Bi (Zu g)) λk B=>#[[.val (Aj k),.lent (Zb (g.map (ZM vC))) .d],rfl,by
  obtain⟨p,s⟩:=gy B
  rw[s]
  rwa[NN,QL vC s,Option.getD]]
 have C:=Zk ((Zz Bi (Zu g)).map Aj) (by rw[Bh,(ZA _ _).length_eq];lia)
 have i:=SJ (g.map (ZM vC))
 rw[show D6 vC []=.own [] .d from rfl]at e
 unfold D6 at e
 unfold EQ
 refine Zp rfl ?_
 generalize Q.map C7=L,f.map Jz=R,g.map (ZM vC)=t,(Zz Bi (Zu g)).map Aj=W,(Zz Bi (Zu g)).map (λk=>D.tup [Aj k,vC ((ZO g k).getD (0,[]))])=T at *
 show NO [#v[L],#v[R],.no,.no,.no,.no]=_
 rwa[NO,Ee,Cu,ZK,Zi,show ∀x y z,Zn 1 [2] [#v[L],#v[R],.own (Zb t) .d,x,y,z]=[.no,.lent (Zb t) .d]from λ_ _ _=>rfl,EE,e,i,o,DZ,C,A]
theorem BI.hdn{L:AX}(h:BI L):∀a∈L,(a.map hd).Nodup:=λa b=>by obtain⟨p,c⟩:=h.good a b;exact c.hdn
abbrev CP(L:AX)(g:U Nat)(a:U (U At×Int)):U D:=EQ (KS (GP (qs L g) a) [])
theorem gH{c:AX}(h:BI c){g:U Nat}(d:g.length=c.length)(a:U (U At×Int))(f:∀r∈a,Bc c r.1)(i:a.length<64):Qo [#v[c.map LD],#v[a.map Zj],.val (AD g)]=Z (.own (CP c g a)):=by
 have n1:=h.n1
 have n4:=h.n4
 have j:=wM (Q:=qs c g) (λq k=>h.hdn q.1 (gC k)) (by simp;lia) (by simp;lia) a (by rw[gB d];exact f) i
 have l:=fY h
 have m:=wE h d
 have n:=Zx (b:=ZW 2 (Zm (Zc 0) (Zm (Zc 1) ZU))) (e:=Uu) (ρ:=[.no,.no]) Zj Jz a λr _=>#[[.val (Aj r.1),‹r.2›],rfl,by
  rwa[Uu,wn #v[[.int r.2]] r.2 [] (.inl rfl),Jz]]
 have o:=Zk (a.map Zj) (by rw[Bh];lia)
 unfold CP
 generalize c.map LD=L,KR c=p,AD g=Y,(qs c g).map C7=W,a.map Jz=C,a.map Zj=R,EQ (KS (GP (qs c g) a) [])=T at *
 refine Zp rfl ?_
 show Uv [#v[L],#v[R],.val Y,.no]=_
 rwa[Uv,ZK,Zi,show Zn 2 [] [#v[L],#v[R],.val Y,.no]=[.no,.no]from rfl,Dz,o,n,l,m,DZ,j,HL]
theorem QO{a:Type}[DecidableEq a]:∀(l A:U a),l.Nodup->(∀x∈l,x∈A)->l.length<=A.length
 |[],_,_,_=>F2 _
 |x::l,A,h,c=>by
  obtain⟨d,f⟩:=IB.mp h
  have g:=QO l (A.erase x) f λy b=>(List.mem_erase_of_ne (show y≠x from λe=>d (e ▸ b))).mpr (c y (Bu _ b))
  grind
theorem KU{c:Type}{b:D->VE->O VE}{t:VE->O Bool}{e:AB}{ρ:VE}(G F:c->D)(p:c->Bool):∀xs:U c,(∀x∈xs,∃a,b (G x) ρ=Z a/\t a=Z (p x)/\e a=Z (F x))->ZH b t e ρ (xs.map G)=Z ((xs.filter p).map F)
 |[],_=>rfl
 |x::xs,h=>by
  obtain⟨a,g,i,j⟩:=h x Bk
  have d:=KU G F p xs λy k=>h y (Bu _ k)
  erw[A3,ZH,g,i]
  cases f:p x with
  |true=>rwa[j,d,List.filter_cons,f]
  |false=>erw[d,List.filter_cons,f,Ff,if_false]
abbrev KE:=U At×D
def Ga(e:KE):D:=.tup [Aj e.1,e.2]
def BZ(es:U KE):A6:=es.map λe=>(.tup e.1,e.2)
theorem QP(es:U KE):∀p∈BZ es,EG p.1=O':=λp a=>by
 obtain⟨e,_,rfl⟩:=Be.mp a
 rfl
theorem QQ:∀(es:U KE)(k:U At),(Zo (BZ es) (.tup k)).isSome=decide (k∈es.map (·.1))
 |[],k=>rfl
 |e::r,k=>by
  have a:=QQ r k
  erw[BZ,A3,Zo,KT.tup.injEq]at a ⊢
  grind
theorem gI{es:U KE}(h:∀e∈es,AT 12 e.2=J'){k:U At}{d:D}(e:Zo (BZ es) (.tup k)=Z d):AT 12 d=J':=by
 induction es with
 |nil=>cases e
 |cons x r a=>
  erw[BZ,A3,Zo,KT.tup.injEq]at e
  by_cases c:x.1=k
  ·grind [Bk]
  ·rw[if_neg c]at e;exact a (λy b=>h y (Bu _ b)) e
theorem QR:∀(es a:U KE),((a++es).map (·.1)).Nodup->a.length+es.length<=100000->EI (BZ a) (es.map Ga)=Z (BZ (a++es))
 |[],a,_,_=>by rw[Eb];rfl
 |e::r,a,c,b=>by
  erw[Ce]at b
  have d:(BZ a).length<AA:=by
   unfold BZ;rw[Bh]
   exact BE (show a.length<100000 by exact Df b) (by ext)
  have h:Zo (BZ a) (.tup e.1)=J:=by
   have:=QQ a e.1
   have f:e.1∉a.map (·.1):=λf=>by
    grind
   simp_all
  have g:ZR (BZ a) (.tup e.1) e.2=BZ (a++[e]):=by
   unfold ZR
   grind [BZ]
  have i:=QR r (a++[e]) (by rw[O9];exact c) (by simp;lia)
  rwa[Ga,EI,F8 e.1,Kh e.1 (QP a),d,g]
  simp_all
theorem gJ(es:U KE):((BZ es).map λp=>kD p.1)=(es.map (·.1)).map Aj:=by
 unfold BZ
 rw[BS,BS];rfl
theorem wN(c f:U KE)(n1:(c.map (·.1)).Nodup)(n2:(f.map (·.1)).Nodup)(N:∀e∈c,AT 12 e.2=J')(K:∀e∈f,AT 12 e.2=J')(A:Bv)(F:∀e∈c,e.1∈A)(L:∀e∈f,e.1∈A)(M:A.length<64)(g:∀k∈A,k≠[]/\k.length<=1000):∃ys:Bv,Qm [#v[c.map Ga],#v[f.map Ga]]=Z (.own (ys.map Aj))/\ys.length<64:=by
 have Q:=QO _ A n1 λk g=>by obtain⟨e,m,rfl⟩:=Be.mp g;exact F e m
 have T:=QO _ A n2 λk g=>by obtain⟨e,m,rfl⟩:=Be.mp g;exact L e m
 rw[Bh]at Q T
 have w:=QR c [] (by simpa using n1) (by simp;lia)
 have y:=QR f [] (by simpa using n2) (by simp;lia)
 rw[D1]at w y
 let p:U At->Bool:=λk=>!AG ((Zo (BZ f) (.tup k)).getD .non) ((Zo (BZ c) (.tup k)).getD .non)
 let r:U At->Bool:=λk=>!decide (k∈c.map (·.1))
 have P:=KU (b:=Zc 0) (t:=Ui) (e:=cZ) (ρ:=[.no,.lent (Zb (BZ f)) .d,.val (.lst (Zb (BZ c)) .d)]) Aj Aj p (c.map (·.1)) λk g=>#[[.val (Aj k),.lent (Zb (BZ f)) .d,.val (.lst (Zb (BZ c)) .d)],rfl,by
  have s:Dh (.tup k) (BZ f)=J':=Kh k (QP f)
  obtain⟨d,hd⟩:=WG.mp (show(Zo (BZ c) (.tup k)).isSome=J' by rw[QQ c,decide_eq_true g])
  have z:=(λk d=>gI N (k:=k) (d:=d)) k d hd
  have B:AT 12 ((Zo (BZ f) (.tup k)).getD .non)=J':=by
   cases hh:Zo (BZ f) (.tup k)with
   |none=>rfl
   |some x=>exact(λk d=>gI K (k:=k) (d:=d)) k x hh
  have C:Nj (.lst (Zb (BZ f)) .d) (Aj k)=Z ((Zo (BZ f) (.tup k)).getD .non):=by
   erw[Nj,E5,F8 k,s,if_true]
  have e2:C1 (.lst (Zb (BZ c)) .d) (Aj k)=Z d:=by
   rw[O3,F8 k];rwa[Kh k (QP c),hd]
  rw[show p k=!AG ((Zo (BZ f) (.tup k)).getD .non) d by show(!AG _ ((Zo (BZ c) (.tup k)).getD .non))=_;rw[hd];rfl]
  refine#[?_,rfl]
  rwa[Ui,C,e2,Cp,Hm,z,B]]
 have c2:=KU (b:=Zc 0) (t:=Uj) (e:=c0) (ρ:=[.no,.val (.lst (Zb (BZ c)) .d)]) Aj Aj r (f.map (·.1)) λk g=>#[[.val (Aj k),.val (.lst (Zb (BZ c)) .d)],rfl,by
  refine#[?_,rfl]
  have C:C4 J' (Aj k) (.lst (Zb (BZ c)) .d)=Z (.bl (r k)):=by
   rw[Kg,F8 k]
   rwa[Kh k (QP c),QQ c]
   rw[Bool.true_bne]
  rwa[Uj,C]]
 have q:((c.map (·.1)).filter p++(f.map (·.1)).filter r).Nodup:=Lv.mpr #[n1.sublist List.filter_sublist,n2.sublist List.filter_sublist,λa E b hb e=>by
  subst e
  have s:=(Mg.mp hb).2
  erw[r,decide_eq_true ((Mg.mp E).1)]at s
  cases s]
 have i:∀k∈(c.map (·.1)).filter p++(f.map (·.1)).filter r,k∈A:=λk g=>by
  rcases Dn.mp g with h|h
  ·exact(show ∀k∈c.map (·.1),k∈A from λk g=>by obtain⟨e,m,rfl⟩:=Be.mp g;exact F e m) k (Mg.mp h).1
  ·exact(show ∀k∈f.map (·.1),k∈A from λk g=>by obtain⟨e,m,rfl⟩:=Be.mp g;exact L e m) k (Mg.mp h).1
 have j:=QO _ A q i
 have l1:((c.map (·.1)).filter p).length<=c.length:=BJ (VB _ _) (by rw[Bh];exact A5 _)
 have l2:((f.map (·.1)).filter r).length<=f.length:=BJ (VB _ _) (by rw[Bh];exact A5 _)
 generalize (f.map (·.1)).filter r=o,(c.map (·.1)).filter p=n at *
 have hi:=N9 #v[(n++o).map Aj] (n++o) (.inl rfl) (Gr j M) λl hl=>g l (i l hl)
 refine#[CN J (Zz Bi (n++o)),?_,Gr (N7 _ _) (by rw[(ZA Bi _).length_eq];exact Gr j M)]
 generalize CN J (Zz Bi (n++o))=R at *
 have E:Zw (.lst (n.map Aj)) (.lst (o.map Aj))=Z (.lst ((n++o).map Aj)):=by
  rw[uc _ _ (by simp;lia),FN]
 have s1:=Zk ((c.map (·.1)).map Aj) (by simp;lia)
 have s2:=Zk ((f.map (·.1)).map Aj) (by simp;lia)
 have z:FS (.lst (Zb (BZ c)) .d)=Z ((c.map (·.1)).map Aj):=by erw[FS,E5,Em,gJ c]
 have B:FS (.lst (Zb (BZ f)) .d)=Z ((f.map (·.1)).map Aj):=by erw[FS,E5,Em,gJ f]
 rw[show BZ []=[]from rfl]at w y
 generalize f.map Ga=G,c.map Ga=H,BZ f=S,BZ c=u,(f.map (·.1)).map Aj=W2,(c.map (·.1)).map Aj=W1 at *
 refine Zp rfl ?_
 show Uk [#v[H],#v[G],.no,.no,.no]=_
 rwa[Uk,dh,dg,df,db,c3,E6,w,Ee,c4,y,c6,Hl,J6,Zi,show Zn 1 [3,2] [#v[H],#v[G],.val (.lst (Zb u) .d),.own (Zb S) .d,.no]=[.no,.lent (Zb S) .d,.val (.lst (Zb u) .d)]from rfl,z,s1,P,ZS,c9,show Zn 1 [2] [#v[H],#v[G],.val (.lst (Zb u) .d),.val (.lst (Zb S) .d),.own (n.map Aj)]=[.no,.val (.lst (Zb u) .d)]from rfl,B,s2,c2,E,Dz,hi,HL,ZK]
def KV(acc:U BV):U KE:=(Zz Bi (Zu acc)).map λk=>(k,vC ((ZO acc k).getD (0,[])))
theorem gK(acc:U BV):EQ acc=(KV acc).map Ga:=by
 unfold EQ KV
 rw[BS];rfl
theorem QS(acc:U BV):(KV acc).map (·.1)=Zz Bi (Zu acc):=by
 unfold KV
 rw[BS]
 exact List.map_id _
theorem gL(acc:U BV):∀e∈KV acc,AT 12 e.2=J':=λe a=>by
 obtain⟨k,_,rfl⟩:=Be.mp a
 rfl
theorem wO(c:U At)(f:c.length<64):∃zs:U D,NM [#v[c.map aD]]=Z (.own zs)/\(0<zs.length↔c≠[])/\zs.length<64:=by
 have i:=Zx (b:=Zc 0) (e:=Ug) (ρ:=[.no]) aD (λa=>Aj [a]) c λa _=>#[[.val (aD a)],rfl,by
  rfl]
 rw[show c.map (λa=>Aj [a])=(c.map λa=>[a]).map Aj by rw[BS];rfl]at i
 have m:=N9 #v[(c.map λa=>[a]).map Aj] (c.map λa=>[a]) (.inl rfl) (by simpa using f) λl f=>by
  obtain⟨a,_,rfl⟩:=Be.mp f
  exact#[by simp,by simp]
 have n:∀k∈CN J (Zz Bi (c.map λa=>[a])),∃a,k=[a]:=λk g=>by
  have:=(ZA Bi _).mem_iff.mp ((Vv _ k).mp g)
  obtain⟨a,_,rfl⟩:=Be.mp this
  exact#[a,rfl]
 have d:0<(CN J (Zz Bi (c.map λa=>[a]))).length↔c≠[]:=by
  cases c with
  |nil=>simp[Zz,CN]
  |cons a r=>exact#[λ_=>by simp,λ_=>List.length_pos_of_mem ((Vv _ [a]).mpr ((ZA Bi _).mem_iff.mpr (Be.mpr #[a,Bk,rfl])))]
 have h:(CN J (Zz Bi (c.map λa=>[a]))).length<64:=Gr (N7 _ _) (by rw[(ZA Bi _).length_eq,Bh];exact f)
 generalize CN J (Zz Bi (c.map λa=>[a]))=j at *
 have o:=Zx (b:=Zc 0) (e:=Uh) (ρ:=[.no]) Aj (λk=>aD (hd k)) j λk g=>#[[.val (Aj k)],rfl,by
  obtain⟨a,rfl⟩:=n k g
  rfl]
 have p:=Zk (c.map aD) (by simp;lia)
 have q:=Zk (j.map Aj) (by simp;lia)
 refine#[j.map λk=>aD (hd k),?_,by simpa using d,by simpa using h]
 generalize c.map aD=M,(c.map λa=>[a]).map Aj=V,j.map Aj=W,(j.map λk=>aD (hd k))=Y at *
 refine Zp rfl ?_
 show NL [#v[M]]=_
 rwa[NL,Zi,show Zn 1 [] [#v[M]]=[.no]from rfl,p,i,m,DZ,q,o,ZK]
theorem wP{l:U At}(h:Ln l)(j:Nat):Fu [.val (Aj l),‹j›]=Z (.val (aD (l.getD j .non))):=Jx l j (by have:=h.l4;lia)
theorem KW{l:U At}(h:Ln l):Ap (Aj l) (.int 0)=Z (aD (hd l)):=by
 have b:=h.l1
 cases l with
 |nil=>simp at b
 |cons a r=>exact wt (aD a) (r.map aD)
theorem wQ{l:U At}(h:Ln l):hd l∈l:=by
 have b:=h.l1
 cases l with
 |nil=>simp at b
 |cons a r=>exact Bk
theorem wR{c:Bv}{p:Nat}(f:GL c p)(j:Nat)(a:At)(d:Sm (aD a)/\(E9 (aD a)=J'\/a=.non)):Qq [.val (LD c),‹j›,.val (aD a)]=Z (.val (.bl (decide (∃l∈c,l.getD j .non=a)))):=by
 have n:=KU (b:=Zc 0) (t:=Ul) (e:=Um) (ρ:=[.no,‹j›,.val (aD a)]) Aj (λl=>aD (hd l)) (λl=>decide (l.getD j .non=a)) c λl o=>#[[.val (Aj l),‹j›,.val (aD a)],rfl,by
  refine#[?_,?_]
  ·rwa[Ul,wP (f.ln l o) j,BY,Hm,KG,Vf]
  ·rwa[Um,KW (f.ln l o)]]
 rw[show(c.filter λl=>decide (l.getD j .non=a)).map (λl=>aD (hd l))=((c.filter λl=>decide (l.getD j .non=a)).map hd).map aD by rw[BS];rfl]at n
 obtain⟨g,q,i,r⟩:=wO ((c.filter λl=>decide (l.getD j .non=a)).map hd) (by
  rw[Bh]
  have:=VB (λl=>decide (l.getD j .non=a)) c
  have:=f.n6
  lia)
 have k:(c.filter λl=>decide (l.getD j .non=a)).map hd≠[]↔∃l∈c,l.getD j .non=a:=by
  simp
 rw[k]at i
 have s:=Zk (c.map Aj) (by rw[Bh];have:=f.n6;lia)
 have u:Up [.val (LD c),‹j›,.val (aD a)]=Z (.own g):=by
  refine Zp rfl ?_
  show Uo [.val (LD c),‹j›,.val (aD a)]=_
  have m:FH (Z2 (Dc (Z (aD a)))) (Z (!(EM (aD a)||Bz (aD a))))=Z O':=by
   rcases d.2 with h|rfl
   ·rw[show(EM (aD a)||Bz (aD a))=J' from h];cases a<;>rfl
   ·rfl
  rwa[Uo,Vd (aD a) d.1,show ZQ (Z (.bl (EM (aD a)||Bz (aD a))))=Z (EM (aD a)||Bz (aD a))from rfl]at *
  rwa[m,Dz,Zi,show Zn 1 [1,2] [.val (LD c),‹j›,.val (aD a)]=[.no,‹j›,.val (aD a)]from rfl,s,n,q,HL,ZK]
 refine Zp rfl ?_
 show Uz [.val (LD c),‹j›,.val (aD a)]=_
 rwa[Uz,u,DZ,show Zt [.lst g]=Z (.int g.length)from rfl,E3,i2,show decide ((0:Int)<(g.length:Int))=decide (∃l∈c,l.getD j .non=a)from decide_eq_decide.mpr #[λh=>i.mp (L8.mp h),λh=>by have:=i.mpr h;exact L8.mpr this]]
theorem wT{e:Bv}{p:Nat}(f:GL e p){a:At}(g:a∈e.map hd):Qq [.val (LD e),‹0›,.val (aD a)]=Z (.val (.bl J')):=by
 obtain⟨c,b,rfl⟩:=Be.mp g
 have d:=f.val c b (hd c) (wQ (f.ln c b))
 have:=wR f 0 (hd c) #[d.2.1,.inl d.1]
 rw[decide_eq_true #[c,b,by cases c<;>rfl]]at this
 exact this
theorem wU{L:AX}{s:U At}(h:∀b∈L,∃p,GL b p)(c:Bc L s):ZH (ZW 2 (Zm (Zc 0) (Zm (Zc 1) ZU))) (λ_=>Z J') Qt [.no,.no] (Dk (λx y=>D.tup [x,y]) (L.map LD) (s.map aD))=Z ((L.map λ_=>J').map D.bl):=by
 induction c with
 |nil=>rfl
 |@cons b j a k d l e=>
  obtain⟨p,f⟩:=h b Bk
  have g:Qt [.val (LD b),.val (aD a)]=Z (.bl J'):=by
   have:=wT f d
   rwa[Qt,this]
  rwa[Ob,ZH,ZW,Zm,ZU,g,e λb i=>h b (Bu _ i)]
theorem wV{L:AX}(h:BI L){s:U At}(c:Bc L s):UM [#v[L.map LD],.val (Aj s)]=Z (.val (.bl J')):=by
 have d:=wU h.good c
 have e:=gm L
 have j:=h.n4
 have f:=Zk (Dk (λx y=>D.tup [x,y]) (L.map LD) (s.map aD)) (by simp;lia)
 have g:Ca [.tup (s.map aD),.ty "tuple"]=Z (.bl J'):=rfl
 have l1:Zt [.tup (s.map aD)]=Z (.int ((s.map aD).length:Int)):=rfl
 have i:Zt [.lst (L.map LD)]=Z (.int ((L.map LD).length:Int)):=rfl
 have a:Cp (.int ((s.map aD).length:Int)) (.int ((L.map LD).length:Int))=Z (.bl O'):=by rw[show(s.map aD).length=(L.map LD).length by simp[c.len]];simp
 refine Zp rfl ?_
 unfold Aj
 generalize (L.map λ_=>J').map D.bl=B,s.map aD=S,(L.map LD)=k at *
 show UL [#v[k],.val (.tup S)]=_
 rwa[UL,g,show ∀b,ZQ (Z (.bl b))=Z b from λ_=>rfl,l1,i,a,Zi,FV,Z9,show Zn 2 [] [#v[k],.val (.tup S)]=[.no,.no]from rfl,f,d,e]
abbrev Row:=U At×Int
abbrev gM:=Bool×Row
noncomputable def Io(b:Bool):D:=if b then .str "+" else .str "-"
def JC(c:gM):D:=.tup [Io c.1,Aj c.2.1,.int c.2.2]
theorem wX:¬ ("+":Ae)="-":=by decide +kernel
theorem gN:¬ ("-":Ae)="+":=by decide +kernel
theorem wY(b:Bool):Cp (Io b) (.str "+")=Z (.bl (!b)):=by cases b<;>simp[Io,gN]
theorem wZ(b:Bool):Cp (Io b) (.str "-")=Z (.bl b):=by cases b<;>simp[Io,wX]
theorem w5(b:Bool):BY (Io b) (.str "+")=Z (.bl b):=by cases b<;>simp[Io,gN]
theorem w6{L:AX}(h:BI L)(c:gM)(f:Bc L c.2.1):Qw [#v[L.map LD],.val (JC c)]=Z (.val (.bl J')):=by
 have g:=wV h f
 have a:=QB (.int c.2.2) trivial
 have i:Ca [JC c,.ty "tuple"]=Z (.bl J'):=rfl
 have l1:Zt [JC c]=Z (.int 3):=rfl
 have j:Ap (JC c) (.int 0)=Z (Io c.1):=rfl
 have d:Ap (JC c) (.int 1)=Z (Aj c.2.1):=rfl
 have e:Ap (JC c) (.int 2)=Z (.int c.2.2):=rfl
 rw[show EM (.int c.2.2)=J' from rfl]at a
 generalize JC c=C,L.map LD=k at *
 refine Zp rfl ?_
 show US [#v[k],.val C]=_
 unfold US
 rwa[i,show ∀b,ZQ (Z (.bl b))=Z b from λ_=>rfl,l1,show Cp (.int 3) (.int 3)=Z (.bl O')from rfl,j,d,e,wY,wZ]
 cases c.1<;>rwa[d,e,g,a,B9]
def Cq(r s:Row):Bool:=if r.1=s.1 then decide (r.2<s.2)else Bi r.1 s.1
theorem w9:TO Cq:={
 asym:=λa b h=>by
  unfold Cq at h ⊢
  by_cases e:a.1=b.1
  ·rw[if_pos e]at h;rw[if_pos e.symm];simp at h ⊢;exact Int.le_of_lt h
  ·rw[if_neg e]at h;rw[if_neg (λz=>e z.symm)];exact Ey.asym _ _ h
 neg:=λa b c h=>by
  unfold Cq at h ⊢
  by_cases i:a.1=b.1
  ·rw[if_pos i]
   by_cases f:b.1=c.1
   ·rw[if_pos f];rw[if_pos (i.trans f)]at h;simp at h ⊢;lia
   ·rw[if_neg f];rw[if_neg (λz=>f (i.symm.trans z)),i]at h;exact .inr h
  ·rw[if_neg i]
   by_cases f:b.1=c.1
   ·rw[if_neg (λz=>i (z.trans f.symm)),<- f]at h;exact .inl h
   ·rw[if_neg f]
    by_cases j:a.1=c.1
    ·cases g:Bi a.1 b.1 with
     |true=>exact .inl rfl
     |false=>
      cases d:Bi b.1 a.1 with
      |true=>rw[j]at d;exact .inr d
      |false=>exact absurd (Ey.anti _ _ g d) i
    ·rw[if_neg j]at h;exact Ey.neg _ _ _ h
 anti:=λa b g d=>by
  unfold Cq at g d
  by_cases e:a.1=b.1
  ·rw[if_pos e]at g;rw[if_pos e.symm]at d
   simp at g d
   exact Prod.ext e (Int.le_antisymm d g)
  ·rw[if_neg e]at g;rw[if_neg (λz=>e z.symm)]at d;exact absurd (Ey.anti _ _ g d) e}
def Oc(r:Row):D:=.tup [.tup (r.1.map CW),.int r.2]
theorem xa(r:Row)(h:r.1.length<=1000):Qk [.val (Zj r)]=Z (.val (Oc r)):=by
 refine Zp rfl ?_
 show Ue [.val (Zj r)]=_
 unfold Oc
 rwa[Ue,show Ap (Zj r) (.int 0)=Z (Aj r.1)from rfl,show Ap (Zj r) (.int 1)=Z (.int r.2)from rfl,gn r.1 h]
theorem gO:∀a b:U At,Cw (a.map CW) (b.map CW)=decide (a=b)
 |[],[]=>by simp
 |[],_::_=>by simp
 |_::_,[]=>by simp
 |x::a,y::b=>by
  simp[f8,gO a b]
theorem xc(r s:Row):ltN 6 (Oc r) (Oc s)=Z (Cq r s):=by
 have c:AT 12 (.tup (r.1.map CW))=J':=by
  show(r.1.map CW).all (AT 11)=J'
  grind [QJ]
 have d:AT 12 (.tup (s.1.map CW))=J':=by
  show(s.1.map CW).all (AT 11)=J'
  rw[J9,CZ];exact λa _=>QJ 10 a
 have f:AG (.tup (r.1.map CW)) (.tup (s.1.map CW))=decide (r.1=s.1):=by
  rw[<- gO];erw[AG]
 show Fm (ltN 5) [.tup (r.1.map CW),.int r.2] [.tup (s.1.map CW),.int s.2]=_
 unfold Cq
 rwa[Fm,Hm,c,d,f,show ltN 5 (.tup (r.1.map CW)) (.tup (s.1.map CW))=Z (Bi r.1 s.1)from(Vw 2 r.1 s.1),decide_eq_true_eq,AT]
 by_cases e:r.1=s.1
 ·rw[if_pos e,if_pos e]
  by_cases b:r.2=s.2
  ·simp[b]
  ·simp[b]
 ·rw[if_neg e,if_neg e]
theorem xf(rs:U Row)(a:rs.length<64)(b:∀r∈rs,r.1.length<=1000):Fp Qk (rs.map Zj)=Z ((Zz Cq rs).map Zj):=
 Vr Zj w9 O' rs a Oc (λr h=>xa r (b r h)) (λr _=>#[_,_,rfl]) (λr _ s _=>xc r s)
theorem gP(L:AX)(h:∀a∈L,∃p,GL a p)(ws:U Int)(l:L.length<=ws.length):∀(b pre:AX),L=pre++b->∃s,Bc b s/\ZH (Zc 0) (λ_=>Z J') P0 [.no,#v[L.map LD],#v[ws.map D.int]] ((EN pre.length b.length).map λk:Nat=>D.int k)=Z (s.map aD)
 |[],pre,_=>#[[],.nil,rfl]
 |a::b,pre,e=>by
  obtain⟨s,m,g⟩:=gP L h ws l b (pre++[a]) (by rw[e];simp)
  rw[FG]at g
  obtain⟨p,f⟩:=h a (by rw[e];simp)
  have d:pre.length<ws.length:=by
   have:L.length=pre.length+(b.length+1):=by rw[e];simp
   lia
  have n:Ap (.lst (L.map LD)) (.int pre.length)=Z (LD a):=Z3 (by rw[e];simp)
  have o:Ap (.lst (ws.map D.int)) (.int pre.length)=Z (.int (ws.getD pre.length 0)):=Z3 (by rw[DQ,B8 d];simp[Ex,d])
  generalize ws.getD pre.length 0=x at *
  have q:Zt [LD a]=Z (.int a.length):=by simp
  have r:=Z4 x (a.length:Int) (L8.mpr f.n1)
  have t:=En x (show(a.length:Int)≠0 by exact B0 (Int.ne_of_lt (L8.mpr f.n1)))
  have i:=Fy x (L8.mpr f.n1)
  generalize x%(a.length:Int)=j at *
  obtain⟨c,rfl⟩:∃c:Nat,j=(c:Int):=#[j.toNat,by exact Int.eq_natCast_toNat.mpr t]
  have u:Ap (LD a) (.int c)=Z (Aj a[c]):=Z3 (by rw[DQ,B8 (Int.ofNat_lt.mp i)];rfl)
  refine#[hd a[c]::s,.cons (QN (FL (Int.ofNat_lt.mp i))) m,?_]
  have w:P0 [‹pre.length›,#v[L.map LD],#v[ws.map D.int]]=Z (aD (hd a[c])):=by
   generalize LD a=B,ws.map D.int=W,L.map LD=y at *
   rwa[P0,n,o,q,r,u,KW (f.ln _ (FL (Int.ofNat_lt.mp i)))]
  erw[Ce,KI,A3,ZH,Zc,E8,w]
  erw[Ce,HI]at g ⊢
  rw[g];rfl
theorem xg{L:AX}(h:BI L)(c:Int):∃r:Row,Bc L r.1/\TJ [#v[L.map LD],‹c›]=Z (.val (Zj r)):=by
 obtain⟨e,t,H,_⟩:=QD c 6 (Nat.le_of_ble_eq_true rfl)
 have Q:=h.n4
 obtain⟨s,m,o⟩:=gP L h.good e (by lia) L [] rfl
 rw[show(EN ([]:AX).length L.length)=Bf L.length by rw[KJ];rfl]at o
 have f:Zt [.lst (L.map LD)]=Z (.int L.length):=by simp
 have p:=S7 (L.length:Int) (Pw (IC L)) (by lia)
 rw[Jf]at p
 have u:=Zk ((Bf L.length).map λk:Nat=>D.int k) (by simp;lia)
 have w:Dp [.lst (s.map aD)]=Z (Aj s):=rfl
 have x:Ap (.lst (e.map D.int)) (.int 4)=Z (.int (e.getD 4 0)):=Jt (QE 4) (by lia)
 have y:Ap (.lst (e.map D.int)) (.int 5)=Z (.int (e.getD 5 0)):=Jt (QE 5) (by lia)
 generalize e.getD 5 0=i,e.getD 4 0=l at *
 have z:=Z4 l 7 (by ext)
 have A:=Z4 l 2 (by ext)
 have n:=Z4 c (10^30) (by ext)
 have B:=Z4 i 4 (by ext)
 have F:=En i (show(4:Int)≠0 by ext)
 have M:=Fy i (show(0:Int)<4 by ext)
 generalize c%10^30=g,l%2=C,l%7=E,i%4=j at *
 obtain⟨v,G⟩:∃v,Ap (.lst [.int (E-3),.int g,.int (0-g),.int C]) (.int j)=Z (.int v):=by
  rcases(show j=0\/j=1\/j=2\/j=3 by lia)with q|q|q|q<;>rw[q]
  ·exact#[_,rfl]
  ·exact#[_,rfl]
  ·exact#[_,rfl]
  ·exact#[_,rfl]
 refine#[(s,v),m,?_]
 show _=Z (Rv.val (.tup [Aj s,.int v]))
 generalize L.map LD=P,e.map D.int=W,(Bf L.length).map (λk:Nat=>D.int k)=N,Aj s=S,s.map aD=K at *
 refine Zp rfl ?_
 show TH [#v[P],‹c›,.no,.no]=_
 rwa[TH,show Ho [‹c›,‹6›]=Z #v[W]from t,Zi,show Zn 1 [0,2] [#v[P],‹c›,#v[W],.no]=[.no,#v[P],#v[W]]from rfl,f,p,u,o,w,x,y,show HP (.int 10) (.int 30)=Z (.int (10^30))from fH (by ext),z,A,n,B,show ∀a b c d:D,Zd (Z [a,b,c,d])=Z [a,b,c,d]from λ_ _ _ _=>Zk _ (by simp),G]
abbrev wh(a:Bv):Nat:=(a.headD []).length
def DN(p:Nat):D->Bool
 |.int i=>decide (0<=i)&&decide (i<=(p:Int))
 |_=>O'
theorem GL.wh{a:Bv}{p:Nat}(h:GL a p):wh a=p:=by
 have b:=h.n1
 cases a with
 |nil=>simp at b
 |cons l r=>exact h.len l Bk
theorem gQ{a:Bv}{p:Nat}(h:GL a p):Nt [.val (LD a)]=Z ‹(wh a:Int)›:=by
 have c:=h.n1
 cases a with
 |nil=>simp at c
 |cons l a=>
  have b:Zt [Aj l]=Z (.int ((l.map aD).length:Int)):=rfl
  rw[Bh]at b
  simp only[Nt,AL,Ce,HI,FZ,if_true,bc,KO,KP,Eb,Zl,Za,Bd,E7,De,Ap,show atI ((l::a).map Aj) 0=Z (Aj l)from Z3 (j:=0) rfl,Ed,Em,Zs,Gw,pk,b,Zy,Ze]
  rfl
theorem VC{a:Bv}{p:Nat}(h:GL a p)(d:D)(hd:Sm d):PU [.val (LD a),.val d]=Z (.val (.bl (DN (wh a) d))):=by
 have b:=QB d hd
 have c:=gQ h
 generalize (wh a)=n at *
 cases d with
 |int i=>
  rw[show EM (.int i)=J' from rfl]at b
  refine Zp rfl ?_
  show Ny [.val (LD a),‹i›]=_
  unfold DN
  rwa[Ny,b,Kc,show Lm (.int 0) (.int i)=Z (.bl (decide (0<=i)))from rfl]
  cases decide (0<=i)with
  |true=>rwa[c,show Lm (.int i) (.int n)=Z (.bl (decide (i<=(n:Int))))from rfl,B9,LN]
  |false=>rwa[B9,Bool.false_and]
 |_=>
  refine Zp rfl ?_
  show Ny [.val (LD a),.val _]=_
  rwa[Ny,show F6 [.val _]=Z (.val (.bl O'))from b,B9,DN]
abbrev Mb(L:AX)(zs:U D):Bool:=((L.zip zs).map λq=>DN (wh q.1) q.2).all id
theorem QT(bs:U Bool):HS (bs.map D.bl)=Z bs:=by
 simp_all
theorem gR:∀(L:AX)(zs:U D),Dk (λx y=>D.tup [x,y]) (L.map LD) zs=(L.zip zs).map λq=>D.tup [LD q.1,q.2]
 |[],_=>by simp
 |_::_,[]=>by simp
 |a::L,z::zs=>by simp[gR L zs]
theorem VD{L:AX}(h:BI L)(zs:U D)(hz:∀z∈zs,Sm z)(g:zs.length=L.length):Z0 [#v[L.map LD],.val (.tup zs)]=Z (.val (.bl (Mb L zs))):=by
 have l:=h.n4
 have a:=Zx (b:=ZW 2 (Zm (Zc 0) (Zm (Zc 1) ZU))) (e:=TV) (ρ:=[.no,.no]) (λq:U (U At)×D=>D.tup [LD q.1,q.2]) (λq=>D.bl (DN (wh q.1) q.2)) (L.zip zs) λq d=>#[[.val (LD q.1),.val q.2],rfl,by
  obtain⟨p,i⟩:=h.good q.1 (Mv d).1
  have:=VC i q.2 (hz _ (Mv d).2)
  rwa[TV,this]]
 rw[show(L.zip zs).map (λq=>D.bl (DN (wh q.1) q.2))=((L.zip zs).map λq=>DN (wh q.1) q.2).map D.bl by rw[BS];rfl]at a
 have j:Dq [.lst (((L.zip zs).map λq=>DN (wh q.1) q.2).map D.bl)]=Z (.bl (Mb L zs)):=by
  erw[Dq,QT,Em]
 have f:=Zk ((L.zip zs).map λq=>D.tup [LD q.1,q.2]) (by simp;lia)
 have k:Zt [.lst (L.map LD)]=Z (.int ((L.map LD).length:Int)):=rfl
 have c:Cp (.int zs.length) (.int ((L.map LD).length:Int))=Z (.bl O'):=by rw[g,Bh];simp
 rw[<- (gR L zs)]at a f
 generalize L.map LD=W,((L.zip zs).map λq=>DN (wh q.1) q.2).map D.bl=n at *
 refine Zp rfl ?_
 show Ky [#v[W],.val (.tup zs)]=_
 rwa[Ky,show Ca [.tup zs,.ty "tuple"]=Z (.bl J')from rfl,show ∀b,ZQ (Z (.bl b))=Z b from λ_=>rfl,show Zt [.tup zs]=Z (.int zs.length)from rfl,k,c,Zi,FV,Z9,show Zn 2 [] [#v[W],.val (.tup zs)]=[.no,.no]from rfl,f,a,j]
theorem gS(L:U D)(zs:U D)(c:zs.length≠L.length):Z0 [#v[L],.val (.tup zs)]=Z (.val (.bl O')):=by
 have d:∀b,ZQ (Z (.bl b))=Z b:=λ_=>rfl
 have e:Ca [.tup zs,.ty "tuple"]=Z (.bl J'):=rfl
 have l1:Zt [.tup zs]=Z (.int zs.length):=rfl
 have f:Zt [.lst L]=Z (.int L.length):=rfl
 have a:Cp (.int zs.length) (.int L.length)=Z (.bl J'):=by
  have:¬ (zs.length:Int)=(L.length:Int):=Nat.ToInt.of_diseq rfl rfl c
  simp[this]
 refine Zp rfl ?_
 show Ky [#v[L],.val (.tup zs)]=_
 rwa[Ky,e,d,l1,f,a]
theorem QU(L:U D)(d:D)(a:Ca [d,.ty "tuple"]=Z (.bl O')):Z0 [#v[L],.val d]=Z (.val (.bl O')):=by
 have c:∀b,ZQ (Z (.bl b))=Z b:=λ_=>rfl
 refine Zp rfl ?_
 show Ky [#v[L],.val d]=_
 rwa[Ky,a,c]
def Hr(L:AX)(g:U Nat):Prop:=g.length=L.length/\∀q∈L.zip g,q.2<=wh q.1
theorem gT:∀{L:AX}{g:U Nat},(∀q∈L.zip g,q.2<=wh q.1)->Mb L (g.map λj:Nat=>D.int j)=J'
 |[],_,_=>by simp
 |_::_,[],_=>by simp
 |b::L,j::g,h=>by
  have c:=gT (L:=L) (g:=g) λq a=>h q (Bu _ a)
  simp_all [DN,wh,Mb,Int.ofNat_le]
theorem Od{L:AX}(h:BI L){g:U Nat}(a:Hr L g):Z0 [#v[L.map LD],.val (AD g)]=Z (.val (.bl J')):=by
 have:=VD h (g.map λj:Nat=>D.int j) (λz b=>by obtain⟨j,_,rfl⟩:=Be.mp b;trivial) (by rw[Bh];exact a.1)
 rw[gT a.2]at this
 grind
abbrev gk(g:U Nat):U At:=g.map λj:Nat=>At.int j
theorem Ip(g:U Nat):Aj (gk g)=AD g:=by unfold Aj gk;rw[BS];rfl
theorem QV:∀{g g':U Nat},gk g=gk g'->g=g'
 |[],[],_=>rfl
 |[],_::_,h=>by simp at h
 |_::_,[],h=>by simp at h
 |a::g,b::g',h=>by
  erw[gk,A3,O2,At.int.injEq]at h
  rw[QV (g:=g) (g':=g') h.2,Int.ofNat.inj h.1]
abbrev AM(L:AX)(rs:U Row)(gs:U (U Nat)):A6:=gs.map λg=>(.tup (gk g),.lst (CP L g rs))
section
variable(L:AX)(rs:U Row)
theorem VF(k:U At)(gs:U (U Nat)):Dh (.tup k) (AM L rs gs)=J':=Kh k λp a=>by
 obtain⟨g,_,rfl⟩:=Be.mp a
 rfl
theorem QW:∀(gs:U (U Nat))(g:U Nat),Zo (AM L rs gs) (.tup (gk g))=if g∈gs then Z (.lst (CP L g rs))else J
 |[],g=>by simp[Zo]
 |x::gs,g=>by
  have a:=QW gs g
  erw[A3,Zo,KT.tup.injEq]
  by_cases e:x=g
  ·subst e;simp
  ·rw[if_neg (λz=>e (QV z)),a]
   simp[B0 e]
theorem gU(neg:Bool)(gs:U (U Nat))(g:U Nat):C4 neg (AD g) (.lst (Zb (AM L rs gs)) .d)=Z (.bl (neg != decide (g∈gs))):=by
 have hok:=F8 (gk g)
 rw[Ip]at hok
 rw[Kg,hok]
 show(if Dh (.tup (gk g)) (AM L rs gs)=J' then _ else _)=_
 rw[if_pos (VF L rs _ gs),QW]
 grind
theorem Oe{g:U Nat}(h:g∈gs):C1 (.lst (Zb (AM L rs gs)) .d) (AD g)=Z (.lst (CP L g rs)):=by
 have hok:=F8 (gk g)
 simp_all [Ip,gk,AM,VF,QW]
theorem xh(gs:U (U Nat)):LK [.lst (Zb (AM L rs gs)) .d]=Z (.int gs.length):=by
 have:(AM L rs gs).all (λp=>!EG p.1)=J':=by rw[J9,CZ];exact λe _=>rfl
 rwa[LK,E5,this,Bh]
theorem xi{g:U Nat}(h:g∉gs):ZR (AM L rs gs) (.tup (gk g)) (.lst (CP L g rs))=AM L rs (gs++[g]):=by
 unfold ZR
 grind [QW]
theorem VH(gs:U (U Nat)):((AM L rs gs).map λp=>kD p.1)=gs.map AD:=by
 rw[BS]
 exact List.map_congr_left λg _=>Ip g
end
noncomputable abbrev Fz:U Ae:=["axes","standing","tables"]
abbrev kB:Kd:=.i Fz "Book"
abbrev B5(L:AX)(R:U D)(t:Nat):Cl:=.mix kB [#v[L.map LD],#v[R],.cel t]
abbrev BD(L:AX)(R T:U D):D:=.lst [.lst (L.map LD),.lst R,.lst T .d] kB
theorem xj:(("tables":Ae)=="axes")=O':=by decide +kernel
theorem xk:(("tables":Ae)=="standing")=O':=by decide +kernel
section
variable{L:AX}{R T:U D}{G:Gh}{b t:Nat}
theorem Hs:Cz "Book" "axes" (BD L R T)=Z (.lst (L.map LD)):=rfl
theorem QX:Cz "Book" "standing" (BD L R T)=Z (.lst R):=rfl
theorem KY:Cz "Book" "tables" (BD L R T)=Z (.lst T .d):=rfl
theorem ER(m:Nat)(a:m≠0)(c:G[b]?=Z (B5 L R t))(e:G[t]?=Z (.dat .d T)):Ej m G (.cel b)=.val (BD L R T):=by
 simp_all
theorem ZEL(a:G[b]?=Z (B5 L R t)):Ej 0 G (.cel b)=.no:=by
 simp_all
theorem gW{xs:U IV}(a:G[b]?=Z (B5 L R t)):Pn "Book" "tables" (xs,G) (Z b)=Z t:=by simp_all [List.lookup,xj,xk]
end
theorem D7(b:Bool):ZQ (Z (.bl b))=Z b:=rfl
theorem xm:Fz.contains "keep"=O':=by decide +kernel
section
variable{L:AX}{R T:U D}{G:Gh}{b t:Nat}{x:D}
variable(h0:G[b]?=Z (B5 L R t))(ht:G[t]?=Z (.dat .d T))
include h0 ht
theorem gX:vw 2 ([.cel b,.val x],G)=[.val (BD L R T),.val x]:=by simp_all [A3,Db]
end
theorem xn{L:AX}{g:U Nat}(e:g.length=L.length){a:U Row}(b:∀r∈a,Bc L r.1):∀r∈GP (qs L g) a,r.1.length=L.length:=λr h=>by
 obtain⟨c,d,rfl⟩:=Be.mp h
 have:=(b c d).len
 simp_all [qs,QM]
abbrev ES(L:AX)(g:U Nat)(a:U Row):U BV:=KS (GP (qs L g) a) []
theorem QY{L:AX}{g:U Nat}(b:g.length=L.length){a:U Row}(c:∀r∈a,Bc L r.1):Bw (ES L g a) L.length a.length:=by
 have:=Bw.tab (GP (qs L g) a) (Bw.nil L.length) (xn b c)
 rw[Ik,show(GP (qs L g) a).length=a.length from Bh _]at this
 grind
theorem GQ(m:Nat)(k:U At):Bt m (Aj k)=J':=by
 exact FW λd hd=>by obtain⟨a,_,rfl⟩:=Be.mp hd;cases a<;>rfl
abbrev zg(L:AX):U Nat:=L.map λ_=>0
theorem xo(L:AX):KR L=AD (zg L):=by
 simp_all
theorem Of{G:Gh}{b t:Nat}{c:Cl}(a:b≠t):(G.set t c)[b]?=G[b]?:=Ep (B0 a)
theorem JD{G:Gh}{t:Nat}{c d:Cl}(h:G[t]?=Z d):(G.set t c)[t]?=Z c:=Hx (Cm.mp h).1
theorem gY(L:AX)(g:U Nat)(rs:U Row):Bt 1 (.lst (CP L g rs))=J':=by
 exact FW λd hd=>by
  obtain⟨k,_,rfl⟩:=Be.mp hd
  have:∀k:U At,Bt 1 (Aj k)=J':=λk=>by
   exact FW λd hd=>by obtain⟨a,_,rfl⟩:=Be.mp hd;cases a<;>rfl
  show(Bt 1 (Aj k)&&(Bt 1 (vC _)&&J'))=J'
  rw[this];rfl
section
variable{L:AX}{G:Gh}{b t:Nat}{rs:U Row}{g:U Nat}
variable(h:BI L)(hg:Hr L g)(h0:G[b]?=Z (B5 L (rs.map Zj) t))(ht:G[t]?=Z (.dat .d (Zb (AM L rs gs))))
include h hg h0 ht
theorem gZ{gs':U (U Nat)}{G':Gh}(h0:G'[b]?=Z (B5 L (rs.map Zj) t))(ht:G'[t]?=Z (.dat .d (Zb (AM L rs gs'))))(a:g∈gs'):UG ([.cel b,.val (AD g)],G')=.ret ‹((CP L g rs).length:Int)› G':=by
 have c:=KY (L:=L) (R:=rs.map Zj) (T:=Zb (AM L rs gs'))
 have hd:=Oe L rs a
 have v:=gX (x:=AD g) h0 ht
 generalize CP L g rs=Y,AD g=e,D.lst (Zb (AM L rs gs')) .d=TT,BD L (rs.map Zj) (Zb (AM L rs gs'))=B at *
 erw[UG,dm,v,Zl,Za,Zs,Bd,Fn,E7,De,Em,Ed,c,hd,Gw,pk,show Zt [.lst Y]=Z (.int Y.length)from rfl,jE,jO,show ∀i,Bt 2 (.int i)=J' from λ_=>rfl,if_true,xD,DY,ZN]
theorem xp(a:g∈gs):NS [.cel b,.val (AD g)] G=Z (‹((CP L g rs).length:Int)›,G):=by
 have f:=Od h hg
 have i:=gZ h hg h0 ht h0 ht a
 have l1:=Hs (L:=L) (R:=rs.map Zj) (T:=Zb (AM L rs gs))
 have j:=KY (L:=L) (R:=rs.map Zj) (T:=Zb (AM L rs gs))
 have c:=gU L rs J' gs g
 rw[decide_eq_true a]at c
 have v:=gX (x:=AD g) h0 ht
 generalize AD g=k,D.lst (Zb (AM L rs gs)) .d=TT,BD L (rs.map Zj) (Zb (AM L rs gs))=B at *
 have e:NR ([.cel b,.val k],G)=.ret ‹((CP L g rs).length:Int)› G:=by
  erw[NR,UI,UH,UE,v,Zh,Zs,Ec,Bd,Fn,E7,De,Em,Ed,l1,f,aY,D7,Z2,MW,jT,Ek,UF,Za,j,c,AR,bne_self_eq_false,ZN,i]
 exact Eq.trans (fi rfl e) rfl
theorem xq(p:∀r∈rs,Bc L r.1)(q:rs.length<64)(j:b≠t)(o:g∉gs)(s:gs.length<12):NS [.cel b,.val (AD g)] G=Z (‹((CP L g rs).length:Int)›,G.set t (.dat .d (Zb (AM L rs (gs++[g]))))):=by
 have u:=Od h hg
 have a:=gZ (gs':=gs++[g]) (G':=G.set t (.dat .d (Zb (AM L rs (gs++[g]))))) h hg h0 ht (by rw[Of j];exact h0) (JD ht) (by simp)
 have l1:=Hs (L:=L) (R:=rs.map Zj) (T:=Zb (AM L rs gs))
 have w:=KY (L:=L) (R:=rs.map Zj) (T:=Zb (AM L rs gs))
 have x:=QX (L:=L) (R:=rs.map Zj) (T:=Zb (AM L rs gs))
 have y:C4 J' (AD g) (.lst (Zb (AM L rs gs)) .d)=Z (.bl J'):=by rw[gU,decide_eq_false o];rfl
 have z:=xh L rs gs
 have c:=xi L rs o
 have k:=E5 (AM L rs gs)
 have hok:=F8 (gk g)
 rw[Ip]at hok
 have l:=VF L rs (gk g) gs
 have f:(AM L rs gs).length<AA:=by rw[Bh];exact BE (show gs.length<1000 by lia) (by ext)
 have i:=gH h hg.1 rs p q
 have m:=gW (xs:=[.cel b,.val (AD g)]) h0
 have A:MP (.int gs.length) (.int 12)=Z (.bl O'):=by
  show Z (D.bl (decide ((12:Int)<=(gs.length:Int))))=_
  rw[decide_eq_false (by lia)]
 have C:=gY L g rs
 have E:=ER 2 (by ext) h0 ht
 have H:=ER 1 (by ext) h0 ht
 generalize AM L rs (gs++[g])=n at *
 generalize AD g=v,CP L g rs=Y,rs.map Zj=R,AM L rs gs=M,BD L (rs.map Zj) (Zb (AM L rs gs))=B at *
 suffices e:NR ([.cel b,.val v],G)=.ret ‹Y.length› (G.set t (.dat .d (Zb n)))from Eq.trans (fi rfl e) rfl
 rwa[NR,UI,UE,E,l1,u,D7,UH,UF,H,w,x,y,z,A,i,DZ,C,m,Pr,ht,k,hok,l,f,c,a]
end
def Fc(a b:U Nat):Bool:=Bi (gk a) (gk b)
theorem xr:TO Fc:=#[λa b h=>Ey.asym _ _ h,λa b c h=>Ey.neg _ _ _ h,λa b d e=>QV (Ey.anti _ _ d e)]
noncomputable abbrev VI(g:U Nat):U D:=g.map λj:Nat=>D.int j
theorem g5(n:Nat):∀a b:U Nat,Fm (ltN n) (VI a) (VI b)=Z (Fc a b)
 |[],[]=>rfl
 |[],_::_=>rfl
 |_::_,[]=>rfl
 |i::a,j::b=>by
  have d:=g5 n a b
  unfold Fc at d ⊢
  rwa[VI,gk,Fm,Bi,AT,Hm]at d ⊢
  by_cases c:i=j
  ·subst c
   erw[AG,beq_self_eq_true,if_true,d]
  ·have e:¬ (i:Int)=(j:Int):=Nat.ToInt.of_diseq rfl rfl c
   simp_all [GO]
theorem g6(h:gs.length<64)(c:∀g∈gs,g≠[]):Fp Ft (gs.map AD)=Z ((Zz Fc gs).map AD):=
 Vr AD xr J' gs h AD (λ_ _=>rfl) (λg d=>by
  cases g with
  |nil=>exact absurd rfl (c _ d)
  |cons a r=>exact#[_,_,rfl]) λa _ b _=>g5 5 a b
theorem xt(a:Bv):Bt 1 (LD a)=J':=by
 show(!vk 1 .l&&C6 1 (a.map Aj))=J'
 rw[FW λd hd=>by obtain⟨l,_,rfl⟩:=Be.mp hd;exact GQ 1 l];rfl
theorem VJ(L:AX):C6 1 (L.map LD)=J':=FW λd hd=>by obtain⟨l,_,rfl⟩:=Be.mp hd;exact xt l
theorem VL(L:AX)(rs:U Row):∀gs:U (U Nat),C6 1 (Zb (AM L rs gs))=J'
 |[]=>rfl
 |g::gs=>by
  show(Bt 1 (Aj (gk g))&&(Bt 1 (.lst (CP L g rs))&&C6 1 (Zb (AM L rs gs))))=J'
  rw[GQ,gY,VL L rs gs];rfl
theorem g8{L:AX}(h:BI L)(rs:U Row)(j:∀r∈rs,Bc L r.1)(k:rs.length<64)(gs:U (U Nat))(l:gs.Nodup)(m:∀g∈gs,g.length=L.length)(n:gs.length<=12):Qs [#v[L.map LD],#v[rs.map Zj],#v[gs.map AD]]=Z (.own (Zb (AM L rs gs)) .d):=by
 have f:=Zx (b:=Zc 0) (e:=UC) (ρ:=[.no,#v[L.map LD],#v[rs.map Zj]]) AD (λg=>Ga (gk g,.lst (CP L g rs))) gs λg o=>#[[.val (AD g),#v[L.map LD],#v[rs.map Zj]],rfl,by
  have p:=gH h (m g o) rs j k
  show _=Z (D.tup [Aj (gk g),.lst (CP L g rs)])
  rw[Ip]
  rwa[UC,p,DZ]]
 rw[show gs.map (λg=>Ga (gk g,.lst (CP L g rs)))=(gs.map λg=>((gk g,.lst (CP L g rs)):KE)).map Ga by rw[BS];rfl]at f
 have i:=QR (gs.map λg=>((gk g,.lst (CP L g rs)):KE)) [] (by
  rw[D1,BS]
  exact List.pairwise_map.mpr (l.imp λa e=>a (QV e))) (by simp;lia)
 rw[D1,show BZ (gs.map λg=>((gk g,.lst (CP L g rs)):KE))=AM L rs gs by unfold BZ;rw[BS];rfl]at i
 have q:=Zk (gs.map AD) (by simp;lia)
 have c:EI [] ((gs.map λg=>((gk g,.lst (CP L g rs)):KE)).map Ga)=Z (AM L rs gs):=i
 generalize L.map LD=W,rs.map Zj=R,gs.map AD=s,(gs.map λg=>((gk g,.lst (CP L g rs)):KE)).map Ga=Y,AM L rs gs=t at *
 refine Zp rfl ?_
 show UD [#v[W],#v[R],#v[s]]=_
 rwa[UD,E6,Zi,q,show Zn 1 [0,1] [#v[W],#v[R],#v[s]]=[.no,#v[W],#v[R]]from rfl,f,c,G4]
section
variable{L L':AX}{rs rs':U Row}(h:BI L)(h':BI L')(hL:L.length=L'.length)(hr:∀r∈rs,Bc L r.1)(hr':∀r∈rs',Bc L' r.1)(hl:rs.length+rs'.length<64)(hg:∀g∈gs,g.length=L.length)
include h h' hL hr hr' hl
theorem xu{g:U Nat}(hg:g.length=L.length):∃f:U (U At),Qm [#v[CP L g rs],#v[CP L' g rs']]=Z (.own (f.map Aj))/\f.length<64:=by
 have j:=h.n4
 have i:=h.n1
 have ok:=QY hg hr
 have a:=QY (hg.trans hL) hr'
 have p:=ZA Bi (Zu (ES L g rs))
 have c:=ZA Bi (Zu (ES L' g rs'))
 have l1:(Zu (ES L g rs)).length<=rs.length:=by unfold Zu;rw[Bh];exact ok.len
 have l:(Zu (ES L' g rs')).length<=rs'.length:=by unfold Zu;rw[Bh];exact a.len
 have:=wN (KV (ES L g rs)) (KV (ES L' g rs')) (by rw[QS];exact p.nodup_iff.mpr ok.nd) (by rw[QS];exact c.nodup_iff.mpr a.nd) (gL _) (gL _) (Zz Bi (Zu (ES L g rs))++Zz Bi (Zu (ES L' g rs')))
  (λe d=>Iw _ (by rw[<- QS];exact QN d)) (λe d=>CY _ (by rw[<- QS];exact QN d)) (by rw[FG,p.length_eq,c.length_eq];lia) λk b=>by
   have:k.length=L.length:=by
    rcases Dn.mp b with b|b
    ·exact ok.kl k (p.mem_iff.mp b)
    ·rw[a.kl k (c.mem_iff.mp b),hL]
   exact#[λz=>by rw[z]at this;simp at this;lia,by lia]
 rw[<- gK,<- gK]at this
 exact this
include hg
theorem xw:∀(zs:U (U Nat))(acc:U D)(j:Sl),(∀g∈zs,g∈gs)->acc.length+64*zs.length<=1000->(∀d∈acc,Bt 2 d=J') ->
  ∃ys f,ZB (Zc 3) Qp (zs.map AD) [.val (.lst (Zb (AM L rs gs)) .d),.val (.lst (Zb (AM L' rs' gs)) .d),.own acc,j]=.next [.val (.lst (Zb (AM L rs gs)) .d),.val (.lst (Zb (AM L' rs' gs)) .d),.own ys,f]/\∀d∈ys,Bt 2 d=J':=by
 intro zs
 induction zs with
 |nil=>exact λacc j _ _ l=>#[acc,j,rfl,l]
 |cons g zs p=>
  intro acc j o q l
  have i:=o g Bk
  obtain⟨a,e,C⟩:=xu h h' hL hr hr' hl (hg g i)
  have r:=Oe L rs i
  have s:=Oe L' rs' i
  have t:=Zx (b:=Zc 0) (e:=Uw) (ρ:=[.no,.val (AD g)]) Aj (λk=>D.tup [AD g,Aj k]) a λk _=>#[[.val (Aj k),.val (AD g)],rfl,by
   rwa[Uw]]
  have u:=Zk (a.map Aj) (by simp;lia)
  have v:∀d∈(a.map λk=>D.tup [AD g,Aj k]),Bt 2 d=J':=λd hd=>by
   obtain⟨k,_,rfl⟩:=Be.mp hd
   show(Bt 2 (AD g)&&(Bt 2 (Aj k)&&J'))=J'
   rw[<- Ip,GQ,GQ];rfl
  have c:(a.map λk=>D.tup [AD g,Aj k]).length=a.length:=by simp
  rw[Ce]at q
  have m:acc.length+(a.map λk=>D.tup [AD g,Aj k]).length<=AA:=BJ (show _<=1000 by rw[c];lia) (by ext)
  have w:Qp [.val (.lst (Zb (AM L rs gs)) .d),.val (.lst (Zb (AM L' rs' gs)) .d),.own acc,.val (AD g)]=.next [.val (.lst (Zb (AM L rs gs)) .d),.val (.lst (Zb (AM L' rs' gs)) .d),.own (acc++a.map λk=>D.tup [AD g,Aj k]),.val (AD g)]:=by
   generalize AD g=E,D.lst (Zb (AM L' rs' gs)) .d=y,D.lst (Zb (AM L rs gs)) .d=z,CP L g rs=G,CP L' g rs'=H,(a.map λk=>D.tup [AD g,Aj k])=Y at *
   erw[Qp,Zi,show Zn 1 [3] [.val z,.val y,.own acc,.val E]=[.no,.val E]from rfl,Zh,Za,Bd,Fn,E7,De,r,s,Ed,Em,Zs,e,DZ,Zv,u,t,Lr,DH,if_pos m,Fv,E8,Ze]
  obtain⟨ys,f,A,n⟩:=p (acc++a.map λk=>D.tup [AD g,Aj k]) (.val (AD g)) (λx B=>o x (Bu _ B)) (by rw[FG,c];lia) (λd hd=>by
   rcases Dn.mp hd with hd|hd
   ·exact l d hd
   ·exact v d hd)
  refine#[ys,f,?_,n]
  rw[A3]
  erw[ZB,show Zc 3 (AD g) [.val (.lst (Zb (AM L rs gs)) .d),.val (.lst (Zb (AM L' rs' gs)) .d),.own acc,j]=Z [.val (.lst (Zb (AM L rs gs)) .d),.val (.lst (Zb (AM L' rs' gs)) .d),.own acc,.val (AD g)]from rfl,w,A]
theorem xx(c:gs.length<=12):∃ys:U D,Uy [.val (.lst (Zb (AM L rs gs)) .d),.val (.lst (Zb (AM L' rs' gs)) .d)]=Z (.own ys)/\C6 2 ys=J':=by
 have f:=h.n1
 have i:LM (Z (.lst (Zb (AM L rs gs)) .d))=Z ((Zz Fc gs).map AD):=by
  show(Eh (Zb (AM L rs gs))).bind (λa=>Fp Ft (a.map λp=>kD p.1))=_
  rw[E5]
  show Fp Ft ((AM L rs gs).map λp=>kD p.1)=_
  rw[VH]
  exact g6 (by lia) λg b z=>by have:=hg g b;rw[z]at this;simp at this;lia
 obtain⟨ys,j,e,k⟩:=xw h h' hL hr hr' hl hg (Zz Fc gs) [] .no (λg b=>(ZA Fc _).mem_iff.mp b) (by rw[(ZA Fc _).length_eq];simp;lia) (λ_ h=>nomatch h)
 refine#[ys,?_,FW k]
 generalize D.lst (Zb (AM L rs gs)) .d=l,D.lst (Zb (AM L' rs' gs)) .d=m at *
 refine Zp rfl ?_
 show Ux [.val l,.val m,.no,.no]=_
 rwa[Ux,show Zd (Z ([]:U D))=Z []from rfl,ZS,Cu,i,e,DH,ZK]
end
theorem g9{G:Gh}{q m:Nat}(a:m≠0)(h:G[q]?=Z (.dat .d xs)):Ej m G (.cel q)=.val (.lst xs .d):=by
 simp_all
theorem JH{G:Gh}{n:Nat}{c d:Cl}(h:G[n]?=Z c):(G++[d])[n]?=Z c:=by
 rw[HA (Cm.mp h).1];exact h
theorem xy{L a:AX}(h:BI L)(h':BI a)(s:L.length=a.length){rs rs':U Row}(A:∀r∈rs,Bc L r.1)(c:∀r∈rs',Bc a r.1)(u:rs.length+rs'.length<64)(B:gs.Nodup)(v:∀g∈gs,g.length=L.length)(f:gs.length<=12){G:Gh}{b t:Nat}(i:G[b]?=Z (B5 a (rs'.map Zj) t))(k:G[t]?=Z (.dat .d (Zb (AM L rs gs))))(n:b≠t):
  ∃ys:U D,UR [.cel b] G=Z (.cel (G.length+1),G.set b (B5 a (rs'.map Zj) G.length)++[.dat .d (Zb (AM a rs' gs)),.dat .l ys]):=by
 obtain⟨ys,e,C⟩:=xx h h' s A c u v f
 refine#[ys,?_]
 have o:=g8 h' rs' c (Nat.lt_of_add_left_lt u) gs B (λg E=>(v g E).trans s) f
 have H:=VL a rs' gs
 have p:Kk [.lst (Zb (AM L rs gs)) .d]=Z (gs.map AD):=by rw[SJ,VH]
 generalize M:rs'.map Zj=R at *
 generalize Zb (AM a rs' gs)=j,Zb (AM L rs gs)=m at *
 have q:(G.set b (B5 a R G.length)++[Cl.dat .d j])[G.length]?=Z (.dat .d j):=by
  rw[Mw (by simp)];simp
 have K:Ej 2 (G.set b (B5 a R G.length)++[Cl.dat .d j]) (.cel t)=.val (.lst m .d):=g9 (by ext) (JH (by rw[Of (B0 n)];exact k))
 suffices F:UQ ([.cel b,.no],G)=.ret (.cel (G.length+1)) (G.set b (B5 a R G.length)++[.dat .d j,.dat .l ys])from Eq.trans (fi rfl F) rfl
 rwa[UQ,dP,dK,gW i,xP,Option.bind_some,if_pos (Cm.mp k).1,dO,dL,ER 1 (by ext) i k,show Ej 1 G (.cel t)=.val (.lst m .d)from g9 (by ext) k,IR,EE,Hs (L:=a) (R:=R) (T:=m),QX (L:=a) (R:=R) (T:=m),p,o,RP,jG,jL,H,xC,GF,JH i,true_and,show(3:Nat)<1000 by ext,show L2.putN "tables" Fz=Fz by decide +kernel,show ∀x y w z:IV,DM "tables" z Fz [x,y,w]=[x,y,z]from λx y w z=>by erw[DM,if_neg (show ¬ ("axes":Ae)="tables" by decide +kernel),if_neg (show ¬ ("standing":Ae)="tables" by decide +kernel),if_true],List.set_append_left _ _ (Cm.mp i).1,dN,dM,ER 2 (by ext) (JH (JD i)) q,K,Dz,KY (L:=a) (R:=R) (T:=j),e,HL,C,DY,FG,List.length_set,O9,G0,D1]
theorem hD{G:Gh}{q:Nat}(h:G[q]?=Z (.dat .l xs)):Ej 2 G (.cel q)=#v[xs]:=by
 simp_all
theorem xz{G:Gh}{n:Nat}{c:Cl}(h:G[n]?=Z c):G.set n c=G:=by
 apply J5
 intro i
 by_cases e:n=i
 ·subst e;rw[JD h,h]
 ·rw[Ep e]
theorem xA:Fz.contains "tables_renewed"=O':=by decide +kernel
theorem xB(rs:U Row)(r:Row)(d:rs.length<100){G:Gh}{n:Nat}(h:G[n]?=Z (.dat .l (rs.map Zj))):Tb [.cel n,.val (Zj r)] G=Z (.val .non,G.set n (.dat .l ((rs++[r]).map Zj))):=by
 have b:MP (.int ((rs.map Zj).length:Int)) (.int 200)=Z (.bl O'):=by
  show Z (D.bl (decide ((200:Int)<=((rs.map Zj).length:Int))))=_
  grind [Bh]
 have c:(rs.map Zj).length<AA:=by rw[Bh];exact BE (show rs.length<1000 by lia) (by ext)
 have a:Zt [.lst (rs.map Zj)]=Z (.int ((rs.map Zj).length:Int)):=rfl
 rw[FN,A3,Db]
 generalize rs.map Zj=R,Zj r=f at *
 have e:Ta ([.cel n,.val f],G)=.next ([.cel n,.val f],G.set n (.dat .l (R++[f]))):=by
  rwa[Ta,hD h,a,b,Pq,h,if_pos c,Hg]
 exact Eq.trans (fi rfl e) rfl
theorem hE(r:Row):Bt 2 (Zj r)=J':=by
 show(Bt 2 (Aj r.1)&&(Bt 2 (.int r.2)&&J'))=J'
 rw[GQ];rfl
theorem hG(rs:U Row):C6 2 (rs.map Zj)=J':=FW λd hd=>by obtain⟨r,_,rfl⟩:=Be.mp hd;exact hE r
def Eo(r:Row):D:=JC (J',r)
theorem xE{L:AX}(h:BI L)(a b:IV)(rs:U Row)(c:rs.length<100)(r:Row)(d:Bc L r.1){G:Gh}{n:Nat}(e:G[n]?=Z (.dat .l (rs.map Zj))):
  Qx ([#v[L.map LD],a,b,.cel n,.val (Eo r)],G)=.next ([#v[L.map LD],a,b,.cel n,.val (Eo r)],G.set n (.dat .l ((rs++[r]).map Zj))):=by
 unfold Qx
 rwa[show Qw [#v[L.map LD],.val (Eo r)]=Z (.val (.bl J'))from w6 h (J',r) d,D7,show Ap (Eo r) (.int 0)=Z (Io J')from rfl,show Ap (Eo r) (.int 1)=Z (Aj r.1)from rfl,show Ap (Eo r) (.int 2)=Z (.int r.2)from rfl,w5 J',show D.tup [Aj r.1,.int r.2]=Zj r from rfl,hE r,Hh,xB rs r c e,Hg]
theorem hH{L:AX}(h:BI L)(c d:IV){n:Nat}:∀(a rs:U Row)(e:IV)(G:Gh),rs.length+a.length<100->(∀r∈a,Bc L r.1)->G[n]?=Z (.dat .l (rs.map Zj)) ->
  ∃b,GD 4 Qx (a.map Eo) ([#v[L.map LD],c,d,.cel n,e],G)=.next ([#v[L.map LD],c,d,.cel n,b],G.set n (.dat .l ((rs++a).map Zj)))
 |[],rs,e,G,_,_,f=>#[e,by rw[Eb,xz f];rfl]
 |r::a,rs,e,G,g,i,f=>by
  erw[Ce]at g
  obtain⟨b,j⟩:=hH h c d a (rs++[r]) (.val (Eo r)) (G.set n (.dat .l ((rs++[r]).map Zj))) (by simp;lia) (λq k=>i q (Bu _ k)) (JD f)
  refine#[b,?_]
  rw[List.set_set,O9]at j
  erw[A3,GD,Fv,E8,xE h c d rs (Df g) r (i r Bk) f]
  exact j
theorem xG{L:AX}(h:BI L)(a:U Row)(d:a.length<64)(c:∀r∈a,Bc L r.1)(G:Gh):UZ [#v[L.map LD],#v[[]],#v[a.map Eo]] G=Z (#v[(Zz Cq a).map Zj],G++[.dat .l (a.map Zj)]):=by
 obtain⟨k,e⟩:=hH h #v[[]] #v[a.map Eo] (n:=G.length) a [] .no (G++[.dat .l []]) (by simp;lia) c (show(G++[Cl.dat .l []])[G.length]?=Z (.dat .l (([]:U Row).map Zj)) by simp)
 rw[D1,show(G++[Cl.dat .l []]).set G.length (.dat .l (a.map Zj))=G++[.dat .l (a.map Zj)] by simp]at e
 have m:=h.n4
 have f:=xf a d λr g=>by have:=(c r g).len;lia
 have b:Ej 2 (G++[.dat .l (a.map Zj)]) (.cel G.length)=#v[a.map Zj]:=hD (by simp)
 have i:=hG (Zz Cq a)
 generalize L.map LD=o,a.map Eo=C,a.map Zj=W,(Zz Cq a).map Zj=Y at *
 suffices j:UY ([#v[o],#v[[]],#v[C],.no,.no],G)=.ret #v[Y] (G++[.dat .l W])from Eq.trans (fi rfl j) rfl
 rwa[UY,dW,dR,EE,show G6 [.lst []]=Z []from rfl,jG,jL,show C6 2 []=J' from rfl,xC,dV,dS,LL,Kp,e,dU,dT,b,Ki,f,i,xF,DY]
theorem xH{L:AX}(h:BI L):UP [.cel 0,#v[L.map LD]] [.mix (.i [] "Book") []]=Z (.val .non,[B5 L [] 1,.dat .d (Zb (AM L [] [zg L]))]):=by
 have g:=h.al
 have j:=fY h
 have f:=g8 h [] (λ_ h=>nomatch h) (by ext) [zg L] (by simp) (by simp) (by simp)
 rw[Db,A3,Db,<- xo]at f
 have k:=Zx (b:=Zc 0) (e:=dz) (ρ:=[.no]) LD LD L λl _=>#[[.val (LD l)],rfl,rfl]
 have m:=Zk (L.map LD) (by have:=h.n4;simp;lia)
 have n:=VJ L
 have o:=VL L [] [zg L]
 have p:Cz "Book" "axes" (.lst [.lst (L.map LD),.lst []] (.i ["axes","standing"] "Book"))=Z (.lst (L.map LD)):=rfl
 generalize Zb (AM L [] [zg L])=TT at *
 generalize c:L.map LD=a at *
 suffices e:Qv ([.cel 0,#v[a]],[.mix (.i [] "Book") []])=.next ([.cel 0,#v[a]],[.mix kB [#v[a],#v[[]],.cel 1],.dat .d TT])from by
  show(match Qv ([.cel 0,#v[a]],[.mix (.i [] "Book") []])with | .ret x q=>Z (x,q) | .next s=>Z (.val .non,s.2)|_=>J)=_
  rw[e,<- c]
 rwa[Qv,dJ,dA,g,D7,dI,dB,Zi,show ∀V:Sl,Zn 1 [] [V,#v[a]]=[.no]from λ_=>rfl,m,k,jG,jL,n,xF,GF,and_self,true_and,putN,DM,show(0:Nat)<1000 by ext]
 rwa[dH,dC,show Zd (Z ([]:U D))=Z []from rfl,jG,jL,show C6 2 []=J' from rfl,xF,GF,Ik,true_and,show(1:Nat)<1000 by ext,show L2.putN "standing" ["axes"]=(["axes","standing"]:U Ae) by decide +kernel,show ∀x y:IV,DM "standing" y ["axes"] [x]=[x,y]from λx y=>by erw[DM,if_neg (show ¬ ("axes":Ae)="standing" by decide +kernel)],dG,dE,show Ej 1 [.mix (.i ["axes","standing"] "Book") [#v[a],#v[[]]]] (.cel 0)=.val (.lst [.lst a,.lst []] (.i ["axes","standing"] "Book"))from rfl,IR,p,j,f,RP,o,xC,G0,D1,FZ,show(2:Nat)<1000 by ext,show L2.putN "tables" ["axes","standing"]=(["axes","standing","tables"]:U Ae) by decide +kernel,show ∀x y z:IV,DM "tables" z ["axes","standing"] [x,y]=[x,y,z]from λx y z=>by erw[DM,if_neg (show ¬ ("axes":Ae)="tables" by decide +kernel),if_neg (show ¬ ("standing":Ae)="tables" by decide +kernel)],dF]
theorem xI:Fz.contains "pour"=O':=by decide +kernel
theorem xJ{L:AX}(h:BI L)(a:U Row)(m:∀r∈a,Bc L r.1)(n:a.length<64){G:Gh}{b t:Nat}(c:G[b]?=Z (B5 L [] t))(o:G[t]?=Z (.dat .d (Zb (AM L [] [zg L]))))(f:b≠t):
  ∃j t' G',U3 [.cel b,#v[a.map Eo]] G=Z (.cel j,G')/\G'[b]?=Z (B5 L ((Zz Cq a).map Zj) t')/\G'[t']?=Z (.dat .d (Zb (AM L (Zz Cq a) [zg L])))/\G.length<=t'/\∀i,i≠b->i<G.length->G'[i]?=G[i]?:=by
 have s:=xG h a n m G
 have p:=(Cm.mp c).1
 obtain⟨q,e⟩:=xy h h rfl (rs:=[]) (rs':=Zz Cq a) (λ_ h=>nomatch h) (λr A=>m r ((ZA Cq _).mem_iff.mp A)) (by rw[(ZA Cq _).length_eq];simpa using n) (gs:=[zg L]) (by simp) (by simp) (by simp) (JD (JH c)) (show((G++[Cl.dat .l (a.map Zj)]).set b (B5 L ((Zz Cq a).map Zj) t))[t]?=Z (.dat .d (Zb (AM L [] [zg L]))) by rw[Of (B0 f)];exact JH o) f
 rw[List.set_set]at e
 have ln:((G++[Cl.dat .l (a.map Zj)]).set b (B5 L ((Zz Cq a).map Zj) t)).length=G.length+1:=by simp
 rw[ln]at e
 refine#[G.length+1+1,G.length+1,(G++[Cl.dat .l (a.map Zj)]).set b (B5 L ((Zz Cq a).map Zj) (G.length+1))++[Cl.dat .d (Zb (AM L (Zz Cq a) [zg L])),.dat .l q],?_,?_,?_,by exact M1 (IC G) 1,λi k g=>?_]
 ·have B:Bt 1 (.lst (L.map LD))=J':=by
   show(!vk 1 .l&&C6 1 (L.map LD))=J'
   rw[VJ];rfl
  have E:=Hs (L:=L) (R:=[]) (T:=Zb (AM L [] [zg L]))
  have H:=QX (L:=L) (R:=[]) (T:=Zb (AM L [] [zg L]))
  have F:Ej 1 G (.cel b)=.val (BD L [] (Zb (AM L [] [zg L]))):=ER 1 (by ext) c o
  have k:DD "Book" "tables_renewed" (B5 L ((Zz Cq a).map Zj) t)=J':=by rwa[DD,xA]
  generalize a.map Eo=C,(G++[Cl.dat .l (a.map Zj)]).set b (B5 L ((Zz Cq a).map Zj) (G.length+1))++[Cl.dat .d (Zb (AM L (Zz Cq a) [zg L])),.dat .l q]=u,BD L [] (Zb (AM L [] [zg L]))=Q at *
  suffices M:U2 ([.cel b,#v[C]],G)=.ret (.cel (G.length+1+1)) u from Eq.trans (fi rfl M) rfl
  rwa[U2,F,E,H,B,show Bt 1 (.lst [])=J' from rfl,Hh,s,GF,JH c,Ik,FZ,true_and,show(3:Nat)<1000 by ext,and_self,show L2.putN "standing" Fz=Fz by decide +kernel,show ∀x y w z:IV,DM "standing" z Fz [x,y,w]=[x,z,w]from λx y w z=>by erw[DM,if_neg (show ¬ ("axes":Ae)="standing" by decide +kernel),if_true],EL,JD (JH c),k,show b<((G++[Cl.dat .l (a.map Zj)]).set b (B5 L ((Zz Cq a).map Zj) t)).length by rw[ln];exact Nat.lt_add_right 1 p,e,DY]
 ·rw[HA (by simp;exact Nat.lt_add_right 1 p)];exact JD (JH c)
 ·rw[Mw (by simp)];simp
 ·rw[HA (by simp;exact Nat.lt_add_right 1 g),Of k,HA g]
theorem xK(rs:U Row):AT 12 (.lst (rs.map Zj))=J':=by
 show(rs.map Zj).all (AT 11)=J'
 rw[CZ]
 intro d hd
 obtain⟨r,_,rfl⟩:=Be.mp hd
 show(AT 10 (Aj r.1)&&(AT 10 (.int r.2)&&J'))=J'
 rw[Vg];rfl
theorem hJ{d:D}(h:AT 12 d=J'):Cp d d=Z (.bl O'):=by
 have:=MR 12 _ h
 erw[Cp,Hm,h,this,Ia,if_true,MW]
theorem hQ:Fz.contains "rows"=O':=by decide +kernel
section
variable{L:AX}{R T:U D}
theorem hR:PJ [.val (BD L R T)]=Z (.own R):=by
 have l1:=QX (L:=L) (R:=R) (T:=T)
 refine Zp rfl ?_
 generalize BD L R T=B at *
 show Tc [.val B]=_
 rwa[Tc,EE,l1,show G6 [.lst R]=Z R from rfl,ZK]
end
theorem Hr.of{L:AX}{g:U Nat}(a:g.length=L.length)(h:∀k (b:k<L.length) (c:k<g.length),g[k]<=wh L[k]):Hr L g:=#[a,λq d=>by
 grind [List.getElem_of_mem]]
theorem hT{L:AX}(h:BI L)(c:Int):∃g,Hr L g/\NA [#v[L.map LD],‹c›]=Z (.val (AD g)):=by
 have C:=h.n4
 obtain⟨a,e,m,E⟩:=QD c L.length (by lia)
 let g:U Nat:=(Bf L.length).map λk=>(a.getD k 0%((wh (L.getD k [])+1:Nat):Int)).toNat
 refine#[g,Hr.of (show g.length=L.length by simp[g]) λk o G=>?_,?_]
 ·have H:=Fy (a.getD k 0) (show(0:Int)<((wh L[k]+1:Nat):Int) by exact Int.ofNat_succ_pos (wh L[k]))
  rw[List.getElem_map,List.getElem_range,show L.getD k []=L[k] by simp[Ex,o]]
  lia
 ·have q:=Zx (b:=Zc 0) (e:=TD) (ρ:=[.no,#v[a.map D.int],#v[L.map LD]]) (λk:Nat=>D.int k) (λk=>D.int (((a.getD k 0%((wh (L.getD k [])+1:Nat):Int)).toNat:Nat):Int)) (Bf L.length) λk s=>#[[‹k›,#v[a.map D.int],#v[L.map LD]],rfl,by
   have d:=ET.mp s
   obtain⟨p,t⟩:=h.good L[k] (FL d)
   have u:Ap (.lst (L.map LD)) (.int k)=Z (LD L[k]):=Z3 (by rw[DQ,B8 d];rfl)
   have w:Ap (.lst (a.map D.int)) (.int k)=Z (.int a[k]):=Z3 (by rw[DQ,B8 (K7 d m.symm)];rfl)
   have n1:=t.n1
   have i:∃l,Ap (LD L[k]) (.int 0)=Z (Aj l)/\l.length=wh L[k]:=by
    generalize L[k]=x at *
    cases x with
    |nil=>simp at n1
    |cons l r=>exact#[l,Z3 (j:=0) rfl,rfl]
   obtain⟨l,i,y⟩:=i
   have z:ZJ (.int a[k]) (.int ((wh L[k]+1:Nat):Int))=Z (.int (a[k]%((wh L[k]+1:Nat):Int))):=by
    simp_all [wh]
   rw[show L.getD k []=L[k] by simp[Ex,d],show a.getD k 0=a[k] by simp[Ex,K7 d m.symm],Ju (En _ (by lia))]
   rwa[TD,u,w,i,show Zt [Aj l]=Z (.int (wh L[k]:Int)) by rw[<- y];simp[Aj],show Zw (.int (wh L[k]:Int)) (.int 1)=Z (.int ((wh L[k]+1:Nat):Int))from rfl,z]]
  have n:=S7 (L.length:Int) (Pw (IC L)) (by lia)
  rw[Jf]at n
  have A:=Zk ((Bf L.length).map λk:Nat=>D.int k) (by simp;lia)
  have f:Zt [.lst (L.map LD)]=Z (.int L.length):=by simp
  have B:g.map (λj:Nat=>D.int j)=(Bf L.length).map λk=>D.int (((a.getD k 0%((wh (L.getD k [])+1:Nat):Int)).toNat:Nat):Int):=by
   rw[BS];rfl
  show NA _=Z (.val (.tup (g.map λj:Nat=>D.int j)))
  rw[B]
  generalize a.map D.int=S,L.map LD=W,(Bf L.length).map (λk:Nat=>D.int k)=F,((Bf L.length).map λk=>D.int (((a.getD k 0%((wh (L.getD k [])+1:Nat):Int)).toNat:Nat):Int))=Y at *
  refine Zp rfl ?_
  show TF [#v[W],‹c›,.no]=_
  rwa[TF,f,e,Zi,show Zn 1 [2,0] [#v[W],‹c›,#v[S]]=[.no,#v[S],#v[W]]from rfl,n,A,q,show Dp [.lst Y]=Z (.tup Y)from rfl]
def KZ(n:Nat):D->Bool
 |.int i=>decide (0<=i)&&decide (i<(n:Int))
 |_=>O'
theorem VM(L:U D)(d:D)(hd:Sm d):Tq [#v[L],.val d]=Z (.val (.bl (KZ L.length d))):=by
 have a:=QB d hd
 cases d with
 |int i=>
  rw[show EM (.int i)=J' from rfl]at a
  refine Zp rfl ?_
  show Nx [#v[L],‹i›]=_
  unfold KZ
  rwa[Nx,a,Kc,show Lm (.int 0) (.int i)=Z (.bl (decide (0<=i)))from rfl]
  cases decide (0<=i)with
  |true=>rwa[show Zt [.lst L]=Z (.int L.length)from rfl,show F4 (.int i) (.int L.length)=Z (.bl (decide (i<(L.length:Int))))from rfl,B9,LN]
  |false=>rwa[B9,Bool.false_and]
 |_=>
  refine Zp rfl ?_
  show Nx [#v[L],.val _]=_
  rwa[Nx,show F6 [.val _]=Z (.val (.bl O'))from a,B9,KZ]
theorem hU{n k:Nat}(h:k<n):KZ n (.int k)=J':=by
 unfold KZ
 simp;exact Nat.lt_of_succ_le h
def GR:D->Bool
 |.non=>J'
 |d=>E9 d
theorem xL(d:D)(hd:Sm d):P5 [.val d]=Z (.bl (GR d)):=by
 have h:=Vd d hd
 cases d with
 |non=>rfl
 |_=>rwa[P5,Dc,h,B9,GR];rfl
section
variable{L:AX}{ls:Bv}{p k:Nat}{x y z d:D}{zs:U D}
theorem VN(W:U D)(a:Ca [d,.ty "tuple"]=Z (.bl O')):FY [#v[W],.val d]=Z (.val (.bl O')):=by
 refine Zp rfl ?_
 show GI [#v[W],.val d]=_
 rwa[GI,L1,L0,a,D7]
theorem hV(W:U D)(b:zs.length≠3):FY [#v[W],.val (.tup zs)]=Z (.val (.bl O')):=by
 have a:Cp (.int zs.length) (.int 3)=Z (.bl J'):=by
  have:¬ (zs.length:Int)=3:=by lia
  simp[this]
 refine Zp rfl ?_
 show GI [#v[W],.val (.tup zs)]=_
 rwa[GI,L1,L0,show Ca [.tup zs,.ty "tuple"]=Z (.bl J')from rfl,show Zt [.tup zs]=Z (.int zs.length)from rfl,a,D7]
theorem QZ(W:U D)(b:Sm x)(c:KZ W.length x=O'):FY [#v[W],.val (.tup [x,y,z])]=Z (.val (.bl O')):=by
 have a:=VM W x b
 rw[c]at a
 refine Zp rfl ?_
 show GI [#v[W],.val (.tup [x,y,z])]=_
 rwa[GI,L1,L0,show Ca [.tup [x,y,z],.ty "tuple"]=Z (.bl J')from rfl,show Zt [.tup [x,y,z]]=Z (.int 3)from rfl,show Cp (.int 3) (.int 3)=Z (.bl O')from rfl,D7,P8,P6,show Ap (.tup [x,y,z]) (.int 0)=Z x from rfl,a]
theorem Q0(h:L[k]?=Z ls):Ap (.lst (L.map LD)) (.int k)=Z (LD ls):=Z3 (by rw[DQ,h];rfl)
variable(hL:L[k]?=Z ls)(hg:GL ls p)(sy:Sm y)
include hL hg sy
theorem Og(c:DN (wh ls) y=O'):FY [#v[L.map LD],.val (.tup [.int k,y,z])]=Z (.val (.bl O')):=by
 have a:=VM (L.map LD) (.int k) trivial
 rw[hU (by simpa using(Cm.mp hL).1)]at a
 have b:=VC hg y sy
 have d:=Q0 hL
 rw[c]at b
 refine Zp rfl ?_
 generalize L.map LD=W,LD ls=A at *
 show GI [#v[W],.val (.tup [.int k,y,z])]=_
 rwa[GI,L1,L0,show Ca [.tup [.int k,y,z],.ty "tuple"]=Z (.bl J')from rfl,show Zt [.tup [.int k,y,z]]=Z (.int 3)from rfl,show Cp (.int 3) (.int 3)=Z (.bl O')from rfl,D7,P8,P6,show Ap (.tup [.int k,y,z]) (.int 0)=Z (.int k)from rfl,show Ap (.tup [.int k,y,z]) (.int 1)=Z y from rfl,a,d,b]
theorem hW(c:DN (wh ls) y=J'){r:Rv}(d:NC [#v[L.map LD],.val (.tup [.int k,y,z])]=.ret r):FY [#v[L.map LD],.val (.tup [.int k,y,z])]=Z r:=by
 have a:=VM (L.map LD) (.int k) trivial
 rw[hU (by simpa using(Cm.mp hL).1)]at a
 have b:=VC hg y sy
 have e:=Q0 hL
 rw[c]at b
 refine Zp rfl ?_
 generalize L.map LD=W,LD ls=A at *
 show GI [#v[W],.val (.tup [.int k,y,z])]=_
 rwa[GI,L1,L0,show Ca [.tup [.int k,y,z],.ty "tuple"]=Z (.bl J')from rfl,show Zt [.tup [.int k,y,z]]=Z (.int 3)from rfl,show Cp (.int 3) (.int 3)=Z (.bl O')from rfl,D7,P8,P6,show Ap (.tup [.int k,y,z]) (.int 0)=Z (.int k)from rfl,show Ap (.tup [.int k,y,z]) (.int 1)=Z y from rfl,a,e,b,d]
theorem hX(a:DN (wh ls) y=J')(b:Ca [z,.tup [.ty "list",.ty "tuple"]]=Z (.bl O')):FY [#v[L.map LD],.val (.tup [.int k,y,z])]=Z (.val (.bl O')):=by
 refine hW hL hg sy a ?_
 rwa[NC,P7,show Ap (.tup [.int k,y,z]) (.int 2)=Z z from rfl,b,D7]
theorem Q1(g:DN (wh ls) y=J')(hz:z=.lst zs\/z=.tup zs)(h:∀d∈zs,Sm d)(i:zs.length<=1000):FY [#v[L.map LD],.val (.tup [.int k,y,z])]=Z (.val (.bl (zs.all GR))):=by
 have a:=Zx (b:=Zc 0) (e:=P5) (ρ:=[.no]) (λd=>d) (λd=>D.bl (GR d)) zs λd hd=>#[[.val d],rfl,xL d (h d hd)]
 rw[List.map_id',show zs.map (λd=>D.bl (GR d))=(zs.map GR).map D.bl by rw[BS];rfl]at a
 have q:=Zk zs (by lia)
 have f:Dq [.lst ((zs.map GR).map D.bl)]=Z (.bl (zs.all GR)):=by
  erw[Dq,QT,Em,J9];rfl
 refine hW hL hg sy g ?_
 rcases hz with rfl|rfl
 ·rwa[NC,P7,show Ap (.tup [.int k,y,.lst zs]) (.int 2)=Z (.lst zs)from rfl,show Ca [.lst zs,.tup [.ty "list",.ty "tuple"]]=Z (.bl J')from rfl,D7,TX,TW,Zi,q,show ∀c,Zn 1 [] c=[.no]from λ_=>rfl,a,f]
 ·rwa[NC,P7,show Ap (.tup [.int k,y,.tup zs]) (.int 2)=Z (.tup zs)from rfl,show Ca [.tup zs,.tup [.ty "list",.ty "tuple"]]=Z (.bl J')from rfl,D7,TX,TW,Zi,q,show ∀c,Zn 1 [] c=[.no]from λ_=>rfl,a,f]
end
theorem hY(W:U D)(zs:U D)(v:D->Bool)(c:∀d∈zs,FY [#v[W],.val d]=Z (.val (.bl (v d))))(g:zs.length<=1000):GJ [#v[W],#v[zs]]=Z (.val (.bl (zs.all v))):=by
 have a:=Zx (b:=Zc 0) (e:=Ud) (ρ:=[.no,#v[W]]) (λd=>d) (λd=>D.bl (v d)) zs λd hd=>#[[.val d,#v[W]],rfl,by rwa[Ud,c d hd]]
 rw[List.map_id',show zs.map (λd=>D.bl (v d))=(zs.map v).map D.bl by rw[BS];rfl]at a
 have f:Dq [.lst ((zs.map v).map D.bl)]=Z (.bl (zs.all v)):=by
  erw[Dq,QT,Em,J9];rfl
 refine Zp rfl ?_
 show NI [#v[W],#v[zs]]=_
 rwa[NI,show Ca [.lst zs,.ty "list"]=Z (.bl J')from rfl,Zi,Zk zs (by lia),show Zn 1 [0] [#v[W],#v[zs]]=[.no,#v[W]]from rfl,a,f,B9]
theorem hZ(W:U D)(d:D)(a:Ca [d,.ty "list"]=Z (.bl O')):GJ [#v[W],.val d]=Z (.val (.bl O')):=by
 refine Zp rfl ?_
 show NI [#v[W],.val d]=_
 rwa[NI,a,B9]
theorem xM(c:U At)(d:c.length<64):∃f:U At,NM [#v[c.map aD]]=Z (.own (f.map aD))/\f.length<64/\∀a,a∈f↔a∈c:=by
 have m:=Zx (b:=Zc 0) (e:=Ug) (ρ:=[.no]) aD (λa=>Aj [a]) c λa _=>#[[.val (aD a)],rfl,rfl]
 rw[show c.map (λa=>Aj [a])=(c.map λa=>[a]).map Aj by rw[BS];rfl]at m
 have p:=N9 #v[(c.map λa=>[a]).map Aj] (c.map λa=>[a]) (.inl rfl) (by simpa using d) λl d=>by
  obtain⟨a,_,rfl⟩:=Be.mp d
  exact#[by simp,by simp]
 have g:∀k,k∈CN J (Zz Bi (c.map λa=>[a]))↔∃a∈c,[a]=k:=λk=>by
  rw[Vv,(ZA Bi _).mem_iff,Be]
 have i:(CN J (Zz Bi (c.map λa=>[a]))).length<64:=Gr (N7 _ _) (by rw[(ZA Bi _).length_eq,Bh];exact d)
 generalize CN J (Zz Bi (c.map λa=>[a]))=o at *
 have n:=Zx (b:=Zc 0) (e:=Uh) (ρ:=[.no]) Aj (λk=>aD (hd k)) o λk j=>#[[.val (Aj k)],rfl,by
  obtain⟨a,_,rfl⟩:=(g k).mp j
  rfl]
 rw[show o.map (λk=>aD (hd k))=(o.map hd).map aD by rw[BS];rfl]at n
 have q:=Zk (c.map aD) (by simp;lia)
 have r:=Zk (o.map Aj) (by simp;lia)
 refine#[o.map hd,?_,by simpa using i,λa=>#[λh=>?_,λh=>Be.mpr #[[a],(g _).mpr #[a,h,rfl],rfl]]]
 ·generalize c.map aD=M,(c.map λa=>[a]).map Aj=V,o.map Aj=W,(o.map hd).map aD=Y at *
  refine Zp rfl ?_
  show NL [#v[M]]=_
  rwa[NL,Zi,show Zn 1 [] [#v[M]]=[.no]from rfl,q,m,p,DZ,r,n,ZK]
 ·obtain⟨k,j,rfl⟩:=Be.mp h
  obtain⟨a,s,rfl⟩:=(g k).mp j
  exact s
abbrev Pk:=Nat×Nat×U At×Bool
def Iq(vs:U At):Bool->D
 |true=>.tup (vs.map aD)
 |false=>.lst (vs.map aD)
abbrev AW(q:Pk):D:=.tup [.int q.1,.int q.2.1,Iq q.2.2.1 q.2.2.2]
structure AK(kvs:A6)(n:Nat):Prop where
 at':∀p∈kvs,EG p.1=J'
 len:kvs.length<=n
theorem Q2:∀(es:U (At×D))(kvs:A6)(n:Nat),AK kvs n->n+es.length<=10000->∃b,EI kvs (es.map λe=>D.tup [aD e.1,e.2])=Z b/\AK b (n+es.length)/\∀a,Zo b (.at a)=((es.reverse.find? λe=>decide (e.1=a)).map (·.2)).or (Zo kvs (.at a))
 |[],kvs,n,h,_=>#[kvs,rfl,h,λa=>by simp]
 |e::es,kvs,n,h,d=>by
  erw[Ce]at d
  obtain⟨b,f,g,i⟩:=Q2 es (ZR kvs (.at e.1) e.2) (n+1) #[N8 h.at',BJ (O4 _ _ _) (Oz h.len)] (by lia)
  refine#[b,?_,by rw[Ce,Nat.add_comm es.length 1,<- Nat.add_assoc];exact g,λa=>?_]
  ·erw[A3,EI,F7,FO e.1 h.at',decide_eq_true (show kvs.length<AA from Gr h.len (BE (show n<100000 by lia) (by ext))),Ia,if_true,f]
  ·rw[i a,LB,List.reverse_cons,List.find?_append]
   cases es.reverse.find? λe=>decide (e.1=a)with
   |some x=>rfl
   |none=>by_cases c:e.1=a<;>simp[c]
theorem xN(W PS:U D)(k:Nat)(q:Pk)(H:q.2.2.1.length<=100)(i:Bv)(s:∀l∈i,l.length<=4)(hz:i.length<=1000)(o:Sl):∃(m:Bv)(n:Sl),NQ [#v[W],#v[PS],‹k›,#v[i.map Aj],.val (AW q),o]=.next [#v[W],#v[PS],‹k›,#v[m.map Aj],.val (AW q),n]/\m.Sublist i:=by
 obtain⟨a,j,g,b⟩:=q
 have p:Ap (AW (a,j,g,b)) (.int 0)=Z (.int a):=rfl
 have u:Ap (AW (a,j,g,b)) (.int 2)=Z (Iq g b):=rfl
 have eq:=Hq (a:Int) (k:Int)
 by_cases c:a=k
 ·rw[decide_eq_true (by rw[c])]at eq
  obtain⟨f,r,w,y⟩:=Q2 (g.map λv=>(v,.bl J')) [] 0 #[λ_ h=>(nomatch h),A5 _] (by simp;lia)
  rw[BS]at r
  have x:=KU (b:=Zc 0) (t:=Ur) (e:=dj) (ρ:=[.no,.val (AW (a,j,g,b)),.lent (Zb f) .d]) Aj Aj (λl=>(Zo f (.at (l.getD j .non))).isSome) i λl z=>#[[.val (Aj l),.val (AW (a,j,g,b)),.lent (Zb f) .d],rfl,by
   have A:=Jx l j (by have:=s l z;lia)
   have B:C4 O' (aD (l.getD j .non)) (.lst (Zb f) .d)=Z (.bl (Zo f (.at (l.getD j .non))).isSome):=by
    rw[Kg,F7]
    rwa[FO _ w.at']
    rw[Bool.false_bne]
   exact#[by rwa[Ur,show Ap (AW (a,j,g,b)) (.int 1)=Z (.int j)from rfl,A,B],rfl]]
  have C:=Zk (g.map aD) (by simp;lia)
  have E:=Zk (i.map Aj) (by simp;lia)
  refine#[i.filter λl=>(Zo f (.at (l.getD j .non))).isSome,.own (Zb f) .d,?_,List.filter_sublist]
  generalize AW (a,j,g,b)=Q at *
  cases b<;>rwa[NQ,p,eq,u,Iq,E6,Zi,C,show ∀G,Zn 1 [] G=[.no]from λ_=>rfl,Zx (b:=Zc 0) (e:=Uq) (ρ:=[.no]) aD (λv=>D.tup [aD v,.bl J']) g λv _=>#[[.val (aD v)],rfl,by rwa[Uq]],show EI [] (g.map λv=>D.tup [aD v,.bl J'])=Z f from r,Ee,show Zn 1 [4,5] [#v[W],#v[PS],‹k›,#v[i.map Aj],.val Q,.own (Zb f) .d]=[.no,.val Q,.lent (Zb f) .d]from rfl,E,x]
 ·rw[decide_eq_false (by lia)]at eq
  refine#[i,o,?_,List.Sublist.refl _]
  rwa[NQ,p,eq]
theorem h7(W PS:U D)(k:Nat):∀(d:U Pk)(a:Bv)(e b:Sl),(∀q∈d,q.2.2.1.length<=100)->(∀l∈a,l.length<=4)->a.length<=1000->∃(c:Bv)(f g:Sl),ZB (Zc 4) NQ (d.map AW) [#v[W],#v[PS],‹k›,#v[a.map Aj],e,b]=.next [#v[W],#v[PS],‹k›,#v[c.map Aj],f,g]/\c.Sublist a
 |[],a,e,b,_,_,_=>#[a,e,b,rfl,List.Sublist.refl _]
 |q::d,a,e,b,i,j,m=>by
  obtain⟨n,o,p,h⟩:=xN W PS k q (i q Bk) a j m b
  obtain⟨r,s,t,u,w⟩:=h7 W PS k d n (.val (AW q)) o (λx y=>i x (Bu _ y)) (λl z=>j l (h.mem z)) (BJ h.length_le m)
  refine#[r,s,t,?_,w.trans h]
  rwa[A3,ZB,Zc,p]
  exact u
theorem xO{L:AX}(h:BI L){k:Nat}{i:Bv}(n:L[k]?=Z i)(g:U Pk)(r:∀q∈g,q.2.2.1.length<=100):∃d:U At,Qn [#v[L.map LD],#v[g.map AW],‹k›]=Z (.own (d.map aD))/\d.length<64/\∀a∈d,a∈i.map hd:=by
 obtain⟨p,j⟩:=h.good i (GY n)
 have n6:=j.n6
 obtain⟨f,A,B,e,m⟩:=h7 (L.map LD) (g.map AW) k g i .no .no r (λl c=>j.len l c ▸ j.p4) (by lia)
 have s:=m.length_le
 obtain⟨d,t,c,u⟩:=xM (f.map hd) (by rw[Bh];lia)
 refine#[d,?_,c,λa w=>?_]
 ·have o:=Zx (b:=Zc 0) (e:=Us) (ρ:=[.no]) Aj (λl=>aD (hd l)) f λl c=>#[[.val (Aj l)],rfl,by
   have:=KW (j.ln l (m.mem c))
   rwa[Us,this]]
  rw[show f.map (λl=>aD (hd l))=(f.map hd).map aD by rw[BS];rfl]at o
  have x:=Zk (f.map Aj) (by simp;lia)
  have y:=Q0 n
  refine Zp rfl ?_
  generalize L.map LD=W,(f.map hd).map aD=V,d.map aD=E,g.map AW=PS at *
  show Ut [#v[W],#v[PS],‹k›,.no,.no,.no]=_
  rwa[Ut,y,Cu,LD,e,Dz,Zi,x,show ∀z,Zn 1 [] z=[.no]from λ_=>rfl,o,t,HL,ZK]
 ·obtain⟨l,c,rfl⟩:=Be.mp ((u a).mp w)
  exact QN (m.mem c)
theorem xQ{P:Nat->U At->Prop}{n:Nat}(h:∀k,k<n->∃x,P k x):∃f:Nat->U At,∀k,k<n->P k (f k):=
 #[λk=>if a:k<n then Classical.choose (h k a)else [],λk b=>by show P k (if a:k<n then _ else _);rw[dif_pos b];exact Classical.choose_spec (h k b)]
abbrev BW(a:U At):D:=.lst (a.map aD)
structure Ch(L:AX)(f:Nat->List At):Prop where
 len:∀k,k<L.length->(f k).length<64
 mem:∀k ls,L[k]?=Z ls->∀a∈f k,a∈ls.map hd
theorem h8{L:AX}(h:BI L)(c:U Pk)(o:∀q∈c,q.2.2.1.length<=100):∃f,Ch L f/\Qr [#v[L.map LD],#v[c.map AW]]=Z (.own ((Bf L.length).map λk=>BW (f k))):=by
 obtain⟨f,l⟩:=xQ (n:=L.length) (P:=λk g=>Qn [#v[L.map LD],#v[c.map AW],‹k›]=Z (.own (g.map aD))/\g.length<64/\∀a∈g,∀i,L[k]?=Z i->a∈i.map hd) λk d=>by
  obtain⟨g,e,p,r⟩:=xO h (B8 d) c o
  exact#[g,e,p,λa m i j=>by rw[B8 d]at j;cases j;exact r a m]
 refine#[f,#[λk d=>(l k d).2.1,λk i j a m=>(l k (Cm.mp j).1).2.2 a m i j],?_]
 have w:=h.n4
 have s:=Zx (b:=Zc 0) (e:=UA) (ρ:=[.no,#v[L.map LD],#v[c.map AW]]) (λk:Nat=>D.int k) (λk=>BW (f k)) (Bf L.length) λk d=>#[[‹k›,#v[L.map LD],#v[c.map AW]],rfl,by
  rwa[UA,(l k (ET.mp d)).1,DZ]]
 have t:=Zk ((Bf L.length).map λk:Nat=>D.int k) (by simp;lia)
 have u:Zt [.lst (L.map LD)]=Z (.int L.length):=by simp
 refine Zp rfl ?_
 generalize L.map LD=W,c.map AW=PS,(Bf L.length).map (λk=>BW (f k))=V at *
 show UB [#v[W],#v[PS]]=_
 rwa[UB,Zi,u,Hn L.length (by lia),t,show Zn 1 [0,1] [#v[W],#v[PS]]=[.no,#v[W],#v[PS]]from rfl,s,ZK]
structure Ask(ls:Bv)(kvs:A6)(n:Nat):Prop extends AK kvs n where
 has:∀l∈ls,∃d,Zo kvs (.at (hd l))=Z d/\AT 12 d=J'
def Mc:D:=.tup [.str "out",.non]
theorem ie(b:Bool)(a:At)(d:U At):DC b (aD a) (BW d)=Z (.bl (b != decide (a∈d))):=by
 have f:(d.map aD).all (AT 12)=J':=by simp[KG]
 have g:G5 (aD a) (d.map aD)=decide (a∈d):=by
  unfold G5
  induction d with
  |nil=>rfl
  |cons b d h=>
   rw[A3,List.any_cons,h (by simp[KG]),Vf]
   by_cases c:b=a
   ·subst c;simp
   ·have:¬ a=b:=λe=>c e.symm
    simp[c,this]
 erw[DC,Hm,KG,f,g,Ia,if_true]
 cases b<;>cases decide (a∈d)<;>rfl
theorem ig(a:At)(b:U At):DC O' (aD a) (BW b)=Z (.bl (decide (a∈b))):=by rw[ie,Bool.false_bne]
theorem xR{f:Bv}{p:Nat}(i:GL f p){l:U At}(k:l∈f)(A:D)(j:Nat)(b:U At)(r:b.length<64){n:Nat}(h:Ask f kvs n)(s:n<=1000):∃a,Ask f a (n+1)/\LX [.val A,‹j›,.val (BW b),.own (Zb kvs) .d,.val (Aj l)]=.next [.val A,‹j›,.val (BW b),.own (Zb a) .d,.val (Aj l)]:=by
 have m:=KW (i.ln l k)
 have g:DC O' (aD (hd l)) (BW b)=Z (.bl (decide (hd l∈b))):=ig _ _
 by_cases c:hd l∈b
 ·rw[decide_eq_true c]at g
  have o:=Jx l j (by rw[i.len l k];have:=i.p4;lia)
  refine#[ZR kvs (.at (hd l)) (.tup [.str "in",aD (l.getD j .non)]),#[#[N8 h.at',BJ (O4 _ _ _) (Oz h.len)],λx q=>?_],?_]
  ·rw[LB]
   by_cases e:hd l=hd x
   ·rw[e,if_pos rfl];exact#[_,rfl,by show(AT 11 (D.str "in")&&(AT 11 (aD (l.getD j .non))&&J'))=J';rw[KG];rfl]
   ·rw[if_neg (by simpa using e)];exact h.has x q
  ·generalize Aj l=X,BW b=C at *
   rwa[LX,m,g,o,GC,E2,E5,F7,FO _ h.at',decide_eq_true (show kvs.length<AA from Gr h.len (BE (show n<100000 by lia) (by ext)))]
 ·rw[decide_eq_false c]at g
  refine#[kvs,#[#[h.at',Ni h.len],h.has],?_]
  rwa[LX,m,g]
theorem ii{e:Bv}{p:Nat}(i:GL e p)(A:D)(j:Nat)(c:U At)(k:c.length<64):∀(b:Bv)(kvs:A6)(n:Nat)(f:Sl),(∀l∈b,l∈e)->Ask e kvs n->n+b.length<=1000->∃a g,Ask e a (n+b.length)/\ZB (Zc 4) LX (b.map Aj) [.val A,‹j›,.val (BW c),.own (Zb kvs) .d,f]=.next [.val A,‹j›,.val (BW c),.own (Zb a) .d,g]
 |[],kvs,n,f,_,h,_=>#[kvs,f,h,rfl]
 |l::b,kvs,n,f,m,h,o=>by
  erw[Ce]at o
  obtain⟨q,r,s⟩:=xR i (m l Bk) A j c k h (by lia)
  obtain⟨t,u,v,w⟩:=ii i A j c k b q (n+1) (.val (Aj l)) (λx y=>m x (Bu _ y)) r (by lia)
  refine#[t,u,by rw[Ce,Nat.add_comm b.length 1,<- Nat.add_assoc];exact v,?_]
  rwa[A3,ZB,Zc,s]
  exact w
theorem xS{a:Bv}{p:Nat}(f:GL a p)(j:Nat)(c:U At)(q:c.length<64):∃kvs,Ask a kvs 1000/\PV [.val (LD a),‹j›,.val (BW c)]=Z (.own (Zb kvs) .d):=by
 have n6:=f.n6
 have r:=Zx (b:=Zc 0) (e:=Tu) (ρ:=[.no]) Aj (λl=>D.tup [aD (hd l),Mc]) a λl g=>#[[.val (Aj l)],rfl,by
  have:=KW (f.ln l g)
  rwa[Tu,this,Mc]]
 obtain⟨kvs,m,n,s⟩:=Q2 (a.map λl=>(hd l,Mc)) [] 0 #[λ_ h=>(nomatch h),A5 _] (by simp;lia)
 rw[BS]at m
 have t:Ask a kvs a.length:=#[#[n.at',by simpa using n.len],λl g=>#[Mc,?_,rfl]]
 ·obtain⟨o,u,i,k⟩:=ii f (LD a) j c q a kvs a.length .no (λ_ h=>h) t (by lia)
  refine#[o,#[#[i.at',BJ i.len (by lia)],i.has],?_]
  have w:=Zk (a.map Aj) (by simp;lia)
  refine Zp rfl ?_
  show Tv [#v[a.map Aj],‹j›,.val (BW c),.no,.no]=_
  have k:ZB (Zc 4) LX (a.map Aj) [#v[a.map Aj],‹j›,.val (BW c),.own (Zb kvs) .d,.no]=.next [#v[a.map Aj],‹j›,.val (BW c),.own (Zb o) .d,u]:=k
  rwa[Tv,E6,Zi,w,show ∀y,Zn 1 [] y=[.no]from λ_=>rfl,r,show EI [] (a.map λl=>D.tup [aD (hd l),Mc])=Z kvs from m,Ee,Cu,k,E2,G4]
 ·rw[s,<- List.map_reverse,List.find?_map]
  cases z:a.reverse.find? ((λe=>decide (e.1=hd l))∘λl=>(hd l,Mc))with
  |some x=>rfl
  |none=>have:=List.find?_eq_none.mp z l (by simpa using g);simp at this
theorem ij{d e:D}(a:AT 12 d=J')(b:AT 12 e=J'):Cp d e=Z (.bl (!AG d e)):=by
 erw[Cp,Hm,a,b,Ia,if_true]
def VO(b:Bv)(m:Nat)(c:A6):Prop:=∀a v,Zo c (.at a)=Z v->∃x∈b,v=aD (hd x)/\(m=0->a=hd x)
theorem ik{l:U At}:l.getD 0 .non=hd l:=by cases l<;>rfl
theorem xT{k:Bv}{p:Nat}(B:GL k p){l:U At}(s:l∈k)(A C:D)(m j:Nat){b:A6}{n q:Nat}(h:Ask k kvs n)(f:AK b q)(Y:q<=1000)(E:VO k m b)(M:Sl):
  (m≠0/\∃x y:At,Z6 [.val A,‹m›,‹j›,.val C,.val (.lst (Zb kvs) .d),.own (Zb b) .d,.val (Aj l),M]=.ret (.val (.tup [aD x,aD y]))) \/
  ∃i G,Z6 [.val A,‹m›,‹j›,.val C,.val (.lst (Zb kvs) .d),.own (Zb b) .d,.val (Aj l),M]=.next [.val A,‹m›,‹j›,.val C,.val (.lst (Zb kvs) .d),.own (Zb i) .d,.val (Aj l),G]/\AK i (q+1)/\VO k m i:=by
 have H:=KW (B.ln l s)
 have R:=Jx l m (by rw[B.len l s];have:=B.p4;lia)
 have F:b.length<AA:=Gr f.len (BE (show q<100000 by lia) (by ext))
 have g:∀x∈k,∃d,C1 (.lst (Zb kvs) .d) (aD (hd x))=Z d/\AT 12 d=J':=λx L=>by
  obtain⟨d,e,o⟩:=h.has x L
  exact#[d,by rw[O3,F7];rwa[FO _ h.at',e],o]
 obtain⟨K,t,r⟩:=g l s
 cases u:Zo b (.at (l.getD m .non))with
 |some v=>
  obtain⟨x,L,rfl,Q⟩:=E _ _ u
  obtain⟨T,w,P⟩:=g x L
  have ne:=ij P r
  cases c:AG T K with
  |true=>
   rw[c]at ne
   refine .inr #[b,.val (aD (hd x)),?_,#[f.at',Ni f.len],E]
   rwa[Z6,HY,E2,R,H,E5,F7,FO _ f.at',decide_eq_true F,u,Nr,w,t,ne]
  |false=>
   rw[c]at ne
   refine .inl #[λz=>?_,hd x,hd l,?_]
   ·have N:=Q z
    rw[z,ik]at N
    rw[<- N,t]at w
    cases w
    rw[MR 12 _ r]at c
    cases c
   ·generalize Aj l=X at *
    rwa[Z6,HY,E2,R,H,E5,F7,FO _ f.at',decide_eq_true F,u,Nr,w,t,ne]
 |none=>
  have ne:=ij r r
  rw[MR 12 _ r]at ne
  refine .inr #[ZR b (.at (l.getD m .non)) (aD (hd l)),.val (aD (hd l)),?_,#[N8 f.at',BJ (O4 _ _ _) (Oz f.len)],λa v e=>?_]
  ·generalize Aj l=X at *
   rwa[Z6,HY,E2,R,H,E5,F7,FO _ f.at',decide_eq_true F,u,Nr,t,ne]
  ·rw[LB]at e
   by_cases c:KT.at (l.getD m .non)=.at a
   ·rw[if_pos c]at e
    cases e;cases c
    exact#[l,s,rfl,λz=>by rw[z,ik]]
   ·rw[if_neg c]at e;exact E a v e
theorem im{f:Bv}{p:Nat}(r:GL f p)(A C:D)(m j:Nat){kvs:A6}{n:Nat}(h:Ask f kvs n):∀(a:Bv)(b:A6)(q:Nat)(g c:Sl),(∀l∈a,l∈f)->AK b q->q+a.length<=1000->VO f m b ->
  (m≠0/\∃x y:At,ZB (Zc 6) Z6 (a.map Aj) [.val A,‹m›,‹j›,.val C,.val (.lst (Zb kvs) .d),.own (Zb b) .d,g,c]=.ret (.val (.tup [aD x,aD y]))) \/
  ∃ρ,ZB (Zc 6) Z6 (a.map Aj) [.val A,‹m›,‹j›,.val C,.val (.lst (Zb kvs) .d),.own (Zb b) .d,g,c]=.next ρ
 |[],b,q,g,c,_,_,_,_=>.inr #[_,rfl]
 |l::a,b,q,g,c,s,t,u,v=>by
  erw[Ce]at u
  rcases xT r (s l Bk) A C m j h t (by lia) v c with⟨w,x,y,e⟩|⟨i,z,e,k,o⟩
  ·exact .inl #[w,x,y,by rwa[A3,ZB,Zc,e]]
  ·rwa[A3,ZB,Zc,e]
   exact(im r A C m j h a i (q+1) (.val (Aj l)) z (λx B=>s x (Bu _ B)) k (by lia) o)
def io(m:Nat)(r:D):Prop:=r=.non\/m≠0/\∃x y:At,r=.tup [aD x,aD y]
theorem xU{b:Bv}{p:Nat}(i:GL b p)(m j:Nat)(c:U At)(o:c.length<64):∃r,P9 [.val (LD b),‹m›,‹j›,.val (BW c)]=Z (.val r)/\io m r:=by
 have n6:=i.n6
 obtain⟨f,q,k⟩:=xS i j c o
 have l:=im i (LD b) (BW c) m j q b [] 0 .no .no (λ_ h=>h) #[λ_ h=>(nomatch h),A5 _] (by lia) (λa v e=>nomatch e)
 have l:(m≠0/\∃x y:At,ZB (Zc 6) Z6 (b.map Aj) [#v[b.map Aj],‹m›,‹j›,.val (BW c),.val (.lst (Zb f) .d),.own [] .d,.no,.no]=.ret (.val (.tup [aD x,aD y])))\/∃n,ZB (Zc 6) Z6 (b.map Aj) [#v[b.map Aj],‹m›,‹j›,.val (BW c),.val (.lst (Zb f) .d),.own [] .d,.no,.no]=.next n:=l
 have k:PV [#v[b.map Aj],‹j›,.val (BW c)]=Z (.own (Zb f) .d):=k
 show ∃r,P9 [#v[b.map Aj],‹m›,‹j›,.val (BW c)]=Z (.val r)/\io m r
 generalize b.map Aj=M,BW c=C at *
 have g:∀r,ZB (Zc 6) Z6 M [#v[M],‹m›,‹j›,.val C,.val (.lst (Zb f) .d),.own [] .d,.no,.no]=r->TY [#v[M],‹m›,‹j›,.val C,.no,.no,.no,.no]=Ze r cQ:=λr e=>by
  rwa[TY,cU,cN,k,DZ,cT,cO,Ee,cR,cP,Cu,e]
 rcases l with⟨s,x,y,e⟩|⟨n,e⟩
 ·exact#[_,Zp rfl (g _ e),.inr #[s,x,y,rfl]]
 ·exact#[.non,Zp rfl (g _ e),.inl rfl]
theorem Q3{g:U Nat}{k:Nat}(h:k<g.length):Ap (AD g) (.int k)=Z (.int (g.getD k 0)):=Z3 (by simp[Ex,B8 h])
theorem ip{n k:Nat}(f:Nat->U At)(h:k<n):Ap (.lst ((Bf n).map λk=>BW (f k))) (.int k)=Z (BW (f k)):=Z3 (by simp[h])
section
variable{L:AX}(h:BI L){g e:U Nat}(hg:g.length=L.length)(he:e.length=L.length){f:Nat->U At}(hf:Ch L f)
include h hg he hf
theorem iq(W PS:D):∀(Ax pre:AX)(c d b:Sl),L=pre++Ax ->
  ((∃n∈g,n≠0)/\∃(k:Nat) (x y:At),ZB (ZW 2 (Zm (Zc 5) (Zm (Zc 6) ZU))) Jo (C3 pre.length (Ax.map LD)) [.val W,.val (AD g),.val (AD e),.val PS,#v[(Bf L.length).map λk=>BW (f k)],c,d,b]=.ret (.val (.tup [.int k,aD x,aD y]))) \/
  ∃ρ,ZB (ZW 2 (Zm (Zc 5) (Zm (Zc 6) ZU))) Jo (C3 pre.length (Ax.map LD)) [.val W,.val (AD g),.val (AD e),.val PS,#v[(Bf L.length).map λk=>BW (f k)],c,d,b]=.next ρ
 |[],pre,c,d,b,_=>.inr #[_,rfl]
 |a::Ax,pre,c,d,b,i=>by
  have j:pre.length<L.length:=by rw[i];simp
  have t:L[pre.length]?=Z a:=by rw[i];simp
  obtain⟨p,u⟩:=h.good a (GY t)
  obtain⟨r,l,w⟩:=xU u (g.getD pre.length 0) (e.getD pre.length 0) (f pre.length) (hf.len _ j)
  have m:=Q3 (g:=g) (k:=pre.length) (by lia)
  have i2:=Q3 (g:=e) (k:=pre.length) (by lia)
  have o:=ip f j
  have q:=iq W PS Ax (pre++[a]) ‹pre.length› (.val (LD a)) (.val r) (by rw[i];simp)
  rw[FG,Rz]at q
  rw[show C3 pre.length ((a::Ax).map LD)=.tup [.int pre.length,LD a]::C3 (pre.length+1) (Ax.map LD)from rfl]
  have s:∀A B C E F:Sl,ZW 2 (Zm (Zc 5) (Zm (Zc 6) ZU)) (.tup [.int pre.length,LD a]) [A,B,C,E,F,c,d,b]=Z [A,B,C,E,F,‹pre.length›,.val (LD a),b]:=λ_ _ _ _ _=>rfl
  generalize LD a=A,(Bf L.length).map (λk=>BW (f k))=V,BW (f pre.length)=G,AD g=H,AD e=E at *
  rcases w with rfl|⟨z,x,y,rfl⟩
  ·have st:Jo [.val W,.val H,.val E,.val PS,#v[V],‹pre.length›,.val A,b]=.next [.val W,.val H,.val E,.val PS,#v[V],‹pre.length›,.val A,.val .non]:=by
    rwa[Jo,m,i2,o,l,Dc,isN]
   erw[ZB,s,st]
   exact q
  ·refine .inl #[#[_,?_,z],pre.length,x,y,?_]
   ·rw[Ex,B8 (by lia)];exact FL _
   ·have st:Jo [.val W,.val H,.val E,.val PS,#v[V],‹pre.length›,.val A,b]=.ret (.val (.tup [.int pre.length,aD x,aD y])):=by
     rwa[Jo,m,i2,o,l,Dc,isN,show Ap (.tup [aD x,aD y]) (.int 0)=Z (aD x)from rfl,show Ap (.tup [aD x,aD y]) (.int 1)=Z (aD y)from rfl]
    erw[ZB,s,st]
end
theorem xV(a:U At):AT 12 (BW a)=J':=by
 simp[KG]
theorem xW{L:AX}(h:BI L){g e:U Nat}(j:g.length=L.length)(l:e.length=L.length)(c:U Pk)(m:∀q∈c,q.2.2.1.length<=100):∃r,Jp [#v[L.map LD],.val (AD g),.val (AD e),#v[c.map AW]]=Z (.val r)/\(r=.non\/(∃n∈g,n≠0)/\∃(k:Nat)(x y:At),r=.tup [.int k,aD x,aD y]):=by
 obtain⟨f,o,p⟩:=h8 h c m
 have s:=iq h j l o (.lst (L.map LD)) (.lst (c.map AW)) L [] .no .no .no rfl
 obtain⟨b,d⟩:∃b,DC O' (.lst []) (.lst ((Bf L.length).map λk=>BW (f k)))=Z (.bl b):=by
  exact#[G5 (.lst []) ((Bf L.length).map λk=>BW (f k)),by erw[DC,Hm,show((Bf L.length).map λk=>BW (f k)).all (AT 12)=J' by erw[J9,CZ];exact λ_ _=>xV _,show AT 12 (.lst [])=J' from rfl,Ia,if_true];rfl]
 generalize (Bf L.length).map (λk=>BW (f k))=V,L.map LD=W,c.map AW=PS,AD g=w,AD e=E at *
 have a:∀r,NT [#v[W],.val w,.val E,#v[PS],#v[V],.no,.no,.no]=r->UK [#v[W],.val w,.val E,#v[PS],.no,.no,.no,.no]=r:=λr e=>by
  rwa[UK,dy,dn,p,DZ,e]
 cases b with
 |true=>exact#[.non,Zp rfl (a _ (by rwa[NT,UJ,show Zd (Z ([]:U D))=Z []from rfl,d])),.inl rfl]
 |false=>
  have i:∀r,ZB (ZW 2 (Zm (Zc 5) (Zm (Zc 6) ZU))) Jo (C3 0 W) [#v[W],.val w,.val E,#v[PS],#v[V],.no,.no,.no]=r->NT [#v[W],.val w,.val E,#v[PS],#v[V],.no,.no,.no]=Ze r dt:=λr e=>by
   rwa[NT,UJ,show Zd (Z ([]:U D))=Z []from rfl,d,du,dr,Cu,H9,Z9,e]
  rcases s with⟨t,k,x,y,e⟩|⟨u,e⟩
  ·exact#[_,Zp rfl (a _ (i _ e)),.inr #[t,k,x,y,rfl]]
  ·exact#[.non,Zp rfl (a _ (i _ e)),.inl rfl]
structure Wy(kvs:A6):Prop extends AK kvs 1000 where
 to:∀a v,Zo kvs (.at a)=Z v->∃b,v=aD b
abbrev CD(kvs:A6):D:=.lst (Zb kvs) .d
theorem xX{c:Bv}{p:Nat}(i:GL c p)(m j:Nat)(f:U At):∃kvs,Wy kvs/\TC [.val (LD c),‹m›,‹j›,.val (BW f)]=Z (.own (Zb kvs) .d):=by
 have n6:=i.n6
 have s:=KU (b:=Zc 0) (t:=Tw) (e:=Tz) (ρ:=[.no,‹m›,‹j›,.val (BW f)]) Aj (λl=>D.tup [aD (l.getD m .non),aD (l.getD j .non)]) (λl=>decide (hd l∈f)) c λl o=>#[[.val (Aj l),‹m›,‹j›,.val (BW f)],rfl,by
  have g:l.length<=1000:=by rw[i.len l o];have:=i.p4;lia
  exact#[by rwa[Tw,KW (i.ln l o),ig],by rwa[Tz,Jx l m g,Jx l j g]]]
 have u:=VB (λl=>decide (hd l∈f)) c
 generalize c.filter (λl=>decide (hd l∈f))=k at *
 obtain⟨kvs,q,r,w⟩:=Q2 (k.map λl=>(l.getD m .non,aD (l.getD j .non))) [] 0 #[λ_ h=>(nomatch h),A5 _] (by simp;lia)
 rw[BS]at q
 refine#[kvs,#[#[r.at',BJ r.len (by simp;lia)],λa v e=>?_],?_]
 ·rw[w]at e
  cases n:(k.map λl=>(l.getD m .non,aD (l.getD j .non))).reverse.find? λe=>decide (e.1=a)with
  |none=>rw[n]at e;cases e
  |some x=>
   rw[n]at e
   have:=List.mem_of_find?_eq_some n
   rw[List.mem_reverse]at this
   obtain⟨l,_,rfl⟩:=Be.mp this
   cases e
   exact#[_,rfl]
 ·have y:=Zk (c.map Aj) (by simp;lia)
  refine Zp rfl ?_
  show TB [#v[c.map Aj],‹m›,‹j›,.val (BW f)]=_
  generalize c.map Aj=M,BW f=C at *
  rwa[TB,E6,Zi,y,show Zn 1 [1,2,3] [#v[M],‹m›,‹j›,.val C]=[.no,‹m›,‹j›,.val C]from rfl,s,show EI [] (k.map λl=>D.tup [aD (l.getD m .non),aD (l.getD j .non)])=Z kvs from q,G4]
theorem ir:∀(ws:U A6)(s:U At),(∀kvs∈ws,Wy kvs)->ZH (ZW 2 (Zm (Zc 0) (Zm (Zc 1) ZU))) (λ_=>Z J') Kw [.no,.no] (Dk (λx y=>D.tup [x,y]) (ws.map CD) (s.map aD))=Z ((Dk (λkvs a=>(Zo kvs (.at a)).isSome) ws s).map D.bl)
 |[],_,_=>by simp;rfl
 |_::_,[],_=>by simp;rfl
 |kvs::ws,a::s,h=>by
  have e:Kw [.val (CD kvs),.val (aD a)]=Z (.bl (Zo kvs (.at a)).isSome):=by
   have:C4 O' (aD a) (CD kvs)=Z (.bl (Zo kvs (.at a)).isSome):=by
    rw[Kg,F7]
    rwa[FO _ (h kvs Bk).at']
    rw[Bool.false_bne]
   rwa[Kw,this]
  rwa[Ob,ZH,show ZW 2 (Zm (Zc 0) (Zm (Zc 1) ZU)) (.tup [CD kvs,aD a]) [.no,.no]=Z [.val (CD kvs),.val (aD a)]from rfl,e,ir ws s λx b=>h x (Bu _ b)]
theorem iu(ws:U A6)(s:U At)(h:∀kvs∈ws,Wy kvs)(hz:ws.length<=4):Jj [#v[ws.map CD],.val (Aj s)]=Z (.val (.bl ((Dk (λkvs a=>(Zo kvs (.at a)).isSome) ws s).all id))):=by
 have b:=ir ws s h
 have c:=Zk (Dk (λx y=>D.tup [x,y]) (ws.map CD) (s.map aD)) (by simp;lia)
 have d:Dq [.lst ((Dk (λkvs a=>(Zo kvs (.at a)).isSome) ws s).map D.bl)]=Z (.bl ((Dk (λkvs a=>(Zo kvs (.at a)).isSome) ws s).all id)):=by
  erw[Dq,QT,Em]
 refine Zp rfl ?_
 unfold Aj
 generalize (Dk (λkvs a=>(Zo kvs (.at a)).isSome) ws s).map D.bl=B,s.map aD=S,ws.map CD=M at *
 show Nv [#v[M],.val (.tup S)]=_
 rwa[Nv,Zi,FV,Z9,show Zn 2 [] [#v[M],.val (.tup S)]=[.no,.no]from rfl,c,b,d]
theorem iv:∀(L:AX)(k:Nat),C3 k (L.map LD)=(Bf L.length).map λi:Nat=>D.tup [.int ((k+i:Nat):Int),LD (L.getD i [])]
 |[],_=>rfl
 |a::L,k=>by
  rw[A3,C3,iv L (k+1),Ce,List.range_succ_eq_map,A3,BS]
  exact congrArg (_::·) (List.map_congr_left λi _=>by erw[Function.comp,Nat.succ_eq_add_one,List.getD_cons_succ,Nat.add_assoc,Nat.add_comm 1 i])
theorem iw{L:AX}(h:BI L){g e:U Nat}(w:g.length=L.length)(x:e.length=L.length)(a:U Pk)(m:∀q∈a,q.2.2.1.length<=100):∃ws:U A6,Qu [#v[L.map LD],.val (AD g),.val (AD e),#v[a.map AW]]=Z (.own (ws.map CD))/\ws.length=L.length/\∀kvs∈ws,Wy kvs:=by
 obtain⟨f,y,n⟩:=h8 h a m
 have z:=h.n4
 obtain⟨ws,j,d,i⟩:=Vm (b:=ZW 2 (Zm (Zc 0) (Zm (Zc 1) ZU))) (e:=UN) (ρ:=[.no,.no,.val (AD g),.val (AD e),#v[(Bf L.length).map λk=>BW (f k)]]) (λk:Nat=>D.tup [.int k,LD (L.getD k [])]) CD Wy (Bf L.length) λk c=>by
  have c:=ET.mp c
  have d:L[k]?=Z (L.getD k []):=by simp[Ex,c]
  obtain⟨p,o⟩:=h.good _ (GY d)
  obtain⟨kvs,i,r⟩:=xX o (g.getD k 0) (e.getD k 0) (f k)
  have s:=Q3 (g:=g) (k:=k) (by lia)
  have i2:=Q3 (g:=e) (k:=k) (by lia)
  have t:=ip f c
  refine#[kvs,[‹k›,.val (LD (L.getD k [])),.val (AD g),.val (AD e),#v[(Bf L.length).map λk=>BW (f k)]],i,rfl,?_]
  rwa[UN,s,i2,t,r,DZ]
 refine#[ws,?_,by simpa using d,i]
 have l:C3 0 (L.map LD)=(Bf L.length).map λk:Nat=>D.tup [.int k,LD (L.getD k [])]:=by
  rw[iv];erw[Ik]
 have u:=Zk (C3 0 (L.map LD)) (by rw[l];simp;lia)
 rw[<- l]at j
 refine Zp rfl ?_
 generalize (Bf L.length).map (λk=>BW (f k))=V,L.map LD=W,a.map AW=PS,AD g=A,AD e=E at *
 show UO [#v[W],.val A,.val E,#v[PS],.no]=_
 rwa[UO,n,DZ,Zi,H9,Z9,show Zn 2 [1,2,4] [#v[W],.val A,.val E,#v[PS],#v[V]]=[.no,.no,.val A,.val E,#v[V]]from rfl,u,j,ZK]
theorem xY{L:AX}(h:BI L):Tt [#v[L.map LD]]=Z (.val (AD (L.map wh))):=by
 have l:=h.n4
 have c:=Zx (b:=Zc 0) (e:=Tr) (ρ:=[.no]) LD (λa=>D.int (wh a)) L λa d=>#[[.val (LD a)],rfl,by
  obtain⟨p,f⟩:=h.good a d
  rwa[Tr,gQ f]]
 have g:Dp [.lst (L.map λa=>D.int (wh a))]=Z (AD (L.map wh)):=by
  show Z (D.tup _)=Z (D.tup ((L.map wh).map λj:Nat=>D.int j))
  rw[BS];rfl
 have i:=Zk (L.map LD) (by simp;lia)
 refine Zp rfl ?_
 generalize L.map LD=W,L.map (λa=>D.int (wh a))=V,AD (L.map wh)=m at *
 show Ts [#v[W]]=_
 rwa[Ts,Zi,i,show ∀k,Zn 1 [] k=[.no]from λ_=>rfl,c,g]
abbrev Ht(a:U (U At×D)):U D:=a.map λe=>.tup [Aj e.1,e.2]
theorem xZ{L:AX}(h:BI L){g:U Nat}(k:g.length=L.length)(i:U Pk)(l:∀q∈i,q.2.2.1.length<=100)(d:U (U At×D))(hz:d.length<=1000):∃n:Nat,U1 [#v[L.map LD],#v[Ht d],.val (AD g),#v[i.map AW]]=Z ‹n›:=by
 obtain⟨f,m,u,o⟩:=iw h k (show(L.map wh).length=L.length by simp) i l
 have w:=h.n4
 have p:=xY h
 have j:=KU (b:=ZW 2 (Zm (Zc 0) (Zm (Zc 1) ZU))) (t:=UV) (e:=dQ) (ρ:=[.no,.no,#v[f.map CD]]) (λe:U At×D=>D.tup [Aj e.1,e.2]) (λe=>D.tup [Aj e.1,e.2]) (λe=>(Dk (λc a=>(Zo c (.at a)).isSome) f e.1).all id) d λe _=>#[[.val (Aj e.1),.val e.2,#v[f.map CD]],rfl,by
  have:=iu f e.1 o (by lia)
  exact#[by rwa[UV,this,D7],rfl]]
 rw[show d.map (λe=>D.tup [Aj e.1,e.2])=Ht d from rfl]at j
 refine#[((d.filter λe=>(Dk (λc a=>(Zo c (.at a)).isSome) f e.1).all id).map λe=>D.tup [Aj e.1,e.2]).length,?_]
 have r:=Zk (Ht d) (by simp;lia)
 have s:UX [#v[L.map LD],#v[Ht d],.val (AD g),#v[i.map AW]]=Z (.own ((d.filter λe=>(Dk (λc a=>(Zo c (.at a)).isSome) f e.1).all id).map λe=>D.tup [Aj e.1,e.2])):=by
  refine Zp rfl ?_
  generalize (d.filter λe=>(Dk (λc a=>(Zo c (.at a)).isSome) f e.1).all id).map (λe=>D.tup [Aj e.1,e.2])=Y,Ht d=T,f.map CD=V,L.map LD=W,i.map AW=PS,AD g=x,AD (L.map wh)=E at *
  show UW [#v[W],#v[T],.val x,#v[PS],.no]=_
  rwa[UW,p,m,DZ,Zi,r,show Zn 2 [4] [#v[W],#v[T],.val x,#v[PS],#v[V]]=[.no,.no,#v[V]]from rfl,j,ZK]
 refine Zp rfl ?_
 generalize (d.filter λe=>(Dk (λc a=>(Zo c (.at a)).isSome) f e.1).all id).map (λe=>D.tup [Aj e.1,e.2])=Y,Ht d=T,L.map LD=W,i.map AW=PS,AD g=x at *
 show U0 [#v[W],#v[T],.val x,#v[PS]]=_
 rwa[U0,s,DZ,show Zt [.lst Y]=Z (.int Y.length)from rfl]
theorem ix(k:U At)(p:Int×U Int):∀acc:U BV,Ew (acc.map (ZM vC)) (.tup k) (vC p)=(acc.map λe=>if e.1=k then(e.1,p)else e).map (ZM vC)
 |[]=>rfl
 |e::acc=>by
  rw[A3,Ew,ix k p acc,A3,A3]
  congr 1
  by_cases c:e.1=k
  ·rw[if_pos c,if_pos (show(ZM vC e).1=.tup k by rw[ZM,c])];rfl
  ·rw[if_neg c,if_neg (λz=>c (by simpa[ZM]using z))]
structure Tl(acc:List BV)(n m:Nat):Prop where
 nd:(Zu acc).Nodup
 len:acc.length<=m
 kl:∀k∈Zu acc,k.length=n
theorem iy{acc:U BV}{n m:Nat}(h:Tl acc n m){k:U At}(l:k.length=n)(p:Int×U Int):∃c,ZR (acc.map (ZM vC)) (.tup k) (vC p)=c.map (ZM vC)/\Tl c n (m+1):=by
 have i:=Jy vC k acc
 unfold ZR
 cases g:ZO acc k with
 |none=>
  rw[i,g]
  refine#[acc++[(k,p)],by simp[ZM],#[?_,by simpa using h.len,λx d=>?_]]
  ·rw[Zu,FN]
   exact Lv.mpr #[h.nd,by simp,λa o b j e=>by subst e;simp at j;subst j;exact(B3.mp g) o]
  ·rw[Zu,FN]at d
   rcases Dn.mp d with d|d
   ·exact h.kl x d
   ·simp at d;subst d;exact l
 |some q=>
  rw[i,g]
  have f:Zu (acc.map λe=>if e.1=k then(e.1,p)else e)=Zu acc:=by
   unfold Zu
   rw[BS]
   exact List.map_congr_left λe _=>by erw[Function.comp];split<;>rfl
  exact#[_,ix k p acc,#[f ▸ h.nd,by rw[Bh];exact Ni h.len,f ▸ h.kl]]
theorem iz:∀(ws:U A6)(s:U At),(∀kvs∈ws,Wy kvs)->ws.length=s.length->(Dk (λkvs a=>(Zo kvs (.at a)).isSome) ws s).all id=J'->∃bs:U At,ZH (ZW 2 (Zm (Zc 0) (Zm (Zc 1) ZU))) (λ_=>Z J') Z5 [.no,.no] (Dk (λx y=>D.tup [x,y]) (ws.map CD) (s.map aD))=Z (bs.map aD)/\bs.length=s.length
 |[],[],_,_,_=>#[[],rfl,rfl]
 |kvs::ws,a::s,h,f,c=>by
  rw[Ob,J8,Co]at c
  obtain⟨v,d⟩:=WG.mp c.1
  obtain⟨b,rfl⟩:=(h kvs Bk).to a v d
  obtain⟨bs,e,g⟩:=iz ws s (λx i=>h x (Bu _ i)) (by simpa using f) c.2
  refine#[b::bs,?_,by simp[g]]
  have j:Z5 [.val (CD kvs),.val (aD a)]=Z (aD b):=by
   have:C1 (CD kvs) (aD a)=Z (aD b):=by
    rw[O3,F7]
    rwa[FO _ (h kvs Bk).at',d]
   rwa[Z5,this]
  rwa[Ob,ZH,show ZW 2 (Zm (Zc 0) (Zm (Zc 1) ZU)) (.tup [CD kvs,aD a]) [.no,.no]=Z [.val (CD kvs),.val (aD a)]from rfl,j,e]
abbrev Ir(e:U At×Int×U Int):D:=.tup [Aj e.1,vC e.2]
theorem x9(ws:U A6)(B:∀kvs∈ws,Wy kvs)(hz:ws.length<=4)(o q:Sl){acc:U BV}{m:Nat}(h:Tl acc ws.length m)(F:m<=1000)(e:U At×Int×U Int)(r:e.1.length=ws.length):
  ∃b s,ZD [#v[ws.map CD],o,D6 vC acc,.val (Aj e.1),.val (vC e.2),q]=.next [#v[ws.map CD],o,D6 vC b,.val (Aj e.1),.val (vC e.2),s]/\Tl b ws.length (m+1):=by
 have f:=iu ws e.1 B hz
 cases c:(Dk (λkvs a=>(Zo kvs (.at a)).isSome) ws e.1).all id with
 |false=>
  rw[c]at f
  refine#[acc,q,?_,#[h.nd,Ni h.len,h.kl]]
  rwa[ZD,f,ZQ]
 |true=>
  rw[c]at f
  obtain⟨k,C,E⟩:=iz ws e.1 B r.symm c
  have G:=Zk (Dk (λx y=>D.tup [x,y]) (ws.map CD) (e.1.map aD)) (by simp;lia)
  have H:Dp [.lst (k.map aD)]=Z (Aj k):=rfl
  have j:=VA vC k acc
  have i:(acc.map (ZM vC)).length<AA:=by rw[Bh];exact Gr h.len (BE (show m<100000 by lia) (by ext))
  have l:=E5 (acc.map (ZM vC))
  have g:C4 O' (Aj k) (.lst (Zb (acc.map (ZM vC))) .d)=Z (.bl (ZO acc k).isSome):=by
   rw[Kg,F8 k]
   show(if Dh (.tup k) (acc.map (ZM vC))=J' then _ else _)=_
   rw[if_pos j,Jy vC k acc,Option.isSome_map]
   cases(ZO acc k).isSome<;>rfl
  have n:∀K,Zn 2 [] K=[.no,.no]:=λ_=>rfl
  have hok:=F8 k
  cases t:ZO acc k with
  |none=>
   rw[t]at g
   obtain⟨b,u,w⟩:=iy h (E.trans r) e.2
   refine#[b,.val (Aj k),?_,w]
   unfold D6
   rw[<- u]
   show ZD [#v[ws.map CD],o,_,.val (.tup (e.1.map aD)),_,q]=.next [_,_,_,.val (.tup (e.1.map aD)),_,_]
   have f:Jj [#v[ws.map CD],.val (.tup (e.1.map aD))]=Z (.val (.bl J')):=f
   rwa[ZD,f,ZQ,Zi,FV,Z9,n,G,C,H,g,Option.isSome,J4,GC,E2,l,hok,j,decide_eq_true i]
  |some p=>
   rw[t]at g
   obtain⟨b,u,w⟩:=iy h (E.trans r) (p.1,p.2++e.2.1::e.2.2)
   refine#[b,.val (Aj k),?_,w]
   have z:=QL vC t
   have A:LU [.val (vC p),.val (vC e.2)]=Z (.val (vC (p.1,p.2++e.2.1::e.2.2))):=ge p.1 e.2.1 p.2 e.2.2
   unfold D6
   rw[<- u]
   show ZD [#v[ws.map CD],o,_,.val (.tup (e.1.map aD)),_,q]=.next [_,_,_,.val (.tup (e.1.map aD)),_,_]
   have f:Jj [#v[ws.map CD],.val (.tup (e.1.map aD))]=Z (.val (.bl J')):=f
   rwa[ZD,f,ZQ,Zi,FV,Z9,n,G,C,H,g,Option.isSome,J4,z,A,GC,E2,l,hok,j,decide_eq_true i]
theorem iA(ws:U A6)(l:∀kvs∈ws,Wy kvs)(hz:ws.length<=4)(g:Sl):∀(b:U (U At×Int×U Int))(acc:U BV)(m:Nat)(d f c:Sl),(∀e∈b,e.1.length=ws.length)->Tl acc ws.length m->m+b.length<=1000 ->
  ∃a i j k,ZB (ZW 2 (Zm (Zc 3) (Zm (Zc 4) ZU))) ZD (b.map Ir) [#v[ws.map CD],g,D6 vC acc,d,f,c]=.next [#v[ws.map CD],g,D6 vC a,i,j,k]/\Tl a ws.length (m+b.length)
 |[],acc,m,d,f,c,_,h,_=>#[acc,d,f,c,rfl,h]
 |e::b,acc,m,d,f,c,n,h,o=>by
  erw[Ce]at o
  obtain⟨p,q,r,s⟩:=x9 ws l hz g c h (by lia) e (n e Bk)
  obtain⟨t,u,w,y,z,E⟩:=iA ws l hz g b p (m+1) (.val (Aj e.1)) (.val (vC e.2)) q (λx G=>n x (Bu _ G)) s (by lia)
  refine#[t,u,w,y,?_,by rw[Ce,Nat.add_comm b.length 1,<- Nat.add_assoc];exact E]
  erw[A3,ZB,show ∀A B C:Sl,ZW 2 (Zm (Zc 3) (Zm (Zc 4) ZU)) (Ir e) [A,B,C,d,f,c]=Z [A,B,C,.val (Aj e.1),.val (vC e.2),c]from λ_ _ _=>rfl,r]
  exact z
theorem ya(ws:U A6)(q:∀kvs∈ws,Wy kvs)(w:0<ws.length)(hz:ws.length<=4)(f:U (U At×Int×U Int))(r:∀e∈f,e.1.length=ws.length)(j:f.length<64):∃acc,NP [#v[ws.map CD],#v[f.map Ir]]=Z (.own (EQ acc)):=by
 obtain⟨acc,a,b,c,e,ok⟩:=iA ws q hz #v[f.map Ir] f [] 0 .no .no .no r #[by simp[Zu],A5 _,λ_ h=>(nomatch h)] (by lia)
 refine#[acc,?_]
 have i:(Zu acc).length<64:=by unfold Zu;rw[Bh];have:=ok.len;lia
 have m:=N9 #v[(Zu acc).map Aj] (Zu acc) (.inl rfl) i λl j=>by
  have:=ok.kl l j
  exact#[λz=>by rw[z]at this;simp at this;lia,by lia]
 rw[Vs _ _ ((ZA Bi _).nodup_iff.mpr ok.nd) (λ_ e=>by cases e),<- gz vC]at m
 have s:=Zx (b:=Zc 0) (e:=NN) (ρ:=[.no,.lent (Zb (acc.map (ZM vC))) .d]) Aj (λk=>.tup [Aj k,vC ((ZO acc k).getD (0,[]))]) (Zz Bi (Zu acc)) λk t=>#[[.val (Aj k),.lent (Zb (acc.map (ZM vC))) .d],rfl,by
  obtain⟨p,n⟩:=gy t
  rw[n]
  rwa[NN,QL vC n,Option.getD]]
 have u:=Zk ((Zz Bi (Zu acc)).map Aj) (by rw[Bh,(ZA _ _).length_eq];lia)
 have g:=SJ (acc.map (ZM vC))
 rw[show D6 vC []=.own [] .d from rfl]at e
 unfold D6 at e
 unfold EQ
 refine Zp rfl ?_
 generalize ws.map CD=L,f.map Ir=R,acc.map (ZM vC)=o,(Zz Bi (Zu acc)).map Aj=W,(Zz Bi (Zu acc)).map (λk=>D.tup [Aj k,vC ((ZO acc k).getD (0,[]))])=T at *
 show NO [#v[L],#v[R],.no,.no,.no,.no]=_
 rwa[NO,Ee,Cu,ZK,Zi,show ∀x y z,Zn 1 [2] [#v[L],#v[R],.own (Zb o) .d,x,y,z]=[.no,.lent (Zb o) .d]from λ_ _ _=>rfl,EE,e,g,m,DZ,u,s]
theorem yb(acc:U BV):EQ acc=((Zz Bi (Zu acc)).map λk=>(k,(ZO acc k).getD (0,[]))).map Ir:=by
 rw[BS];rfl
theorem yc{L:AX}(h:BI L){g e:U Nat}(f:g.length=L.length)(i:e.length=L.length)(b:U Pk)(j:∀q∈b,q.2.2.1.length<=100)(c:U (U At×Int×U Int))(k:∀x∈c,x.1.length=L.length)(l:c.length<64)(m:Jp [#v[L.map LD],.val (AD g),.val (AD e),#v[b.map AW]]=Z (.val .non)):∃acc,UU [#v[L.map LD],#v[c.map Ir],.val (AD g),.val (AD e),#v[b.map AW]]=Z (.own (EQ acc)):=by
 obtain⟨d,n,a,o⟩:=iw h f i b j
 obtain⟨acc,em⟩:=ya d o (a ▸ h.n1) (a ▸ h.n4) c (a ▸ k) l
 refine#[acc,?_]
 refine Zp rfl ?_
 generalize d.map CD=V,c.map Ir=R,L.map LD=W,b.map AW=PS,AD g=p,AD e=E,EQ acc=T at *
 show UT [#v[W],#v[R],.val p,.val E,#v[PS]]=_
 rwa[UT,m,Dc,isN,n,DZ,Dz,em,HL,ZK]
theorem ye:Fz.contains "kept"=O':=by decide +kernel
section
variable{L:AX}{rs:U Row}
theorem yg{R:U D}{ys:U D}(b:Fp Ft (gs.map AD)=Z ys):Te [.val (BD L R (Zb (AM L rs gs)))]=Z (.own ys):=by
 have c:=KY (L:=L) (R:=R) (T:=Zb (AM L rs gs))
 have e:LM (Z (.lst (Zb (AM L rs gs)) .d))=Z ys:=by
  show(Eh (Zb (AM L rs gs))).bind (λa=>Fp Ft (a.map λp=>kD p.1))=_
  rw[E5]
  show Fp Ft ((AM L rs gs).map λp=>kD p.1)=_
  rw[VH,b]
 generalize D.lst (Zb (AM L rs gs)) .d=TT,BD L R (Zb (AM L rs gs))=B at *
 refine Zp rfl ?_
 show Td [.val B]=_
 rwa[Td,c,e,ZK]
def Q5(L:AX)(e:U Nat)(a:U Pk)(gs:U (U Nat))(d:D):Prop:=d=.non\/∃g∈gs,∃n:Nat,d=.tup [AD g,.int n]/\Jp [#v[L.map LD],.val (AD g),.val (AD e),#v[a.map AW]]=Z (.val .non)
variable(h:BI L){G:Gh}{b t:Nat}(hb:G[b]?=Z (B5 L (rs.map Zj) t))(ht:G[t]?=Z (.dat .d (Zb (AM L rs gs))))(hr:∀r∈rs,Bc L r.1)(hrl:rs.length<64)(hgs:∀g∈gs,g.length=L.length)
include h hb ht hr hrl hgs
theorem yh{e:U Nat}(K:e.length=L.length)(a:U Pk)(F:∀q∈a,q.2.2.1.length<=100){g:U Nat}(f:g∈gs)(d:D)(hd:Q5 L e a gs d)(M:IV):
  ∃d' s,Kz ([.cel b,.val (AD e),#v[a.map AW],.val d,.val (AD g),M],G)=.next ([.cel b,.val (AD e),#v[a.map AW],.val d',.val (AD g),s],G)/\Q5 L e a gs d'/\(d≠.non->d'≠.non)/\((∀n∈g,n=0)->d'≠.non):=by
 obtain⟨r,i,t⟩:=xW h (hgs g f) K a F
 have l:=ER 2 (by ext) hb ht
 have m:=Hs (L:=L) (R:=rs.map Zj) (T:=Zb (AM L rs gs))
 rcases t with rfl|⟨⟨n,Q,P⟩,k,x,y,rfl⟩
 ·have u:=KY (L:=L) (R:=rs.map Zj) (T:=Zb (AM L rs gs))
  have o:=Oe L rs f
  obtain⟨j,w,Y⟩:∃j:U (U At×D),CP L g rs=Ht j/\j.length<=1000:=#[(Zz Bi (Zu (ES L g rs))).map λk=>(k,vC ((ZO (ES L g rs) k).getD (0,[]))),by show EQ _=_;rw[EQ,Ht,BS];rfl,by
   have:=(QY (hgs g f) hr).len
   rw[Bh,(ZA _ _).length_eq,Zu,Bh];lia]
  obtain⟨c,A⟩:=xZ h (hgs g f) a F j Y
  rw[w]at o
  have fn:Bt 2 (.tup [AD g,.int c])=J':=by
   show(Bt 2 (AD g)&&(Bt 2 (.int c)&&J'))=J'
   rw[show Bt 2 (AD g)=J' by rw[<- Ip];exact GQ 2 _];rfl
  rcases hd with rfl|⟨p,C,n,rfl,H⟩
  ·refine#[.tup [AD g,.int c],‹c›,?_,(.inr #[g,f,c,rfl,i]),λ_ z=>(nomatch z),λ_ z=>(nomatch z)]
   rwa[Kz,l,m,i,Dc,isN,u,o,A,fn]
  ·have lt:F4 (.int c) (.int n)=Z (.bl (decide ((c:Int)<n))):=rfl
   cases N:decide ((c:Int)<n)with
   |true=>
    rw[N]at lt
    refine#[.tup [AD g,.int c],‹c›,?_,(.inr #[g,f,c,rfl,i]),λ_ z=>(nomatch z),λ_ z=>(nomatch z)]
    generalize BD L (rs.map Zj) (Zb (AM L rs gs))=B,L.map LD=W,a.map AW=PS,AD g=S,AD e=E,Ht j=T,AD p=X at *
    rwa[Kz,l,m,i,Dc,isN,u,o,A,show Ap (.tup [X,.int n]) (.int 1)=Z (.int n)from rfl,lt,fn]
   |false=>
    rw[N]at lt
    refine#[.tup [AD p,.int n],‹c›,?_,(.inr #[p,C,n,rfl,H]),λ_ z=>(nomatch z),λ_ z=>(nomatch z)]
    generalize BD L (rs.map Zj) (Zb (AM L rs gs))=B,L.map LD=W,a.map AW=PS,AD g=S,AD e=E,Ht j=T,AD p=X at *
    rwa[Kz,l,m,i,Dc,isN,u,o,A,show Ap (.tup [X,.int n]) (.int 1)=Z (.int n)from rfl,lt]
 ·refine#[d,M,?_,hd,id,λz=>absurd (z n Q) P]
  rwa[Kz,l,m,i,Dc,isN]
theorem iB{e:U Nat}(m:e.length=L.length)(a:U Pk)(o:∀q∈a,q.2.2.1.length<=100):∀(c:U (U Nat))(d:D)(j f:IV),(∀g∈c,g∈gs)->Q5 L e a gs d->∃d' k l,GD 4 Kz (c.map AD) ([.cel b,.val (AD e),#v[a.map AW],.val d,j,f],G)=.next ([.cel b,.val (AD e),#v[a.map AW],.val d',k,l],G)/\Q5 L e a gs d'/\(d≠.non->d'≠.non)/\((∃g∈c,∀n∈g,n=0)->d'≠.non)
 |[],d,j,f,_,hd=>#[d,j,f,rfl,hd,id,λ⟨_,h,_⟩=>nomatch h]
 |g::c,d,j,f,p,hd=>by
  obtain⟨s,t,u,w,y,A⟩:=yh h hb ht hr hrl hgs m a o (p g Bk) d hd f
  obtain⟨B,C,E,H,K,r,F⟩:=iB m a o c s (.val (AD g)) t (λx i=>p x (Bu _ i)) w
  refine#[B,C,E,?_,K,λz=>r (y z),λ⟨x,i,z⟩=>?_]
  ·erw[A3,GD,Fv,E8,u]
   exact H
  ·rcases BK.mp i with rfl|i
   ·exact r (A z)
   ·exact F #[x,i,z]
theorem iC(k:gs.length<64)(hz:zg L∈gs){e:U Nat}(c:Hr L e)(a:U Pk)(m:∀q∈a,q.2.2.1.length<=100)(o:GJ [#v[L.map LD],#v[a.map AW]]=Z (.val (.bl J'))):∃g∈gs,∃n:Nat,NU [.cel b,.val (AD e),#v[a.map AW]] G=Z (.val (.tup [AD g,.int n]),G)/\Jp [#v[L.map LD],.val (AD g),.val (AD e),#v[a.map AW]]=Z (.val .non):=by
 have n1:=h.n1
 have p:=yg (L:=L) (rs:=rs) (R:=rs.map Zj) (g6 (gs:=gs) k λg f z=>by have:=hgs g f;rw[z]at this;simp at this;lia)
 have i:=ZA Fc gs
 obtain⟨d,F,M,r,hd,_,j⟩:=iB h hb ht hr hrl hgs c.1 a m (Zz Fc gs) .non .no .no (λg f=>i.mem_iff.mp f) (.inl rfl)
 rcases hd with rfl|⟨g,f,n,rfl,s⟩
 ·exact absurd rfl (j #[zg L,i.mem_iff.mpr hz,λn j=>by simp at j;exact j.2.symm])
 refine#[g,f,n,?_,s]
 have t:=Od h c
 have u:=ER 2 (by ext) hb ht
 have w:=ER 1 (by ext) hb ht
 have y:=Hs (L:=L) (R:=rs.map Zj) (T:=Zb (AM L rs gs))
 have A:Km "Book" "kept" (.val (BD L (rs.map Zj) (Zb (AM L rs gs))))=J':=by rwa[Km,ye]
 have C:Bt 1 (.lst ((Zz Fc gs).map AD))=J':=by
  show(!vk 1 .l&&C6 1 ((Zz Fc gs).map AD))=J'
  rw[FW λd hd=>by obtain⟨x,_,rfl⟩:=Be.mp hd;rw[<- Ip];exact GQ 1 _];rfl
 have H:LL (.lst ((Zz Fc gs).map AD))=Z ((Zz Fc gs).map AD):=rfl
 generalize BD L (rs.map Zj) (Zb (AM L rs gs))=B,L.map LD=W,a.map AW=PS,(Zz Fc gs).map AD=N,AD g=K,AD e=E at *
 suffices P:U4 ([.cel b,.val E,#v[PS],.no,.no,.no],G)=.ret (.val (.tup [K,.int n])) G from Eq.trans (fi rfl P) rfl
 rwa[U4,d9,dX,u,y,t,D7,d8,dY,o,d7,dZ,show Bt 2 .non=J' from rfl,d6,d3,w,Hc,A,p,DZ,C,H,Kp,r,d5,d4,DY]
end
theorem Q6:Fz.contains "plan"=O':=by decide +kernel
theorem iD:Fz.contains "answer"=O':=by decide +kernel
section
variable{L:AX}{R T:U D}{G:Gh}{b t:Nat}(hb:G[b]?=Z (B5 L R t))(ht:G[t]?=Z (.dat .d T))
include hb ht
theorem iE{x y:D}(a:Z0 [#v[L.map LD],.val x]=Z (.val (.bl O'))):Ig [.cel b,.val x,.val y] G=Z ("NoGrain":Ae):=by
 have c:=ER 2 (by ext) hb ht
 have d:=Hs (L:=L) (R:=R) (T:=T)
 show KA ([.cel b,.val x,.val y,.no,.no,.no],G)=_
 rwa[KA,c,d,a,D7,FP,show ∀s:Ae,Bt 2 (.str s)=J' from λ_=>rfl,Ks]
theorem yi{x y:D}(a:Z0 [#v[L.map LD],.val x]=Z (.val (.bl J')))(c:GJ [#v[L.map LD],.val y]=Z (.val (.bl O'))):Ig [.cel b,.val x,.val y] G=Z ("NoPick":Ae):=by
 have d:=ER 2 (by ext) hb ht
 have e:=Hs (L:=L) (R:=R) (T:=T)
 show KA ([.cel b,.val x,.val y,.no,.no,.no],G)=_
 rwa[KA,d,e,a,c,D7,FP,show ∀s:Ae,Bt 2 (.str s)=J' from λ_=>rfl,Ks]
theorem yj{x y:D}(a:Z0 [#v[L.map LD],.val x]=Z (.val (.bl J')))(c:GJ [#v[L.map LD],.val y]=Z (.val (.bl J'))):Ig [.cel b,.val x,.val y] G=J:=by
 have d:=ER 2 (by ext) hb ht
 have e:=Hs (L:=L) (R:=R) (T:=T)
 show KA ([.cel b,.val x,.val y,.no,.no,.no],G)=_
 rwa[KA,d,e,a,c,D7,FP]
omit ht in
theorem iF{x y:D}:U7 [.cel b,.val x,.val y] G=Ig [.cel b,.val x,.val y] G:=by
 show U6 ([.cel b,.val x,.val y,.no],G)=_
 rwa[U6,Hj,hb,show DD "Book" "plan" (B5 L R t)=J' by rwa[DD,Q6],(Cm.mp hb).1,and_self]
end
theorem yk{L:AX}{rs:U Row}(h:BI L){G:Gh}{b t:Nat}(i:G[b]?=Z (B5 L (rs.map Zj) t))(m:G[t]?=Z (.dat .d (Zb (AM L rs gs))))(o:∀r∈rs,Bc L r.1)(j:rs.length<64)(a:∀g∈gs,g.length=L.length)(u:gs.length<64)(hz:zg L∈gs){e:U Nat}(f:Hr L e)(c:U Pk)(p:∀q∈c,q.2.2.1.length<=100)(w:GJ [#v[L.map LD],#v[c.map AW]]=Z (.val (.bl J'))):∃acc,Qy [.cel b,.val (AD e),#v[c.map AW]] G=Z (#v[EQ acc],G):=by
 obtain⟨g,l,n,y,z⟩:=iC h i m o j a u hz f c p w
 have s:=Oe L rs l
 have ok:=QY (a g l) o
 rw[show CP L g rs=_ from yb (ES L g rs)]at s
 obtain⟨acc,A⟩:=yc h (a g l) f.1 c p ((Zz Bi (Zu (ES L g rs))).map λk=>(k,(ZO (ES L g rs) k).getD (0,[]))) (λx C=>by
  obtain⟨k,H,rfl⟩:=Be.mp C
  exact ok.kl k ((ZA _ _).mem_iff.mp H)) (by rw[Bh,(ZA _ _).length_eq,Zu,Bh];have:=ok.len;lia) z
 refine#[acc,?_]
 have Q:=ER 2 (by ext) i m
 have F:=Hs (L:=L) (R:=rs.map Zj) (T:=Zb (AM L rs gs))
 have M:=KY (L:=L) (R:=rs.map Zj) (T:=Zb (AM L rs gs))
 have N:C6 2 (EQ acc)=J':=FW λd hd=>by
  obtain⟨k,_,rfl⟩:=Be.mp hd
  show(Bt 2 (Aj k)&&(Bt 2 (vC _)&&J'))=J'
  rw[GQ];rfl
 generalize BD L (rs.map Zj) (Zb (AM L rs gs))=B,L.map LD=W,c.map AW=PS,AD g=P,AD e=E,EQ acc=Y,(((Zz Bi (Zu (ES L g rs))).map λk=>(k,(ZO (ES L g rs) k).getD (0,[]))).map Ir)=TT at *
 suffices K:U5 ([.cel b,.val E,#v[PS],.no],G)=.ret #v[Y] G from Eq.trans (fi rfl K) rfl
 rwa[U5,EL,i,show DD "Book" "plan" (B5 L (rs.map Zj) t)=J' by rwa[DD,Q6],(Cm.mp i).1,and_self,y,Ib,show Ap (.tup [P,.int n]) (.int 0)=Z P from rfl,Q,F,M,s,Dz,A,HL,jG,jL,N,xF,DY]
noncomputable def JJ(k:Nat):D:=.tup [.lst ((Bf 8).map λj=>.bl (decide (j=k))),.bl J']
def iG(k:Nat)(c:Ae):Prop:=(k=0/\c="NoGrain")\/(k=1/\c="NoPick")
section
variable{G:Gh}{b t:Nat}{w:Int}{x y:D}{L:AX}{R:U D}(hw:w=0\/w=1)(hb:G[b]?=Z (B5 L R t))
omit hw hb in
theorem ym(k:Nat)(c:Ae)(a:iG k c):ed ([.cel b,‹w›,.val x,.val y,.val .non,.exc c,.no],G)=.ret (.val (JJ k)) G:=by
 rcases a with⟨rfl,rfl⟩|⟨rfl,rfl⟩<;>rfl
include hw hb
theorem VP{k:Nat}{c:Ae}(d:iG k c)(e:Ig [.cel b,.val x,.val y] G=Z c):Z7 [.cel b,‹w›,.val x,.val y] G=Z (.val (JJ k),G):=by
 have a:CS.contains c=J':=by rcases d with⟨_,rfl⟩|⟨_,rfl⟩<;>decide +kernel
 have f:=ym (G:=G) (b:=b) (w:=w) (x:=x) (y:=y) k c d
 have g:=(Cm.mp hb).1
 have h:=iF hb (x:=x) (y:=y)
 rw[e]at h
 suffices i:Jq ([.cel b,‹w›,.val x,.val y,.no,.no,.no],G)=.ret (.val (JJ k)) G from Eq.trans (fi rfl i) rfl
 rcases hw with rfl|rfl
 ·rwa[Jq,L4,NX,show Bt 2 .non=J' from rfl,L3,NY,FP,Hj,hb,show DD "Book" "plan" (B5 L R t)=J' by rwa[DD,Q6],g,and_self,e,Kt,a,f,S5]
 ·rwa[Jq,L4,NX,show Bt 2 .non=J' from rfl,L3,NY,FP,Hj,hb,show DD "Book" "answer" (B5 L R t)=J' by rwa[DD,iD],g,and_self,h,Kt,a,f,S5]
theorem yn(a:Ig [.cel b,.val x,.val y] G=J){d e:D}(h:NU [.cel b,.val x,.val y] G=Z (.val d,G))(hd:isN d=O')(i:Qy [.cel b,.val x,.val y] G=Z (.val e,G))(j:isN e=O'):Z7 [.cel b,‹w›,.val x,.val y] G=Z (.val (.bl J'),G):=by
 have c:=(Cm.mp hb).1
 have f:=iF hb (x:=x) (y:=y)
 rw[a]at f
 suffices k:Jq ([.cel b,‹w›,.val x,.val y,.no,.no,.no],G)=.ret (.val (.bl J')) G from Eq.trans (fi rfl k) rfl
 have g:Bt 2 (.bl J')=J':=rfl
 rcases hw with rfl|rfl
 ·rwa[Jq,L4,NX,show Bt 2 .non=J' from rfl,L3,NY,FP,Hj,hb,show DD "Book" "plan" (B5 L R t)=J' by rwa[DD,Q6],c,and_self,a,Kt,EL,h,Qz,U8,Dc,hd,B9,g,DY]
 ·rwa[Jq,L4,NX,show Bt 2 .non=J' from rfl,L3,NY,FP,Hj,hb,show DD "Book" "answer" (B5 L R t)=J' by rwa[DD,iD],c,and_self,f,Kt,EL,i,Qz,U8,Dc,j,B9,g,DY]
end
def VG(a:At):Prop:=GR (aD a)=J'/\Sm (aD a)
theorem yo(l:U At)(j:Nat)(h:j<=l.length):Tg [.val (Aj l),‹j›]=Z (.val (aD (l.getD j .non))):=by
 have e:=Hq (j:Int) (l.length:Int)
 have a:Zt [Aj l]=Z (.int l.length):=by simp[Aj]
 refine Zp rfl ?_
 show PP [.val (Aj l),‹j›]=_
 by_cases c:j=l.length
 ·rw[decide_eq_true (by rw[c])]at e
  rw[show l.getD j .non=.non by simp[c,Ex]]
  rwa[PP,a,e,aD]
 ·rw[decide_eq_false (by lia)]at e
  rwa[PP,a,e,show Ap (Aj l) (.int j)=Z (aD (l.getD j .non))from Z3 (by simp[B8 (show j<l.length by lia),Ex])]
theorem VG.get{a:Bv}{p:Nat}(d:GL a p){l:U At}(f:l∈a)(j:Nat):VG (l.getD j .non):=by
 by_cases c:j<l.length
 ·rw[show l.getD j .non=l[j] by simp[Ex,c]]
  obtain⟨b,g,_⟩:=d.val l f _ (FL c)
  refine#[?_,g]
  cases e:aD l[j]with
  |non=>rfl
  |_=>rw[e]at b;exact b
 ·rw[show l.getD j .non=.non by simp[Ex,c]];exact#[rfl,trivial]
section
variable{ws:U Int}(hw:ws.length=24){k:Nat}(hk:k<3)
include hw hk
theorem wx(m:Nat)(a:m<8):∃w:Int,Ap (.lst (ws.map D.int)) (.int ((m:Int)+7*(k:Int)))=Z (.int w):=#[_,Jt (by lia) (by lia)]
variable{ls:Bv}{p:Nat}(hg:GL ls p){v:Nat}(hv:v<=p)
include hg hv
theorem yp(s0 q r s o p:Sl)(j:Nat)(K:j<4)(vs:U At)(F:vs.length<=50)(t:∀a∈vs,VG a):∃(f:U At)(l m:Sl),NB [s0,q,#v[ws.map D.int],r,‹k›,s,.val (LD ls),‹v›,.own (vs.map aD),‹j›,o,p]=.next [s0,q,#v[ws.map D.int],r,‹k›,s,.val (LD ls),‹v›,.own (f.map aD),‹j›,l,m]/\f.length<=vs.length+1/\∀a∈f,VG a:=by
 obtain⟨w,n⟩:=wx hw hk 4 (by ext)
 have n:Ap (.lst (ws.map D.int)) (.int (4+7*(k:Int)))=Z (.int w):=n
 have u:=GN (x:=7) (y:=(k:Int)) (by left;decide)
 have z:=GK w ((j:Int)+1) (by lia) (by lia)
 have e:Zt [LD ls]=Z (.int ls.length):=by simp
 have n1:=hg.n1
 have md:=Z4 (w/((j:Int)+1)) (ls.length:Int) (by lia)
 obtain⟨i,G,g⟩:∃i:Nat,w/((j:Int)+1)%(ls.length:Int)=(i:Int)/\i<ls.length:=#[(w/((j:Int)+1)%(ls.length:Int)).toNat,by rw[Ju (En _ (by lia))],by have:=Fy (w/((j:Int)+1)) (show(0:Int)<ls.length by lia);have:=En (w/((j:Int)+1)) (show(ls.length:Int)≠0 by lia);lia]
 rw[G]at md
 have C:Ap (LD ls) (.int i)=Z (Aj ls[i]):=Z3 (by rw[DQ,B8 g];rfl)
 have E:=yo ls[i] v (hg.len _ (FL g) ▸ hv)
 have d:=ie J' (ls[i].getD v .non) vs
 have H:=VG.get hg (FL g) v
 generalize ls[i].getD v .non=a,LD ls=A,ws.map D.int=S,Aj ls[i]=B at *
 by_cases c:a∈vs
 ·rw[decide_eq_true c]at d
  refine#[vs,‹i›,.val (aD a),?_,by lia,t]
  rwa[NB,u,n,z,e,md,C,E,d,bne_self_eq_false]
 ·rw[decide_eq_false c]at d
  refine#[vs++[a],‹i›,.val (aD a),?_,by simp,λb h=>?_]
  ·rwa[NB,u,n,z,e,md,C,E,d,Bool.bne_false,Ef,Bh,show vs.length<AA from BE (show vs.length<100000 by lia) (by ext),FN]
  ·rcases Dn.mp h with h|h
   ·exact t b h
   ·rw[D9]at h;exact h ▸ H
theorem iH(s0 g h i:Sl):∀(n j:Nat)(vs:U At)(l b c:Sl),j+n<=4->vs.length+n<=50->(∀a∈vs,VG a)->∃(d:U At)(m e f:Sl),ZB (Zc 9) NB ((EN j n).map λk:Nat=>D.int k) [s0,g,#v[ws.map D.int],h,‹k›,i,.val (LD ls),‹v›,.own (vs.map aD),l,b,c]=.next [s0,g,#v[ws.map D.int],h,‹k›,i,.val (LD ls),‹v›,.own (d.map aD),m,e,f]/\d.length<=vs.length+n/\∀a∈d,VG a
 |0,j,vs,l,b,c,_,_,o=>#[vs,l,b,c,rfl,by lia,o]
 |n+1,j,vs,l,b,c,B,C,o=>by
  obtain⟨p,q,r,w,l1,x⟩:=yp hw hk hg hv s0 g h i b c j (by lia) vs (by lia) o
  obtain⟨s,y,t,u,z,E,A⟩:=iH s0 g h i n (j+1) p ‹j› q r (by lia) (by lia) x
  refine#[s,y,t,u,?_,by lia,A]
  rw[KI,A3]
  rwa[ZB,w,z]
end
structure Hu(L:AX)(q:Pk):Prop where
 ax:∃ls,L[q.1]?=Z ls/\q.2.1<=wh ls
 vg:∀a∈q.2.2.1,VG a
 ln:q.2.2.1.length<=100
theorem Hu.ok{L:AX}(h:BI L){q:Pk}(g:Hu L q):FY [#v[L.map LD],.val (AW q)]=Z (.val (.bl J')):=by
 obtain⟨e,c,i⟩:=g.ax
 obtain⟨p,f⟩:=h.good e (GY c)
 have:=Q1 c f (y:=.int q.2.1) (z:=Iq q.2.2.1 q.2.2.2) (zs:=q.2.2.1.map aD) trivial (by simp[DN];lia) (by cases q.2.2.2<;>simp[Iq]) (λd hd=>by
  obtain⟨a,b,rfl⟩:=Be.mp hd
  exact(g.vg a b).2) (by have:=g.ln;simp;lia)
 rw[show(q.2.2.1.map aD).all GR=J' by
  rw[CZ]
  intro d hd
  obtain⟨a,b,rfl⟩:=Be.mp hd
  exact(g.vg a b).1]at this
 exact this
theorem yq{L:AX}(h:BI L){ws:U Int}(c:ws.length=24){k:Nat}(d:k<3)(T:Sl)(e:U Pk)(hl:e.length<=50)(s5 s6 s7 s8 s9 o s:Sl):∃(q:Pk)(P Y s7' s8' s9' t u:Sl),Hu L q/\P1 [#v[L.map LD],T,#v[ws.map D.int],.own (e.map AW),‹k›,s5,s6,s7,s8,s9,o,s]=.next [#v[L.map LD],T,#v[ws.map D.int],.own ((e++[q]).map AW),‹k›,P,Y,s7',s8',s9',t,u]:=by
 obtain⟨f,x1⟩:=wx c d 1 (by ext)
 obtain⟨g,x2⟩:=wx c d 2 (by ext)
 obtain⟨F,x3⟩:=wx c d 3 (by ext)
 obtain⟨b,x5⟩:=wx c d 5 (by ext)
 obtain⟨M,x6⟩:=wx c d 6 (by ext)
 have x1:Ap (.lst (ws.map D.int)) (.int (1+7*(k:Int)))=Z (.int f):=x1
 have x2:Ap (.lst (ws.map D.int)) (.int (2+7*(k:Int)))=Z (.int g):=x2
 have x3:Ap (.lst (ws.map D.int)) (.int (3+7*(k:Int)))=Z (.int F):=x3
 have x5:Ap (.lst (ws.map D.int)) (.int (5+7*(k:Int)))=Z (.int b):=x5
 have x6:Ap (.lst (ws.map D.int)) (.int (6+7*(k:Int)))=Z (.int M):=x6
 have m7:=GN (x:=7) (y:=(k:Int)) (by left;decide)
 have n1:=h.n1
 have w:Zt [.lst (L.map LD)]=Z (.int L.length):=by simp
 have z:=Z4 f (L.length:Int) (by lia)
 obtain⟨a,ha,ha2⟩:∃a:Nat,f%(L.length:Int)=(a:Int)/\a<L.length:=#[(f%(L.length:Int)).toNat,by rw[Ju (En _ (by lia))],by have:=Fy f (show(0:Int)<L.length by lia);have:=En f (show(L.length:Int)≠0 by lia);lia]
 rw[ha]at z
 have K:L[a]?=Z L[a]:=B8 ha2
 generalize L[a]=i at K
 obtain⟨p,Q⟩:=h.good i (GY K)
 have xl:=Q0 K
 have x0:∃l,Ap (LD i) (.int 0)=Z (Aj l)/\l.length=p:=by
  have n1:=Q.n1
  cases i with
  |nil=>simp at n1
  |cons l r=>exact#[l,Z3 (j:=0) rfl,Q.len l Bk]
 obtain⟨l,x0,hl0⟩:=x0
 have hln:Zt [Aj l]=Z (.int p):=by rw[<- hl0];simp[Aj]
 have C:=Z4 g ((p:Int)+1) (by lia)
 obtain⟨v,hv,E⟩:∃v:Nat,g%((p:Int)+1)=(v:Int)/\v<=p:=#[(g%((p:Int)+1)).toNat,by rw[Ju (En _ (by lia))],by have:=Fy g (show(0:Int)<(p:Int)+1 by lia);have:=En g (show(p:Int)+1≠0 by lia);lia]
 rw[hv]at C
 obtain⟨n,hn,hn4⟩:∃n:Nat,1+F%4=(n:Int)/\n<=4:=#[(1+F%4).toNat,by lia,by lia]
 have rn:=Hn n (by lia)
 rw[KJ]at rn
 obtain⟨m,t9,t10,t11,er,lr,V⟩:=iH c d Q E #v[L.map LD] T (.own (e.map AW)) ‹a› n 0 [] s9 o s (by lia) (by simp;lia) (by simp)
 rw[Db]at er
 have e5:=Hq (b%7) 0
 have e6:=Hq (b%11) 3
 have e7:=Hq (M%2) 0
 have pw:HP (.int 10) (.int 41)=Z (.int (10^41)):=fH (by ext)
 generalize decide (b%7=0)=G,decide (b%11=3)=H,decide (M%2=0)=b3,(10^41:Int)=N at *
 refine#[(a,v,(bif H then []else bif G then m++[.int (N+b)]else m),b3),‹a›,.val (LD i),‹v›,.val (Iq (bif H then []else bif G then m++[.int (N+b)]else m) b3),t9,t10,t11,#[#[i,K,Q.wh ▸ E],?_,?_],?_]
 ·intro x R
  cases H<;>cases G<;>erw[cond_true,cond_false,Dn,D9,HU]at R
  ·exact V x R
  ·rcases R with R|rfl
   ·exact V x R
   ·exact#[rfl,trivial]
 ·simp at lr
  cases H<;>cases G<;>simp<;>lia
 ·generalize L.map LD=W,LD i=A,ws.map D.int=S,Aj l=B,(EN 0 n).map (λk:Nat=>D.int k)=RG at *
  cases G<;>cases H<;>cases b3<;>rwa[P1,m7,x1,w,z,xl,x2,x0,hln,C,show Zd (Z ([]:U D))=Z []from Zk _ (by simp),ZS,Cu,x3,Z4 F 4 (by ext),hn,rn,er,x5,Z4 b 7 (by ext),e5,Z4 b 11 (by ext),e6,x6,Z4 M 2 (by ext),e7,Ef,Bh,show m.length<AA from BE (show m.length<100000 by simp at lr;lia) (by ext),pw,Dp,Hl,J6,show e.length<AA from BE (show e.length<100000 by lia) (by ext),cond_true,cond_false,Iq,FN,aD,AW]
theorem yr(x:Int):∃m:Nat,m<=3/\Ap (.lst [.int 1,.int 0,.int 2,.int 1,.int 3]) (.int (x%5))=Z (.int m):=by
 have:x%5=0\/x%5=1\/x%5=2\/x%5=3\/x%5=4:=by lia
 rcases this with e|e|e|e|e<;>rw[e]<;>first|exact⟨1,by ext,rfl⟩|exact⟨0,by ext,rfl⟩|exact⟨2,by ext,rfl⟩|exact⟨3,by ext,rfl⟩
section
variable{L:AX}(h:BI L)
include h
theorem iI{ws:U Int}(R:ws.length=24)(r:Sl):∀(n k:Nat)(d:U Pk)(s f i j l m a b:Sl),k+n<=3->d.length+n<=3->(∀q∈d,Hu L q)->∃(c:U Pk)(t u w y z A o p:Sl),ZB (Zc 4) P1 ((EN k n).map λk:Nat=>D.int k) [#v[L.map LD],r,#v[ws.map D.int],.own (d.map AW),s,f,i,j,l,m,a,b]=.next [#v[L.map LD],r,#v[ws.map D.int],.own (c.map AW),t,u,w,y,z,A,o,p]/\c.length<=3/\∀q∈c,Hu L q
 |0,k,d,s,f,i,j,l,m,a,b,_,F,B=>#[d,s,f,i,j,l,m,a,b,rfl,F,B]
 |n+1,k,d,s,f,i,j,l,m,a,b,hk,F,B=>by
  obtain⟨q,M,N,K,Q,T,C,E,g,P⟩:=yq h R (k:=k) (by lia) r d (by lia) f i j l m a b
  obtain⟨c,Y,u5,u6,u7,u8,u9,G,H,e2,l2,g2⟩:=iI R r n (k+1) (d++[q]) ‹k› M N K Q T C E (by lia) (by simp;lia) λx e=>by
   rcases Dn.mp e with e|e
   ·exact B x e
   ·rw[D9]at e;exact e ▸ g
  refine#[c,Y,u5,u6,u7,u8,u9,G,H,?_,l2,g2]
  rw[KI,A3]
  rwa[ZB,P,e2]
theorem yt(c:Int):∃a:U Pk,TL [#v[L.map LD],‹c›]=Z (.own (a.map AW))/\a.length<=3/\∀q∈a,Hu L q:=by
 obtain⟨b,j,l,_⟩:=QD c 24 (by ext)
 have d:=Jt (xs:=b) (i:=0) (by ext) (by lia)
 have d:Ap (.lst (b.map D.int)) (.int 0)=_:=d
 have md:=Z4 (b.getD (0:Int).toNat 0) 5 (by ext)
 obtain⟨m,t,n⟩:=yr (b.getD (0:Int).toNat 0)
 have e:=Hn m (by lia)
 rw[KJ]at e
 obtain⟨a,u,x,y,z,A,B,o,p,f,r,g⟩:=iI h l ‹c› m 0 [] .no .no .no .no .no .no .no .no (by lia) (by simp;lia) (by simp)
 refine#[a,?_,r,g]
 refine Zp rfl ?_
 rw[Db]at f
 generalize L.map LD=W,b.map D.int=S,a.map AW=PS,(EN 0 m).map (λk:Nat=>D.int k)=C,(b.getD (0:Int).toNat 0)=w at *
 show TK [#v[W],‹c›,.no,.no,.no,.no,.no,.no,.no,.no,.no,.no]=_
 rwa[TK,cH,cA,show Ho [‹c›,‹24›]=Z #v[S]from j,cG,cB,show Zd (Z ([]:U D))=Z []from Zk _ (by simp),ZS,cF,cC,show Zd (Z [D.int 1,.int 0,.int 2,.int 1,.int 3])=Z [.int 1,.int 0,.int 2,.int 1,.int 3]from Zk _ (by simp),d,md,n,e,Cu,f,cE,cD,ZK,DH]
end
def Dm:Nat->D->Bool
 |_,.non=>J'
 |_,.bl _=>J'
 |_,.int _=>J'
 |_,.str _=>J'
 |n+1,.tup a=>decide (a.length<=1000)&&a.all (Dm n)
 |n+1,.lst a=>decide (a.length<=1000)&&a.all (Dm n)
 |_,_=>O'
theorem VQ:∀(n:Nat)(d:D),Dm n d=J'->AT (n+7) d=J'
 |0,d,h=>by cases d<;>first|rfl|simp[Dm]at h
 |n+1,d,h=>by
  cases d with
  |tup a=>
   erw[Dm,Co,CZ]at h
   show a.all (AT (n+7))=J'
   rw[CZ]
   exact λx c=>VQ n x (h.2 x c)
  |lst a b=>cases b with
   |l=>
    erw[Dm,Co,CZ]at h
    show a.all (AT (n+7))=J'
    rw[CZ]
    exact λx c=>VQ n x (h.2 x c)
   |_=>simp[Dm]at h
  |_=>first|rfl|simp[Dm]at h
theorem yu:∀(n:Nat)(d:D),Dm n d=J'->(GH (n+1) [.val d]).map Dd=Z d:=λn=>by
 induction n with
 |zero=>intro d h;cases d<;>first|rfl|simp[Dm]at h
 |succ n i=>
  intro d h
  have f:∀(a:U D),(decide (a.length<=1000)&&a.all (Dm n))=J'->Zd (Z a)=Z a/\ZH (Zc 0) (λ_=>Z J') (Tn (GH (n+1))) [.no] a=Z a:=λa g=>by
   erw[Co,CZ,decide_eq_true_eq]at g
   have c:=Zx (b:=Zc 0) (e:=Tn (GH (n+1))) (ρ:=[.no]) (λd=>d) (λd=>d) a λd hd=>#[[.val d],rfl,i d (g.2 d hd)]
   rw[List.map_id']at c
   exact#[Zk a (by lia),c]
  cases d with
  |tup a=>
   obtain⟨q,c⟩:=f a h
   have:GH (n+1+1) [.val (.tup a)]=Z (.val (.tup a)):=by
    refine Zp rfl ?_
    show Nw (GH (n+1)) [.val (.tup a)]=_
    rwa[Nw,show Ca [.tup a,.ty "list"]=Z (.bl O')from rfl,D7,show Ca [.tup a,.ty "tuple"]=Z (.bl J')from rfl,Zi,show Zn 1 [] [.val (.tup a)]=[.no]from rfl,q,show ZH (Zc 0) (λ_=>Z J') (bX (GH (n+1))) [.no] a=Z a from c,Dp]
   rw[this];rfl
  |lst a b=>cases b with
   |l=>
    obtain⟨q,c⟩:=f a h
    have:GH (n+1+1) [#v[a]]=Z (.own a):=by
     refine Zp rfl ?_
     show Nw (GH (n+1)) [#v[a]]=_
     rwa[Nw,show Ca [.lst a,.ty "list"]=Z (.bl J')from rfl,D7,Zi,show Zn 1 [] [#v[a]]=[.no]from rfl,q,c,ZK]
    rw[this];rfl
   |_=>simp[Dm]at h
  |_=>first|rfl|simp[Dm]at h
theorem VR{n:Int}(f:(xs.length:Int)=n)(b:0<n)(c:Int):∃d∈xs,Ap (.lst xs) (.int (c%n))=Z d:=by
 have g:=Fy c b
 have h:=En c (show n≠0 by lia)
 obtain⟨i,e,a⟩:∃i:Nat,c%n=(i:Int)/\i<xs.length:=#[(c%n).toNat,by lia,by lia]
 exact#[xs[i],FL a,e ▸ Z3 (B8 a)]
theorem Q7{a b:U D}(h:a.length+b.length<=1000):Zw (.lst a) (.lst b)=Z (.lst (a++b)):=by
 have:a.length+b.length<=AA:=BJ h (by ext)
 simp[this]
theorem VS{a b:U D}(h:a.length+b.length<=1000):Zw (.tup a) (.tup b)=Z (.tup (a++b)):=by
 have:a.length+b.length<=AA:=BJ h (by ext)
 simp[this]
abbrev CT(g:U Nat):U D:=g.map λj:Nat=>D.int j
section
variable{L:AX}(h:BI L)
section
variable{x:D}(sx:Sm x)(hx:∀p,p<=4->DN p x=O')
include h sx hx
theorem Md(t:U Nat)(b:t.length+1=L.length):Z0 [#v[L.map LD],.val (.tup (x::CT t))]=Z (.val (.bl O')):=by
 rw[VD h (x::CT t) (λz a=>by
  rcases BK.mp a with rfl|a
  ·exact sx
  ·obtain⟨j,_,rfl⟩:=Be.mp a;trivial) (by simpa using b)]
 cases L with
 |nil=>simp at b
 |cons c L=>
  obtain⟨p,d⟩:=h.good c Bk
  rw[Mb,HH,A3,hx (wh c) (d.wh ▸ d.p4)];rfl
theorem iJ(s:U Nat)(c:s.length+1=L.length):Z0 [#v[L.map LD],.val (.tup (CT s++[x]))]=Z (.val (.bl O')):=by
 rw[VD h (CT s++[x]) (λz a=>by
  rcases Dn.mp a with a|a
  ·obtain⟨j,_,rfl⟩:=Be.mp a;trivial
  ·rw[D9]at a;exact a ▸ sx) (by simpa using c)]
 obtain⟨M,b,rfl⟩:∃M b,L=M++[b]:=#[L.dropLast,L.getLast (by intro e;simp[e]at c),(List.dropLast_concat_getLast _).symm]
 obtain⟨p,d⟩:=h.good b (by simp)
 rw[Mb,List.zip_append (by simp at c ⊢;lia),FN,List.all_append,HH,A3,hx (wh b) (d.wh ▸ d.p4)]
 simp
end
include h
theorem yv{g:U Nat}(l:g.length=L.length)(c:Int):∃d,Ti [.val (AD g),‹c›]=Z (.val d)/\Z0 [#v[L.map LD],.val d]=Z (.val (.bl O')):=by
 have n1:=h.n1
 have n4:=h.n4
 have m:E4 (CT g) (Z 1) J=CT (g.drop 1):=by rw[Pu _ _ (by ext)];exact List.map_drop.symm
 obtain⟨s,e,o⟩:∃s:U Nat,s.length+1=L.length/\E4 (CT g) J (Z (-1))=CT s:=by
  rw[<- l]at n1 n4 ⊢
  refine#[g.dropLast,by simp;lia,?_]
  match g,n1,n4 with
  |[_],_,_=>rfl
  |[_,_],_,_=>rfl
  |[_,_,_],_,_=>rfl
  |[_,_,_,_],_,_=>rfl
 have b:(g.drop 1).length+1=L.length:=by simp;lia
 generalize g.drop 1=t at *
 obtain⟨d,hd,q⟩:=VR (xs:=[.lst (CT g),.tup (CT s++[.int 5]),.tup (.int (-1)::CT t),.tup (.bl J'::CT t),.non,.str "0",.tup (CT s),.tup (CT g++[.int 0]),.tup (.lst [.int 0]::CT t),.tup (CT s++[.lst []]),.tup (.non::CT t),.tup (.str "0"::CT t),.int 0,.tup (.tup [.int 0]::CT t)]) (n:=14) rfl (by ext) c
 refine#[d,?_,?_]
 ·have r:∀x,Zw (.tup (CT s)) (.tup [x])=Z (.tup (CT s++[x])):=λ_=>VS (by simp;lia)
  have w:∀x,Zw (.tup [x]) (.tup (CT t))=Z (.tup (x::CT t)):=λ_=>VS (by simp;lia)
  have A:∀x,Zw (.tup (CT g)) (.tup [x])=Z (.tup (CT g++[x])):=λ_=>VS (by simp;lia)
  have B:G6 [.tup (CT g)]=Z (CT g):=rfl
  refine Zp rfl ?_
  show Th [.val (.tup (CT g)),‹c›,.no]=_
  rwa[Th,EE,B,DJ,DT,DS,o,m,r,w,A,Q7,FZ,Ik,Nat.reduceLeDiff,show Zd (Z ([]:U D))=Z []from Zk _ (by simp),show ∀x y z u:D,Zd (Z [x,y,z,u])=Z [x,y,z,u]from λ_ _ _ _=>Zk _ (by simp),show ∀x y z u f i j k:D,Zd (Z [x,y,z,u,f,i,j,k])=Z [x,y,z,u,f,i,j,k]from λ_ _ _ _ _ _ _ _=>Zk _ (by simp),G0,D1,Z4 c 14 (by ext),q]
 ·erw[BK,HU,or_false]at hd
  rcases hd with rfl|rfl|rfl|rfl|rfl|rfl|rfl|rfl|rfl|rfl|rfl|rfl|rfl|rfl
  ·exact QU _ _ rfl
  ·exact iJ h (by trivial) (λp a=>by simp[DN];lia) s e
  ·exact Md h (by trivial) (λp a=>by simp[DN]) t b
  ·exact Md h (by trivial) (λp a=>rfl) t b
  ·exact QU _ _ rfl
  ·exact QU _ _ rfl
  ·exact gS _ _ (by simp;lia)
  ·exact gS _ _ (by simp;lia)
  ·exact Md h (by trivial) (λp a=>rfl) t b
  ·exact iJ h (by trivial) (λp a=>rfl) s e
  ·exact Md h (by trivial) (λp a=>rfl) t b
  ·exact Md h (by exact(by decide:(1:Nat)<=100)) (λp a=>rfl) t b
  ·exact QU _ _ rfl
  ·exact Md h (by trivial) (λp a=>rfl) t b
end
theorem yw{L:AX}(h:BI L)(c:Int):∃d,Tk [#v[L.map LD],‹c›]=Z (.val d)/\FY [#v[L.map LD],.val d]=Z (.val (.bl O'))/\Dm 4 d=J':=by
 have n1:=h.n1
 have f:Zt [.lst (L.map LD)]=Z (.int L.length):=by simp
 have g:=Z4 (c/19) (L.length:Int) (by lia)
 obtain⟨a,m,j⟩:∃a:Nat,c/19%(L.length:Int)=(a:Int)/\a<L.length:=#[(c/19%(L.length:Int)).toNat,by rw[Ju (En _ (by lia))],by have:=Fy (c/19) (show(0:Int)<L.length by lia);have:=En (c/19) (show(L.length:Int)≠0 by lia);lia]
 rw[m]at g
 have b:L[a]?=Z L[a]:=B8 j
 generalize L[a]=k at b
 obtain⟨p,e⟩:=h.good k (GY b)
 have p4:=e.p4
 obtain⟨d,hd,o⟩:=VR (xs:=[.non,.lst [.int a,.int 0,.lst []],.tup [.int a,.int 0],.tup [.int a,.int 0,.lst [],.lst []],.tup [.int L.length,.int 0,.lst []],.tup [.int (-1),.int 0,.lst []],.tup [.bl J',.int 0,.lst []],.tup [.non,.int 0,.lst []],.tup [.int a,.int 5,.lst []],.tup [.int a,.int (-1),.lst []],.tup [.int a,.bl O',.lst []],.tup [.int a,.non,.lst []],.tup [.int a,.int 0,.str "a"],.tup [.int a,.int 0,.non],.tup [.int a,.int 0,.lst [.bl J']],.tup [.int a,.int 0,.lst [.str "A"]],.tup [.int a,.int 0,.lst [.int 1,.tup [.int 1]]],.tup [.int a,.str "0",.lst []],.int 7]) (n:=19) rfl (by ext) c
 refine#[d,?_,?_]
 ·refine Zp rfl ?_
  generalize L.map LD=W at *
  show Tj [#v[W],‹c›,.no,.no]=_
  rwa[Tj,bW,bN,GK c 19 (by ext) (by ext),f,g,bV,bO,show Zd (Z ([]:U D))=Z []from Zk _ (by simp),show ∀x y z u:D,Zd (Z [x,y,z,u])=Z [x,y,z,u]from λ_ _ _ _=>Zk _ (by simp),show ∀x y z u v w:D,Zd (Z [x,y,z,u,v,w])=Z [x,y,z,u,v,w]from λ_ _ _ _ _ _=>Zk _ (by simp),show ∀x y z u v w l:D,Zd (Z [x,y,z,u,v,w,l])=Z [x,y,z,u,v,w,l]from λ_ _ _ _ _ _ _=>Zk _ (by simp),bU,bP,bT,bQ,Q7,FZ,Ik,Nat.reduceLeDiff,G0,D1,bS,bR,Z4 c 19 (by ext),o]
 ·have i:DN (wh k) (.int 0)=J':=by simp[DN]
  erw[BK,HU,or_false]at hd
  rcases hd with rfl|rfl|rfl|rfl|rfl|rfl|rfl|rfl|rfl|rfl|rfl|rfl|rfl|rfl|rfl|rfl|rfl|rfl|rfl<;>refine⟨?_,rfl⟩
  ·exact VN _ rfl
  ·exact VN _ rfl
  ·exact hV _ (by simp)
  ·exact hV _ (by simp)
  ·exact QZ _ (by trivial) (by simp[KZ])
  ·exact QZ _ (by trivial) rfl
  ·exact QZ _ (by trivial) rfl
  ·exact QZ _ (by trivial) rfl
  ·exact Og b e (by trivial) (by rw[e.wh];simp[DN];lia)
  ·exact Og b e (by trivial) rfl
  ·exact Og b e (by trivial) rfl
  ·exact Og b e (by trivial) rfl
  ·exact hX b e (by trivial) i rfl
  ·exact hX b e (by trivial) i rfl
  ·exact Q1 b e (by trivial) i (.inl rfl) (λd hd=>by rw[D9]at hd;subst hd;trivial) (by ext)
  ·rw[Q1 b e (by trivial) i (.inl rfl) (λd hd=>by rw[D9]at hd;subst hd;exact(by decide:(1:Nat)<=100)) (by ext),show [D.str "A"].all GR=O' by decide +kernel]
  ·exact Q1 b e (by trivial) i (.inl rfl) (λd hd=>by simp at hd;rcases hd with rfl|rfl<;>trivial) (by ext)
  ·exact Og b e (by exact(by decide:(1:Nat)<=100)) rfl
  ·exact VN _ rfl
theorem yx(n:Nat)(a:At):Dm n (aD a)=J':=by cases a<;>simp[Dm,aD]
theorem iK{L:AX}{q:Pk}(g:Hu L q):Dm 4 (AW q)=J':=by
 have b:Dm 3 (Iq q.2.2.1 q.2.2.2)=J':=by
  have:(decide ((q.2.2.1.map aD).length<=1000)&&(q.2.2.1.map aD).all (Dm 2))=J':=by
   rw[decide_eq_true (by have:=g.ln;simp;lia),LN,CZ]
   intro d hd
   obtain⟨a,_,rfl⟩:=Be.mp hd
   exact yx 2 a
  cases q.2.2.2<;>exact this
 show(J'&&(J'&&(Dm 3 (Iq q.2.2.1 q.2.2.2)&&J')))=J'
 rw[b];rfl
theorem yy{L:AX}(h:BI L){a:U Pk}(e:a.length<=3)(b:∀q∈a,Hu L q):GJ [#v[L.map LD],#v[a.map AW]]=Z (.val (.bl J')):=by
 have:=hY (L.map LD) (a.map AW) (λ_=>J') (λd hd=>by
  obtain⟨q,c,rfl⟩:=Be.mp hd
  exact(b q c).ok h) (by simp;lia)
 rw[this,CZ.mpr λ_ _=>rfl]
section
variable{L:AX}(h:BI L){ps:U Pk}(hl:ps.length<=3)(hg:∀q∈ps,Hu L q)
include h hl hg
theorem VT:(decide ((ps.map AW).length<=1000)&&(ps.map AW).all (Dm 4))=J':=by
 rw[decide_eq_true (by simp;lia),LN,CZ]
 intro d hd
 obtain⟨q,a,rfl⟩:=Be.mp hd
 exact iK (hg q a)
theorem yz(c:Int):∃d,TQ [#v[L.map LD],#v[ps.map AW],‹c›]=Z (.val d)/\GJ [#v[L.map LD],.val d]=Z (.val (.bl O'))/\Dm 5 d=J':=by
 have j:=Z4 c 7 (by ext)
 have f:=Hq (c%7) 0
 have i:=Hq (c%7) 1
 have l:=GK c 7 (by ext) (by ext)
 by_cases m:c%7=0
 ·refine#[.tup (ps.map AW),?_,hZ _ _ rfl,VT h hl hg]
  rw[decide_eq_true m]at f
  refine Zp rfl ?_
  generalize L.map LD=W,ps.map AW=PS at *
  show Kx [#v[W],#v[PS],‹c›,.no]=_
  rwa[Kx,P4,P2,j,f,Dp]
 rw[decide_eq_false m]at f
 by_cases o:c%7=1
 ·rw[decide_eq_true o]at i
  obtain⟨d,hd,t⟩:=VR (xs:=[.non,.int 0,.str "",.tup []]) (n:=4) rfl (by ext) (c/7)
  refine#[d,?_,?_]
  ·refine Zp rfl ?_
   generalize L.map LD=W,ps.map AW=PS at *
   show Kx [#v[W],#v[PS],‹c›,.no]=_
   rwa[Kx,P4,P2,j,f,TN,TM,i,show Zd (Z ([]:U D))=Z []from Zk _ (by simp),show ∀x y z u:D,Zd (Z [x,y,z,u])=Z [x,y,z,u]from λ_ _ _ _=>Zk _ (by simp),l,Z4 (c/7) 4 (by ext),t]
  ·erw[BK,HU,or_false]at hd
   rcases hd with rfl|rfl|rfl|rfl<;>exact⟨hZ _ _ rfl,rfl⟩
 ·rw[decide_eq_false o]at i
  obtain⟨d,w,hd,fd⟩:=yw h (c/28)
  have g:Zt [.lst (ps.map AW)]=Z (.int ps.length):=by simp
  have md:=Z4 (c/7) ((ps.length:Int)+1) (by lia)
  obtain⟨k,C,E⟩:∃k:Nat,c/7%((ps.length:Int)+1)=(k:Int)/\k<=ps.length:=#[(c/7%((ps.length:Int)+1)).toNat,by rw[Ju (En _ (by lia))],by have:=Fy (c/7) (show(0:Int)<(ps.length:Int)+1 by lia);have:=En (c/7) (show(ps.length:Int)+1≠0 by lia);lia]
  rw[C]at md
  have ct:=aX (ps.map AW) (k:Int) (by lia)
  have p:=Pu (ps.map AW) (k:Int) (by lia)
  rw[Jf]at ct p
  have G:Zw (.lst ((ps.map AW).take k)) (.lst [d])=Z (.lst ((ps.map AW).take k++[d])):=Q7 (by simp;lia)
  have H:Zw (.lst ((ps.map AW).take k++[d])) (.lst ((ps.map AW).drop k))=Z (.lst ((ps.map AW).take k++[d]++(ps.map AW).drop k)):=Q7 (by simp;lia)
  have r:∀x∈(ps.map AW).take k++[d]++(ps.map AW).drop k,x=d\/∃q∈ps,x=AW q:=λx a=>by
   erw[Dn,D9]at a
   rcases a with(a|a)|a
   ·obtain⟨q,e,rfl⟩:=Be.mp (List.mem_of_mem_take a);exact .inr #[q,e,rfl]
   ·exact .inl a
   ·obtain⟨q,e,rfl⟩:=Be.mp (List.mem_of_mem_drop a);exact .inr #[q,e,rfl]
  have s:((ps.map AW).take k++[d]++(ps.map AW).drop k).length<=1000:=by simp;lia
  refine#[.lst ((ps.map AW).take k++[d]++(ps.map AW).drop k),?_,?_,?_]
  ·refine Zp rfl ?_
   generalize L.map LD=W,(ps.map AW).take k=A,(ps.map AW).drop k=B,ps.map AW=PS at *
   show Kx [#v[W],#v[PS],‹c›,.no]=_
   rwa[Kx,P4,P2,j,f,TN,TM,i,cL,cI,l,g,md,cK,cJ,DJ,DS,DT,ct,p,GK c 28 (by ext) (by ext),w,G,H]
  ·have F:=hY (L.map LD) ((ps.map AW).take k++[d]++(ps.map AW).drop k) (λx=>match FY [#v[L.map LD],.val x]with|some (.val (.bl b))=>b|_=>O') (λx a=>by
    rcases r x a with rfl|⟨q,e,rfl⟩
    ·rw[hd]
    ·rw[(hg q e).ok h]) s
   rw[F,List.all_eq_false.mpr #[d,by simp,by rw[hd];simp]]
  ·show(decide (_<=1000)&&List.all _ (Dm 4))=J'
   rw[decide_eq_true s,LN,CZ]
   intro x a
   rcases r x a with rfl|⟨q,e,rfl⟩
   ·exact fd
   ·exact iK (hg q e)
end
theorem iL{L:AX}(h:BI L)(ns:U Int)(c:Int)(b:ZE [#v[ns.map D.int],‹6›]=Z ‹c›):∀n k:Nat,k+n<=100->∃a:U Row,a.length=n/\(∀r∈a,Bc L r.1) /\
  ZH (Zc 0) (λ_=>Z J') QA [.no,#v[L.map LD],#v[ns.map D.int]] ((EN k n).map λk:Nat=>D.int k)=Z (a.map Zj)
 |0,k,_=>#[[],rfl,λ_ h=>(nomatch h),rfl]
 |n+1,k,i=>by
  obtain⟨a,d,j,f⟩:=iL h ns c b n (k+1) (by lia)
  obtain⟨r,l,e⟩:=xg h (c/((k:Int)+1)+(k:Int))
  refine#[r::a,by simp[d],λq m=>?_,?_]
  ·grind [BK]
  ·have g:QA [‹k›,#v[L.map LD],#v[ns.map D.int]]=Z (Zj r):=by
    rwa[QA,b,GK c ((k:Int)+1) (Int.succ_ofNat_pos k) (by lia),e]
   rwa[KI,ZH,g,f]
theorem yA(a:U Row):Bt 1 (.lst (a.map Eo))=J':=by
 show(!vk 1 .l&&C6 1 (a.map Eo))=J'
 rw[FW λd hd=>by
  obtain⟨r,_,rfl⟩:=Be.mp hd
  show(Bt 1 (.str "+")&&(Bt 1 (Aj r.1)&&(Bt 1 (.int r.2)&&J')))=J'
  rw[GQ];rfl];rfl
theorem yB(rs:U Row):Bt 1 (.lst (rs.map Zj))=J':=by
 show(!vk 1 .l&&C6 1 (rs.map Zj))=J'
 rw[FW λd hd=>by
  obtain⟨r,_,rfl⟩:=Be.mp hd
  show(Bt 1 (Aj r.1)&&(Bt 1 (.int r.2)&&J'))=J'
  rw[GQ];rfl];rfl
theorem yC{rs:U Row}{L:AX}{G:Gh}{b t:Nat}(h:BI L)(e:G[b]?=Z (B5 L (rs.map Zj) t))(f:G[t]?=Z (.dat .d (Zb (AM L rs [zg L]))))(c:b≠t)(k:∀r∈rs,Bc L r.1)(l:rs.length<64){g:U Nat}(i:Hr L g):∃n gs G',NS [.cel b,.val (AD g)] G=Z (‹n›,G')/\G'[b]?=Z (B5 L (rs.map Zj) t)/\G'[t]?=Z (.dat .d (Zb (AM L rs gs)))/\(∀g∈gs,g.length=L.length)/\gs.length<64/\zg L∈gs:=by
 by_cases j:g∈[zg L]
 ·exact#[_,_,_,xp h i e f j,e,f,by simp,by simp,by simp]
 ·refine#[_,[zg L]++[g],_,xq h i e f k l c j (by simp),?_,JD f,λx a=>?_,by simp,by simp]
  ·rw[Of c];exact e
  ·rcases Dn.mp a with a|a
   ·rw[D9]at a;subst a;simp
   ·rw[D9]at a;subst a;exact i.1
theorem yD{d:D}(h:AT 12 d=J'):BY d d=Z (.bl J'):=by
 have:=MR 12 _ h
 erw[BY,Hm,h,this,Ia,if_true]
section
variable{L:AX}{R T:U D}{G:Gh}{t:Nat}{x y z:D}{S W x3 x8:IV}
theorem Q8(g:G[0]?=Z (B5 L R t))(h:G[t]?=Z (.dat .d T))(i:AT 12 (.lst R)=J')(c:∀w:Int,w=0\/w=1->Z7 [.cel 0,‹w›,.val x,.val y] G=Z (.val z,G))(hz:AT 12 z=J')(e:Dm 5 y=J'):
  Vb ([S,W,.cel 0,x3,#v[R],.val x,.val y,.val z,x8,.no,.no],G)=.ret (.val (.bl J')) G:=by
 obtain⟨r,j,a⟩:=BG.mp (yu 5 y e)
 have f:=ER 2 (by ext) g h
 have b:Po (.int 2)=Z [.int 0,.int 1]:=by
  show gd (-1000000000<=(2:Int)/\(2:Int)<1000000000) (Z (HN 0 (2:Int).toNat))=_
  rw[MJ (by ext)];rfl
 have k:=hR (L:=L) (R:=R) (T:=T)
 have st:∀w:Int,Z7 [.cel 0,‹w›,.val x,.val y] G=Z (.val z,G)->Va ([S,W,.cel 0,x3,#v[R],.val x,.val y,.val z,x8,.val y,‹w›],G)=.next ([S,W,.cel 0,x3,#v[R],.val x,.val y,.val z,x8,.val y,‹w›],G):=λw o=>by
  rwa[Va,Hh,o,Ib,hJ hz,Nq,Pz,f,hJ (VQ 5 y e),Py,if_false,Ff]
 rwa[Vb,eK,show To [.val y]=Z r from j,a,eQ,eM,b,Kp,GD,st 0 (c 0 (.inl rfl)),st 1 (c 1 (.inr rfl)),eP,eO,f,Hc,Km,hQ,k,DZ,yD i,show Bt 2 (.bl J')=J' from rfl,DY]
end
theorem yE:ZH (Zc 0) (λ_=>Z J') eo [.no] ((Bf 8).map λk:Nat=>D.int k)=Z ((Bf 8).map λj=>.bl (decide (j=1))):=rfl
theorem yF:ZH (Zc 0) (λ_=>Z J') et [.no] ((Bf 8).map λk:Nat=>D.int k)=Z ((Bf 8).map λj=>.bl (decide (j=0))):=rfl
section
variable{L:AX}{rs:U Row}{e:U Nat}{ps:U Pk}{G:Gh}{t:Nat}{x3:IV}{ns:U Int}
theorem yG(h:BI L)(a:G[0]?=Z (B5 L (rs.map Zj) t))(f:G[t]?=Z (.dat .d (Zb (AM L rs gs))))(M:∀r∈rs,Bc L r.1)(p:rs.length<64)(s:∀g∈gs,g.length=L.length)(N:gs.length<64)(hz:zg L∈gs)(b:Hr L e)(A:ps.length<=3)(o:∀q∈ps,Hu L q)(c:Int):
  L5 ([#v[ns.map D.int],#v[L.map LD],.cel 0,x3,#v[rs.map Zj],.val (AD e),#v[ps.map AW],.val (.bl J'),‹c%4›,.no,.no],G)=.ret (.val (.bl J')) G:=by
 have F:=Jr #v[ns.map D.int] ns (.inl rfl) 9 (by ext)
 have u:=Jr #v[ns.map D.int] ns (.inl rfl) 10 (by ext)
 obtain⟨y,Q,py,T⟩:=yz h A o (ns.getD (9:Int).toNat 0)
 obtain⟨x,ex,K⟩:=yv h b.1 (ns.getD (10:Int).toNat 0)
 have B:=xK rs
 have E:=yy h A o
 have z:=Hn 8 (by ext)
 have z:DR [.int 8]=_:=z
 have H:=Zk ((Bf 8).map λk:Nat=>D.int k) (by ext)
 have Y:=yE
 have d0:=yF
 have i:∀xs,Zn 1 [] xs=[.no]:=λ_=>rfl
 have r1:D.tup [.lst ((Bf 8).map λj=>.bl (decide (j=1))),.bl J']=JJ 1:=rfl
 have r0:D.tup [.lst ((Bf 8).map λj=>.bl (decide (j=0))),.bl J']=JJ 0:=rfl
 rcases(show c%4=0\/c%4=1\/c%4=2\/c%4=3 by lia)with C|C|C|C<;>rw[C]
 ·obtain⟨g,_,n,ep,_⟩:=iC h a f M p s N hz b ps (λq P=>(o q P).ln) E
  obtain⟨acc,ea⟩:=yk h a f M p s N hz b ps (λq P=>(o q P).ln) E
  have l:∀w:Int,w=0\/w=1->Z7 [.cel 0,‹w›,.val (AD e),#v[ps.map AW]] G=Z (.val (.bl J'),G):=λw m=>yn m a (yj a f (Od h b) E) ep rfl ea rfl
  have:=Q8 (S:=#v[ns.map D.int]) (W:=#v[L.map LD]) (x3:=x3) (x8:=‹0›) a f B l rfl (VT h A o)
  rwa[L5,NZ,show BY (.int 0) (.int 1)=Z (.bl O')from rfl,show BY (.int 0) (.int 3)=Z (.bl O')from rfl,N1,N0,show E3 (.int 0) (.int 1)=Z (.bl O')from rfl,this]
 ·have l:∀w:Int,w=0\/w=1->Z7 [.cel 0,‹w›,.val (AD e),.val y] G=Z (.val (JJ 1),G):=λw m=>VP m a (.inr #[rfl,rfl]) (yi a f (Od h b) py)
  have:=Q8 (S:=#v[ns.map D.int]) (W:=#v[L.map LD]) (x3:=x3) (x8:=‹1›) a f B l rfl T
  rwa[L5,NZ,show BY (.int 1) (.int 1)=Z (.bl J')from rfl,F,Q,Zi,i,z,H,Y,r1,N1,N0,show E3 (.int 1) (.int 1)=Z (.bl O')from rfl,this]
 ·have l:∀w:Int,w=0\/w=1->Z7 [.cel 0,‹w›,.val x,#v[ps.map AW]] G=Z (.val (JJ 0),G):=λw m=>VP m a (.inl #[rfl,rfl]) (iE a f K)
  have:=Q8 (S:=#v[ns.map D.int]) (W:=#v[L.map LD]) (x3:=x3) (x8:=‹2›) a f B l rfl (VT h A o)
  rwa[L5,NZ,show BY (.int 2) (.int 1)=Z (.bl O')from rfl,show BY (.int 2) (.int 3)=Z (.bl O')from rfl,N1,N0,show E3 (.int 2) (.int 1)=Z (.bl J')from rfl,u,ex,Zi,i,z,H,d0,r0,this]
 ·have l:∀w:Int,w=0\/w=1->Z7 [.cel 0,‹w›,.val x,.val y] G=Z (.val (JJ 0),G):=λw m=>VP m a (.inl #[rfl,rfl]) (iE a f K)
  have:=Q8 (S:=#v[ns.map D.int]) (W:=#v[L.map LD]) (x3:=x3) (x8:=‹3›) a f B l rfl T
  rwa[L5,NZ,show BY (.int 3) (.int 1)=Z (.bl O')from rfl,show BY (.int 3) (.int 3)=Z (.bl J')from rfl,F,Q,Y,r1,N1,N0,show E3 (.int 3) (.int 1)=Z (.bl J')from rfl,u,ex,Zi,i,z,H,d0,r0,this]
end
theorem yH(ns:U Int):∃G',e9 [.val (.lst (ns.map D.int))] []=Z (.val (.bl J'),G'):=by
 obtain⟨L,⟨h,_⟩,eL⟩:=v9 ns
 have h4:=h.n4
 have c5:=Jr #v[ns.map D.int] ns (.inl rfl) 5 (by ext)
 have N:=Jr #v[ns.map D.int] ns (.inl rfl) 6 (by ext)
 have c7:=Jr #v[ns.map D.int] ns (.inl rfl) 7 (by ext)
 have c8:=Jr #v[ns.map D.int] ns (.inl rfl) 8 (by ext)
 generalize ns.getD (5:Int).toNat 0=n5,ns.getD (6:Int).toNat 0=n6,ns.getD (7:Int).toNat 0=n7,ns.getD (8:Int).toNat 0=n8 at *
 obtain⟨g,hg,eg⟩:=hT h n5
 obtain⟨e,he,ee⟩:=hT h n7
 obtain⟨ps,x,y,z⟩:=yt h (n7/3)
 have K:=Z4 n6 9 (by ext)
 obtain⟨n,hn,hn9⟩:∃n:Nat,n6%9=(n:Int)/\n<9:=#[(n6%9).toNat,by lia,by lia]
 rw[hn]at K
 obtain⟨a,hrl,A,er⟩:=iL h ns n6 N n 0 (by lia)
 have Q:(Zz Cq a).length<64:=by rw[(ZA Cq a).length_eq];lia
 have ei:=xH h
 obtain⟨j,t,G3,ep,c,i,hlt,_⟩:=xJ h a A (by lia) (G:=[B5 L [] 1,.dat .d (Zb (AM L [] [zg L]))]) (b:=0) (t:=1) rfl rfl (by ext)
 obtain⟨kn,gs,P,ek,o,p,B,C,hz⟩:=yC h c i (by lia) (λr f=>A r ((ZA Cq a).mem_iff.mp f)) Q hg
 have eE:=yG (x3:=#v[a.map Zj]) (ns:=ns) h o p (λr f=>A r ((ZA Cq a).mem_iff.mp f)) Q B C hz he y z n8
 refine#[P,?_]
 have qL:=Zk (L.map LD) (by simp;lia)
 have H:=Zx (b:=Zc 0) (e:=en) (ρ:=[.no]) LD LD L λls _=>#[[.val (LD ls)],rfl,rfl]
 have zA:=Zx (b:=Zc 0) (e:=U9) (ρ:=[.no]) Zj Eo a λr _=>#[[.val (Zj r)],rfl,by
  rwa[U9,show Zw (.tup [.str "+"]) (Zj r)=Z (Eo r)from rfl]]
 have F:Bt 1 (.lst (L.map LD))=J':=by
  show(!vk 1 .l&&C6 1 (L.map LD))=J'
  rw[VJ L];rfl
 have f0:∀w,C6 0 w=J':=λw=>FW λd _=>S2 d
 have qR:=Zk (a.map Zj) (by simp;lia)
 have fR:=hG a
 have fP:=yA a
 have f1:=yB (Zz Cq a)
 have q:=Hn n (by lia)
 rw[KJ]at q
 have qN:=Zk ((EN 0 n).map λk:Nat=>D.int k) (by simp;lia)
 have s:∀g:U Nat,Bt 2 (AD g)=J':=λg=>by rw[<- Ip];exact GQ 2 _
 have fg:=s g
 have fe:=s e
 have i2:DD "Book" "keep" (B5 L ((Zz Cq a).map Zj) t)=J':=by rwa[DD,xm]
 have u:∀m,m≠0->Ej m [B5 L [] 1,.dat .d (Zb (AM L [] [zg L]))] (.cel 0)=.val (BD L [] (Zb (AM L [] [zg L]))):=λm f=>ER m f rfl rfl
 have v3:=λm f=>ER m f c i
 have Y:=λm f=>ER m f o p
 have eb:=hR (L:=L) (R:=(Zz Cq a).map Zj) (T:=Zb (AM L (Zz Cq a) gs))
 have M:∀w,Zn 1 [] w=[.no]:=λ_=>rfl
 generalize Zb (AM L [] [zg L])=T1,(Zz Cq a).map Zj=R2,AD g=X,AD e=E,ps.map AW=PS at *
 suffices e:Vc ([#v[ns.map D.int],.no,.no,.no,.no,.no,.no,.no,.no,.no,.no],[])=.ret (.val (.bl J')) P from Eq.trans (fi rfl e) rfl
 generalize L.map LD=W,ns.map D.int=S,a.map Zj=RR,a.map Eo=PL,(EN 0 n).map (λk:Nat=>D.int k)=RG at *
 rwa[Vc,e8,eu,Dz,eL,HL,jG,jL,f0,xF,eZ,ez,Zi,M,qL,H,F,Pp,D1,ei,eY,eA,u 2 (by ext),show ∀V:Sl,Zn 1 [1,0] [#v[S],#v[W],V,.no,.no,.no,.no,.no,.no,.no,.no]=[.no,#v[W],#v[S]]from λ_=>rfl,N,K,q,qN,er,fR,eX,eB,u 1 (by ext),qR,zA,fP,EL,show DD "Book" "pour" (B5 L [] 1)=J' by rwa[DD,xI],Ik,FZ,show(0:Nat)<2 by ext,and_self,ep,Hg,eW,eC,v3 2 (by ext),c5,eg,fg,c,i2,(Cm.mp c).1,ek,eV,eF,Y 1 (by ext),Hc,Km,hQ,eb,DZ,f1,eU,eG,Y 2 (by ext),c7,ee,fe,eT,eH,GK n7 3 (by ext) (by ext),x,eS,eI,show Bt 2 (.bl J')=J' from rfl,eR,eJ,c8,Z4 n8 4 (by ext),eE]
end
variable{acc:U BV}
set_option tactic.hygienic true
noncomputable def A7(i:Nat):Au:=PySem.Challenge.pw_cubebook_k59_refused_questions.main.body.getD i (.Pass #[0,0,0,0])
noncomputable abbrev iM:U Ae:=["ladder","level","other"]
abbrev iN:U Ae:=["ladder","level","value"]
noncomputable abbrev iO:U Ae:=["ladder","level","thing"]
abbrev iP:U Ae:=["ladders","thing"]
abbrev iQ:U Ae:=["ladder","thing"]
abbrev iR:U Ae:=["ladders","thing"]
abbrev iS:U Ae:=["ladders","thing"]
abbrev iT:U Ae:=["ladders","thing"]
abbrev iU:U Ae:=["ladders","picks","axis"]
abbrev iV:U Ae:=["ladders","picks"]
abbrev iW:U Ae:=["ladder","level","chosen"]
abbrev iX:U Ae:=["ladder","kept_level","level","chosen"]
abbrev iY:U Ae:=["ladders","kept","grain","picks"]
abbrev iZ:U Ae:=["ladders","grain","to"]
abbrev i0:U Ae:=["ladders","rows","grain"]
abbrev i3:U Ae:=["ladders","thing"]
abbrev i4:U Ae:=["ladders","thing"]
abbrev i5:U Ae:=["standing","row"]
abbrev i6:U Ae:=["standing","row"]
abbrev i7:U Ae:=["ladders","rows","changes"]
abbrev i8:U Ae:=["ladders","rows","grains"]
abbrev i9:U Ae:=["ahead","behind"]
abbrev ja:U Ae:=["ahead","behind"]
abbrev jb:U Ae:=["ladder","level","other","chosen"]
abbrev jc:U Ae:=["ladders","kept","grain","picks"]
abbrev VU:U Ae:=["ladders","table","kept","grain","picks"]
abbrev jd:U Ae:=["ladders","table","kept","picks"]
abbrev je:U Ae:=["ladders","table","kept","picks"]
noncomputable abbrev jf:U Ae:=["self","ladders"]
abbrev jg:U Ae:=["self","changes"]
abbrev VV:U Ae:=["self","grain","picks"]
abbrev VW:U Ae:=["self","grain","picks"]
abbrev jh:U Ae:=["_law_script","_law_k"]
abbrev ji:U Ae:=["_law_cell_here","_law_many"]
abbrev jj:U Ae:=["_law_cell_here","_law_way","_law_k"]
abbrev jl:U Ae:=["_law_cell_here"]
abbrev jm:U Ae:=["_law_ladders_here","_law_cell_here"]
abbrev jn:U Ae:=["_law_ladders_here","_law_cell_here"]
abbrev jo:U Ae:=["_law_line","_law_level"]
abbrev jq:U Ae:=["_law_ladders_here","_law_cell_here"]
abbrev jr:U Ae:=["_law_grain_here","_law_cell_here"]
abbrev js:U Ae:=["_law_ladders_here","_law_cell_here"]
abbrev jt:U Ae:=["_law_ladders_here","_law_picks_here","_law_cell_here"]
abbrev ju:U Ae:=["_law_book","_law_word","_law_grain_here","_law_picks_here"]
abbrev fe(a:Ae)(s:Au)(p:U Ae):Ae×Au×U Ae:=(a,s,p)
abbrev me(a b:Ae)(s:Au)(p:U Ae):Ae×Ae×Au×U Ae:=(a,b,s,p)
def FT:U (Ae×Au×U Ae):=[fe "is_whole" (A7 5) ["thing"],fe "is_word" (A7 6) ["thing"],fe "is_value" (A7 7) ["thing"],fe "value_rank" (A7 9) ["thing"],fe "key_rank" (A7 10) ["key"],fe "in_order" (A7 11) ["keys"],fe "is_line" (A7 15) ["thing"],fe "go_together" (A7 16) ["lines"],fe "is_ladder" (A7 17) ["thing"],fe "whole_of" (A7 18) ["ladder"],fe "line_at" (A7 19) ["line","level"],fe "values_in_order" (A7 20) ["values"],fe "lifts" (A7 21) iM,fe "beneath" (A7 22) iN,fe "is_value_at" (A7 23) iO,fe "is_axis" (A7 35) iP,fe "is_level" (A7 36) iQ,fe "is_grain" (A7 37) iR,fe "finest" (A7 38) ["ladders"],fe "coarsest" (A7 39) ["ladders"],fe "is_pick" (A7 41) iS,fe "is_picks" (A7 42) iT,fe "picked" (A7 43) iU,fe "picked_everywhere" (A7 44) iV,fe "asked_of" (A7 46) iW,fe "apart_on" (A7 47) iX,fe "apart" (A7 48) iY,fe "cell_of" (A7 50) ["amounts"],fe "merged" (A7 51) ["one","other"],fe "ways_up" (A7 53) iZ,fe "goes_along" (A7 54) ["ways","key"],fe "merged_along" (A7 55) ["ways","table"],fe "table_of" (A7 56) i0,fe "is_finest_key" (A7 59) i3,fe "is_change" (A7 60) i4,fe "row_rank" (A7 61) ["row"],fe "put_in" (A7 62) i5,fe "take_out" (A7 63) i6,fe "poured" (A7 64) i7,fe "tables_at" (A7 65) i8,fe "keys_changed" (A7 66) i9,fe "cells_changed" (A7 67) ja,fe "picked_lifts" (A7 69) jb,fe "picked_ways" (A7 70) jc,fe "read" (A7 71) VU,fe "cells_picked" (A7 72) jd,fe "cells_read" (A7 73) je,fe "are_ladders" (A7 77) ["thing"],fe "_law_cell_at" (A7 80) jh,fe "_law_stream" (A7 81) ji,fe "_law_named" (A7 82) jj,fe "_law_ladder" (A7 83) jl,fe "_law_ladders" (A7 84) ["_law_script"],fe "_law_grain" (A7 87) jm,fe "_law_row" (A7 88) jn,fe "_law_value" (A7 91) jo,fe "_law_picks" (A7 92) jq,fe "_law_odd_grain" (A7 93) jr,fe "_law_odd_pick" (A7 94) js,fe "_law_odd_picks" (A7 95) jt,fe "_law_outcome" (A7 96) ju,fe "_law_copied" (A7 97) ["_law_thing"],fe "law" (A7 98) ["_law_script"]]
def MT:U (Ae×Ae×Au×U Ae):=[me "__init__" "Book.__init__" (IJ (A7 78) 0) jf,me "rows" "Book.rows" (IJ (A7 78) 2) ["self"],me "kept" "Book.kept" (IJ (A7 78) 3) ["self"],me "pour" "Book.pour" (IJ (A7 78) 4) jg,me "keep" "Book.keep" (IJ (A7 78) 5) ["self","grain"],me "plan" "Book.plan" (IJ (A7 78) 10) VV,me "answer" "Book.answer" (IJ (A7 78) 11) VW,me "tables_renewed" "Book.tables_renewed" (IJ (A7 78) 14) ["self"]]
noncomputable abbrev XT:U Ae:=["NoGrain","NoLadder","NoPick","NoRow","NoSuch","NoText","NoValue","TooMuch"]
structure Tx(K:Am)(mg:Bl)(d:Ac):Prop where
 cb:CI K mg "Book" d
 na_axes:Bx K d "axes"
 na_standing:Bx K d "standing"
 na_tables:Bx K d "tables"
 f:All (DX K mg) FT
 m:All (MX K d) MT
 n:All (λx=>mg x=J) ["ValueError","all","bool","dict","enumerate","int","isinstance","len","list","max","min","range","sorted","str","sum","tuple","zip"]
 g:All (λx=>∃u,mg x.1=Z u/\RelV x.2 u) [("FIGURES",(.str "0123456789")),("LETTERS",(.str "abcdefghijklmnopqrstuvwxyz")),("LONGEST_LINE",(.int 4)),("LONGEST_WORD",(.int 12)),("MOST_LADDERS",(.int 4)),("MOST_LINES",(.int 40)),("MOST_ROWS",(.int 200)),("MOST_TABLES",(.int 12))]
 z:XX K mg "CubeError"
 x:All (XX K mg) XT
 y:All (YY K XT) CS
section
variable{P:AI}{w:Ah}{K:Am}{mg:Bl}{base:Ak}{d:Ac}(T:Tx K mg d)
include T
set_option hygiene false in
local macro_rules | `(tactic|exists $a,$b,*)=>do let c <- b.getElems.mapM λx=>`(tactic|with_reducible refine $a h r ($x T) ?_ ?_ ?_ ?_ ?_);`(tactic|first $[| $c:tactic]*)
local macro_rules | `(tactic|exists $t)=>`(tactic|with_reducible show JE _ _ (tD _ _ _ (Zl $t _)))
local macro_rules | `(mutual $c* end)=>return Lean.mkNullNode (<- c[1:].toArray.mapM (·.raw.replaceM λ| `(tactic|trivial)=>return c[0]!.raw.find? (·.isOfKind ``Lean.Parser.Tactic.paren)|_=>return none))
mutual
example:=by(intros;rename_i h r;repeat' first
 |(refine(?_:JT _ _ (LS _ _));first|refine ul (RZ r.units) R0 ?_ ?_ (Ge _ (by ext) (by ext))|refine ux ?_ (Pm _ λ_ _=>?_))
 |(refine(?_:JE _ (.Subscript _ _ _) (CC _ (λs=>Ib _ _ _ s)));first|refine uw ?_ ?_)
 |(refine(?_:Ku _ _ _);first|refine ug Je h.nd ?_ ?_|refine uf ?_)
 |(refine(?_:Px _ _ _);first|with_reducible refine ui Je ?_ ?_|refine uh ?_)
 |(refine(?_:JB _ _ _);first|exact nz|with_reducible refine Xp ?_ ?_|refine Xp ?_ ?_|exact sG|with_reducible refine aG ?_ ?_|refine aG ?_ ?_)
 |(refine(?_:JA _ _ _);first|exact RN|refine OI ?_ ?_|exact aE|refine aF ?_ ?_)
 |(refine(?_:JE _ _ (Gv _ _ _ _));first|exact Sh _|refine Xl ?_)
 |(refine(?_:JE _ _ (tP _ _ _ _));first|exact pa _|exact ra|refine Xg ?_)
 |(refine(?_:JE _ _ (tQ _ _ _ _));first|exact pb _|refine nQ ?_)
 |(refine(?_:JE _ _ (EJ _ _));first|exact sD|refine sE T.cb.cof T.cb.cl (by first|exact T.na_axes|exact T.na_standing|exact T.na_tables) ?_)
 |(refine(?_:JE _ _ (tJ _ _));first|refine sw _ λ_ _=>?_)
 |(refine(?_:JS _ _ (tS _ _ _ (Hl _ _)));first|refine t0 ?_)
 |(refine(?_:JS _ (.Return _ _) _);first|refine nA ?_|exact pc _|refine nC ?_|exact qB _|refine nB ?_|refine sJ ?_)
 |(refine(?_:JS _ (.If _ _ _ _) _);first|refine nE ?_ ?_ ?_|refine p9 ?_ ?_ ?_|refine sI (Pm _ λ_ _=>?_) ?_ ?_|refine um ?_ ?_ ?_)
 |(refine(?_:JS _ (.Assign [.Name _ _] (.ListComp _ _ _ _) _) _);first|refine' tT h (LO (by decide +kernel)) rfl rfl rfl rfl ?_ (LP h (by decide +kernel) (λ_ _ _ _ _ _ _ h=>?_) (λ_ _ _ _ _ _ _ h=>?_) (λ_ _ _ _ _ _ _ h=>?_)) ?_|refine' tM h (LO (by decide +kernel)) rfl rfl rfl rfl ?_ (LP h (by decide +kernel) (λ_ _ _ _ _ _ _ h=>?_) (λ_ _ _ _ _ _ _ h=>?_) (λ_ _ _ _ _ _ _ h=>?_)) ?_|refine' tN h (LO (by decide +kernel)) rfl rfl rfl rfl ?_ (LP h (by decide +kernel) (λ_ _ _ _ _ _ _ h=>?_) (λ_ _ _ _ _ _ _ h=>?_) (λ_ _ _ _ _ _ _ h=>?_)) ?_|refine' uv h (LO (by decide +kernel)) rfl rfl rfl rfl (λ_ _=>?_) (LP h (by decide +kernel) (λ_ _ _ _ _ _ _ h=>?_) (λ_ _ _ _ _ _ _ h=>?_) (λ_ _ _ _ _ _ _ h=>?_)) ?_|refine aH h.nd ?_)
 |(refine(?_:JS _ (.Assign [.Name _ _] _ _) _);first|refine a9 h.nd ?_|refine rf _ h.nd ?_|refine nJ h.nd rfl (by first|exact Or.inl rfl|exact Or.inr rfl) ?_|refine nH h.nd rfl (by first|exact Or.inl rfl|exact Or.inr rfl) ?_|refine aH h.nd ?_)
 |(refine(?_:JS _ (.Assign [.Attribute _ _ _] _ _) _);first|refine sV T.cb.cof T.cb.cl (by first|exact T.na_axes|exact T.na_standing|exact T.na_tables) ?_ ?_)
 |(refine(?_:JS _ (.Assign _ _ _) _);first|refine a9 h.nd ?_|refine pC ?_ ?_|refine p6 r.units ?_ ?_|refine sY r.units ?_ ?_ ?_)
 |(refine(?_:JS _ (.For _ _ _ _ _) _);first|refine' nP PassesOwn.never rfl ?_ ?_ ?_|refine sN PassesOwn.never rfl ?_ h.nd ?_)
 |(refine(?_:JS _ (.Expr _ _) _);first|refine nM EB ?_|refine pB ?_|refine sK ?_)
 |(refine(?_:JS _ _ _);first|exact qC|exact sH|(obtain⟨_,q1,q2⟩:=t7 T.z T.y;refine tE _ CS Je rfl rfl ?_ ?_ q1 (by rfl) q2 h.nd rfl rfl (λ_=>?_)))
 |(refine(?_:JT _ (.Compare _ _ _ _) _);first|refine pi r.units ?_ ?_|refine pj r.units ?_ ?_|refine pq r.units ?_ ?_|refine pr r.units ?_ ?_|refine pu r.units ?_ ?_|refine pv r.units ?_ ?_|refine p0 r.units ?_ ?_|refine pZ r.units ?_ ?_|refine na ?_|refine nb ?_|refine p8 r.units ?_ ?_|refine uz r.units ?_ ?_)
 |(refine(?_:JT _ (.UnaryOp _ _ _) _);first|refine mR ?_)
 |(refine(?_:JT _ (.BoolOp _ _ _) _);first|refine Ya ?_)
 |(refine(?_:JT _ _ _);first|refine pz ?_|refine Ya ?_)
 |(refine(?_:JW _ _ _);first|refine mX ?_ ?_|refine mT ?_|refine mW ?_ ?_|refine mS ?_)
 |(refine(?_:JI _ _ _ _);first|refine nY (by rfl) (T.n.get 11 rfl) ?_|refine nZ (by rfl) (T.n.get 11 rfl) ?_|refine rV (by rfl) (T.n.get 16 rfl) ?_ ?_|refine sr (by rfl) (T.n.get 4 rfl) ?_|refine pA ?_|refine sL ?_|refine sM (by rfl) (T.n.get 11 rfl) ?_)
 |(refine(?_:JG _ _ _);first|exact re _ h.nd|refine' oh rfl ?_)
 |(refine(?_:JK _ _ _);first|exact n0|refine' og ?_ ?_)
 |(refine(?_:JF _ _ _);first|exact oi|refine oj ?_)
 |(refine(?_:JE _ (.Name _ _) _);first|exact o9 _|exact o8 (by rfl) (by first|exact T.g.get 0 rfl|exact T.g.get 1 rfl|exact T.g.get 2 rfl|exact T.g.get 3 rfl|exact T.g.get 4 rfl|exact T.g.get 5 rfl|exact T.g.get 6 rfl|exact T.g.get 7 rfl) (λ_ _=>by erw[As])|exact Sg (by rfl) (T.n.get 15 rfl) (by rfl)|refine aA ?_|refine SV ?_|exact Sg (by rfl) (by first|exact T.n.get 8 rfl|exact T.n.get 15 rfl) (by rfl))
 |(refine(?_:JE _ (.Constant _ _ _) _);first|exact Xh|exact mP|exact mM|exact mO|refine SV ?_)
 |(refine(?_:JE _ (.ListComp _ _ _ _) (ED _ _ _ _ _));first|refine' tR h (LO (by decide +kernel)) rfl rfl ?_ (LP h (by decide +kernel) (λ_ _ _ _ _ _ _ h=>?_) (λ_ _ _ _ _ _ _ h=>?_) (λ_ _ _ _ _ _ _ h=>?_)) ?_|refine' tL h (LO (by decide +kernel)) rfl rfl ?_ (LP h (by decide +kernel) (λ_ _ _ _ _ _ _ h=>?_) (λ_ _ _ _ _ _ _ h=>?_) (λ_ _ _ _ _ _ _ h=>?_)) ?_)
 |(refine(?_:JE _ (.Subscript _ _ _) _);first|refine rb ?_ ?_|refine pX r.units ?_ ?_ (λ_ _=>rfl)|refine oP ?_ ?_ ?_)
 |(refine(?_:JO _ _ _);first|refine oM ?_|exact oK)
 |(refine(?_:JE _ (.BinOp _ _ _ _) _);first|refine oH ?_ ?_|refine oB ?_ ?_|refine oz ?_ ?_|refine oA ?_ ?_|refine ow ?_ ?_|refine oC ?_ ?_)
 |(refine(?_:JE _ (.UnaryOp _ _ _) _);first|refine oD ?_|refine mY ?_)
 |(refine(?_:JE _ (.BoolOp _ _ _) _);first|refine m1 ?_ ?_|refine m2 ?_ ?_|refine mZ ?_)
 |(refine(?_:JE _ (.Compare _ _ _ _) _);first|refine pe r.units ?_ ?_|refine ph r.units ?_ ?_|refine pf r.units ?_ ?_|refine pY r.units ?_ ?_|refine m4 ?_|refine m5 ?_|refine X9 Ro Ro (Lk _) (Lk _) ?_ ?_ ?_|refine X9 Ro (XO r.units) (Lk _) XP ?_ ?_ ?_)
 |(refine(?_:JE _ (.Tuple _ _ _) _);first|refine nl ?_)
 |(refine(?_:JE _ (.List _ _) (ED _ _ _ _ _));first|refine nk ?_)
 |(refine(?_:JE _ (.Dict _ _ _) _);first|exact p5)
 |(refine(?_:JE _ (.IfExp _ _ _ _) _);first|refine m3 ?_ ?_ ?_)
 |(refine(?_:JE _ (.Attribute _ _ _) _);first|refine rj T.cb.cof T.cb.cl (by first|exact T.na_axes|exact T.na_standing|exact T.na_tables) ?_|refine aA ?_)
 |(refine(?_:JE _ (.Call (.Name _ _) _ [] _) (tD _ _ _ (Zh _ _)));first|exists aQ,yI,yJ,yK,yL,yM,yN,yO,yP,yQ,yR,yS,yT,yU,yV,yW,yX,yY,yZ,y0,y1,y3,y4,y6,y7,y8,y9,za,jv,zc,zd,ze,zf,zh,zi,zj,zk,jw,zl,zm,zn,zo,zp,zq,zr,zt,zu,zv,zw,zy,zz|with_reducible refine aQ h r ih ?_ ?_ ?_ ?_ ?_)
 |(refine(?_:JE _ (.Call (.Name _ _) _ [] _) (ED .l _ _ _ (Dz _ _)));first|exists tU,zA,zB,jw,zC,zD,zE,zF)
 |(refine(?_:JE _ (.Call (.Name _ _) _ [] _) (ED .d _ _ _ (IR _ _)));first|exists tV,zG)
 |(refine(?_:JE _ (.Call (.Name _ _) _ [] _) (CC _ (λs=>Hh _ (_) s)));first|exists tW,zH,zI,zJ,zK)
 |(refine(?_:JE _ (.Call (.Name _ _) _ [] _) _);first|exact q8 _ (T.n.get 7 rfl)|exact q9 _ (T.n.get 6 rfl) (by first|exact(T.n.get 5 rfl)|exact(T.n.get 2 rfl)|exact(T.n.get 15 rfl)|exact(T.n.get 8 rfl)|exact(T.n.get 13 rfl))|(exists Zt;refine Gx Wu XQ (by rfl) (T.n.get 7 rfl) (by rfl) ?_)|(exists LK;refine Gx r9 sd (by rfl) (T.n.get 7 rfl) (by rfl) ?_)|(exists Dq;refine Gx (mC (b:=J') rfl) (oV (b:=J')) (by rfl) (T.n.get 1 rfl) (by rfl) ?_)|(exists OY;refine Gx (oZ rfl) o5 (by rfl) (T.n.get 14 rfl) (by rfl) ?_)|(exists MZ;refine Gx (XW (b:=J') rfl) (X0 (b:=J')) (by rfl) (T.n.get 10 rfl) (by rfl) ?_)|(exists M0;refine Gx (XW (b:=O') rfl) (X0 (b:=O')) (by rfl) (T.n.get 9 rfl) (by rfl) ?_)|(exists OV;refine Gx (k7 rfl) oX (by rfl) (T.n.get 10 rfl) (by rfl) ?_)|(exists OU;refine Gx (k6 rfl) oW (by rfl) (T.n.get 9 rfl) (by rfl) ?_)|(exists Ca;refine Gx X7 X8 (by rfl) (T.n.get 6 rfl) (by rfl) ?_)|(exists Dp;refine Xn l3 oS (by rfl) (T.n.get 15 rfl) (by rfl) ?_)|(exists intD;refine Xn k8 oY (by rfl) (T.n.get 5 rfl) (by rfl) ?_)|refine Xo l0 oR (by rfl) (T.n.get 8 rfl) (by rfl) ?_|refine Xo (qX rfl) qY (by rfl) (T.n.get 8 rfl) (by rfl) ?_|refine qA rfl r.units (by rfl) (T.n.get 3 rfl) ?_|refine tf rfl r.units (by rfl) (T.n.get 12 rfl) (by rfl) ?_|exact t5 (T.n.get 6 rfl) T.x T.y|exact t3 (T.n.get 6 rfl) (T.n.get 0 rfl) (t6 T.y)|refine tY h r T.cb (zL T) rfl ?_)
 |(refine(?_:JE _ (.Call (.Name _ _) _ _ _) _);first|refine aR h r (jv T) (T.n.get 12 rfl) rfl ?_|refine aR h r (zM T) (T.n.get 12 rfl) rfl ?_)
 |(refine(?_:JE _ (.Call (.Attribute _ _ _) _ _ _) _);first|refine aS h r T.cb (zN T) rfl ?_|refine aS h r T.cb (zO T) rfl ?_|refine Pt h r T.cb (zP T) rfl ?_ ?_|refine tZ h r T.cb (zQ T) rfl ?_|refine Pt h r T.cb (zR T) rfl ?_ ?_|refine Pt h r T.cb (zS T) rfl ?_ ?_|refine Pt h r T.cb (zT T) rfl ?_ ?_|refine pD PySem.F.plainAttrs_str PySem.F.slot_str_join PySem.F.type_str_join mz pF ?_ ?_|refine rL r.units ?_ ?_|refine sW ?_ ?_|refine sX r.units ?_ ?_|refine YD r.units ?_ ?_)
 |(refine(?_:JE _ _ (CC _ _));first|refine SV ?_|refine sB (ay _ λ_ _=>?_)|refine sC (ay _ λ_ _=>?_))
 |(refine(?_:JE _ _ (tD _ _ _ _));first|refine mI ?_)
 |refine sF ?_
 |refine aC ?_
 |refine YD r.units ?_ ?_
 |(refine(?_:GG _ _ _);first|exact tm|refine tu Je (Pm _ λ_ _=>?_) ?_ ?_|refine uj Je (Pm _ λ_ _=>?_) ?_ ?_|refine tq ?_)
 |(refine(?_:Np _ _ _);first|refine tw ?_|refine t8 Je rfl T.x T.y (by rfl) ?_)
 |(refine(?_:Kr _ _ _);first|refine aT h r T.cb Je (zU T) rfl ?_ ?_|refine aT h r T.cb Je (zV T) rfl ?_ ?_|refine uy ?_)
 |rfl
 |exact Fj
 |exact A5 _
 |decide)
theorem yI:OF P w K mg base 1 "is_whole" (AU K F6):=Bo ["thing"] (T.f.get 0 rfl) (by trivial)
theorem yJ:OF P w K mg base 1 "is_word" (AU K Ic):=Bo ["thing"] (T.f.get 1 rfl) (by trivial)
theorem yK:OF P w K mg base 1 "whole_of" (AU K Nt):=Bo ["ladder"] (T.f.get 9 rfl) (by trivial)
theorem yL:OF P w K mg base 1 "line_at" (AU K Fu):=Bo ["line","level"] (T.f.get 10 rfl) (by trivial)
theorem yM:OF P w K mg base 1 "finest" (AU K Nu):=Bo ["ladders"] (T.f.get 18 rfl) (by trivial)
theorem yN:OF P w K mg base 1 "cell_of" (AU K PH):=Bo ["amounts"] (T.f.get 27 rfl) (by trivial)
theorem yO:OF P w K mg base 1 "merged" (AU K LU):=Bo ["one","other"] (T.f.get 28 rfl) (by trivial)
theorem yP:OF P w K mg base 1 "goes_along" (AU K Jj):=Bo ["ways","key"] (T.f.get 30 rfl) (by trivial)
theorem zH:OF P w K mg base 1 "put_in" (CV K Tb):=Ps i5 (T.f.get 36 rfl) (by trivial)
theorem zI:OF P w K mg base 1 "take_out" (CV K bi):=Ps i6 (T.f.get 37 rfl) (by trivial)
theorem zN:OM P w K mg base d Bg 1 "rows" (AU K PJ):=aO ["self"] (T.m.get 1 rfl) (by trivial)
theorem zO:OM P w K mg base d Bg 1 "kept" (AU K Te):=aO ["self"] (T.m.get 2 rfl) (by trivial)
theorem yQ:OF P w K mg base 1 "_law_cell_at" (AU K ZE):=Bo jh (T.f.get 48 rfl) (by trivial)
theorem yR:OF P w K mg base 1 "_law_stream" (AU K Ho):=Bo (ji.append ["_law_number","_law_found","_law_k"]) (T.f.get 49 rfl) (by trivial)
theorem yS:OF P w K mg base 1 "_law_named" (AU K Jk):=Bo (jj.append ["_law_signs","_law_size","_law_at","_law_word"]) (T.f.get 50 rfl) (by trivial)
theorem yT:OF P w K mg base 1 "_law_value" (AU K Tg):=Bo jo (T.f.get 55 rfl) (by trivial)
theorem yU:OF P w K mg base 1 "_law_odd_grain" (AU K Ti):=Bo (jr.append ["_law_some"]) (T.f.get 57 rfl) (by trivial)
theorem yV:OF P w K mg base 1 "_law_odd_pick" (AU K Tk):=Bo (js.append ["_law_axis","_law_some"]) (T.f.get 58 rfl) (by trivial)
theorem jx:∀n,OF P w K mg base n "_law_copied" (AU K (GH n))
 |0=>uA (T.f.get 61 rfl)
 |n+1=>have ih:=jx n;Bo ["_law_thing"] (T.f.get 61 rfl) (by trivial)
theorem yW:OF P w K mg base 6 "_law_copied" (AU K To):=jx T 6
theorem yX:OF P w K mg base 2 "is_value" (AU K LW):=Bo ["thing"] (T.f.get 2 rfl) (by trivial)
theorem yY:OF P w K mg base 2 "value_rank" (AU K PQ):=Bo ["thing"] (T.f.get 3 rfl) (by trivial)
theorem yZ:OF P w K mg base 2 "lifts" (AU K PR):=Bo iM (T.f.get 12 rfl) (by trivial)
theorem y0:OF P w K mg base 2 "is_axis" (AU K Tq):=Bo iP (T.f.get 15 rfl) (by trivial)
theorem y1:OF P w K mg base 2 "is_level" (AU K PU):=Bo iQ (T.f.get 16 rfl) (by trivial)
theorem y3:OF P w K mg base 2 "coarsest" (AU K Tt):=Bo ["ladders"] (T.f.get 19 rfl) (by trivial)
theorem y4:OF P w K mg base 2 "asked_of" (AU K PV):=Bo (iW.append ["asked","line"]) (T.f.get 24 rfl) (by trivial)
theorem y6:OF P w K mg base 2 "picked_lifts" (AU K TC):=Bo jb (T.f.get 42 rfl) (by trivial)
theorem y7:OF P w K mg base 2 "_law_ladder" (AU K PZ):=Bo (jl.append ["_law_xs","_law_many","_law_places","_law_sizes","_law_j","_law_lines","_law_k","_law_line","_law_at"]) (T.f.get 51 rfl) (by trivial)
theorem y8:OF P w K mg base 2 "_law_grain" (AU K NA):=Bo (jm.append ["_law_xs"]) (T.f.get 53 rfl) (by trivial)
theorem y9:OF P w K mg base 2 "_law_row" (AU K TJ):=Bo (jn.append ["_law_xs","_law_key"]) (T.f.get 54 rfl) (by trivial)
theorem zA:OF P w K mg base 2 "_law_picks" (AU K TL):=Bo (jq.append ["_law_xs","_law_picks_here","_law_k","_law_axis","_law_ladder_here","_law_level","_law_values","_law_j","_law_at","_law_value_here"]) (T.f.get 56 rfl) (by trivial)
theorem za:OF P w K mg base 2 "_law_odd_picks" (AU K TQ):=Bo (jt.append ["_law_at"]) (T.f.get 59 rfl) (by trivial)
theorem jv:OF P w K mg base 3 "key_rank" (AU K LY):=Bo ["key"] (T.f.get 4 rfl) (by trivial)
theorem zc:OF P w K mg base 3 "is_line" (AU K Jl):=Bo ["thing"] (T.f.get 6 rfl) (by trivial)
theorem zd:OF P w K mg base 3 "is_grain" (AU K Z0):=Bo iR (T.f.get 17 rfl) (by trivial)
theorem ze:OF P w K mg base 3 "is_pick" (AU K FY):=Bo iS (T.f.get 20 rfl) (by trivial)
theorem zf:OF P w K mg base 3 "apart_on" (AU K P9):=Bo (iX.append ["asked","firsts","line","first"]) (T.f.get 25 rfl) (by trivial)
theorem zh:OF P w K mg base 3 "ways_up" (AU K Qb):=Bo iZ (T.f.get 29 rfl) (by trivial)
theorem zB:OF P w K mg base 3 "_law_ladders" (AU K ND):=Bo ["_law_script","_law_many","_law_ladders_here"] (T.f.get 52 rfl) (by trivial)
theorem zi:OF P w K mg base 4 "go_together" (AU K Ie):=Bo ["lines","seen","finest_seen","line","level","value","later"] (T.f.get 7 rfl) (by trivial)
theorem zj:OF P w K mg base 4 "is_picks" (AU K GJ):=Bo iT (T.f.get 21 rfl) (by trivial)
theorem zM:OF P w K mg base 4 "row_rank" (AU K Qk):=Bo ["row"] (T.f.get 35 rfl) (by trivial)
theorem zk:OF P w K mg base 5 "is_ladder" (AU K Jm):=Bo ["thing"] (T.f.get 8 rfl) (by trivial)
theorem jw:OF P w K mg base 6 "in_order" (AU K NJ):=Bo ["keys","told","key"] (T.f.get 5 rfl) (by trivial)
theorem zl:OF P w K mg base 6 "are_ladders" (AU K NK):=Bo ["thing"] (T.f.get 47 rfl) (by trivial)
theorem zC:OF P w K mg base 7 "values_in_order" (AU K NM):=Bo ["values"] (T.f.get 11 rfl) (by trivial)
theorem zD:OF P w K mg base 7 "merged_along" (AU K NP):=Bo ["ways","table","cells","key","cell","there"] (T.f.get 31 rfl) (by trivial)
theorem zm:OF P w K mg base 7 "keys_changed" (AU K Qm):=Bo (i9.append ["cells_ahead","cells_behind","keys"]) (T.f.get 40 rfl) (by trivial)
theorem zn:OF P w K mg base 8 "beneath" (AU K Up):=Bo iN (T.f.get 13 rfl) (by trivial)
theorem zo:OF P w K mg base 8 "picked" (AU K Qn):=Bo (iU.append ["lines","pick","among"]) (T.f.get 22 rfl) (by trivial)
theorem zp:OF P w K mg base 8 "table_of" (AU K Qo):=Bo (i0.append ["single"]) (T.f.get 32 rfl) (by trivial)
theorem zE:OF P w K mg base 8 "cells_changed" (AU K Uy):=Bo (ja.append ["changed","grain"]) (T.f.get 41 rfl) (by trivial)
theorem zq:OF P w K mg base 9 "is_value_at" (AU K Qq):=Bo iO (T.f.get 14 rfl) (by trivial)
theorem zr:OF P w K mg base 9 "picked_everywhere" (AU K Qr):=Bo iV (T.f.get 23 rfl) (by trivial)
theorem zG:OF P w K mg base 9 "tables_at" (AU K Qs):=Bo i8 (T.f.get 39 rfl) (by trivial)
theorem zP:OM P w K mg base d Bg 9 "keep" (CV K NS):=LQ ["self","grain"] (T.m.get 4 rfl) (by trivial)
theorem zt:OF P w K mg base 10 "apart" (AU K Jp):=Bo (iY.append ["chosen","axis","ladder","two"]) (T.f.get 26 rfl) (by trivial)
theorem zu:OF P w K mg base 10 "is_finest_key" (AU K UM):=Bo i3 (T.f.get 33 rfl) (by trivial)
theorem zv:OF P w K mg base 10 "picked_ways" (AU K Qu):=Bo (jc.append ["chosen"]) (T.f.get 43 rfl) (by trivial)
theorem zL:OM P w K mg base d Bg 10 "__init__" (CV K UP):=LQ jf (T.m.get 0 rfl) (by trivial)
theorem zQ:OM P w K mg base d Bg 10 "tables_renewed" (CV K UR):=LQ ["self","ahead"] (T.m.get 7 rfl) (by trivial)
theorem zw:OF P w K mg base 11 "is_change" (AU K Qw):=Bo i4 (T.f.get 34 rfl) (by trivial)
theorem zF:OF P w K mg base 11 "read" (AU K UU):=Bo VU (T.f.get 44 rfl) (by trivial)
theorem ZDw:OX P w K mg base 11 "read" (Hi K uT):=uo VU (T.f.get 44 rfl) (by trivial)
theorem zy:OF P w K mg base 11 "cells_picked" (AU K UX):=Bo (jd.append ["ways"]) (T.f.get 45 rfl) (by trivial)
theorem zJ:OF P w K mg base 12 "poured" (CV K UZ):=Ps (i7.append ["standing","change"]) (T.f.get 38 rfl) (by trivial)
theorem zz:OF P w K mg base 12 "cells_read" (AU K U1):=Bo je (T.f.get 46 rfl) (by trivial)
theorem zR:OM P w K mg base d Bg 13 "pour" (CV K U3):=LQ jg (T.m.get 3 rfl) (by trivial)
theorem zS:OM P w K mg base d Bg 13 "plan" (CV K NU):=LQ (VV.append ["best","kept","cells"]) (T.m.get 5 rfl) (by trivial)
theorem zU:OM P w K mg base d (Jd P w) 13 "plan" (Hi K Ig):=a7 (VV.append ["best","kept","cells"]) (T.m.get 5 rfl) (by trivial)
theorem zT:OM P w K mg base d Bg 14 "answer" (CV K Qy):=LQ (VW.append ["kept"]) (T.m.get 6 rfl) (by trivial)
theorem zV:OM P w K mg base d (Jd P w) 14 "answer" (Hi K U7):=a7 (VW.append ["kept"]) (T.m.get 6 rfl) (by trivial)
theorem zK:OF P w K mg base 15 "_law_outcome" (CV K Z7):=Ps (ju.append ["_law_found","e","_law_kinds"]) (T.f.get 60 rfl) (by delta Jq L4 L3 Qz ef;trivial)
theorem zW{fn:Ac}{fd:B6}(D:DI K mg "law" (A7 98) ["_law_script"] fn fd):AQ P w K mg base Bg 16 fn fd ["_law_script"] (CV K e9):=aP ["_law_script","_law_ladders_here","_law_book","_law_rows","_law_ahead","_law_grain_here","_law_picks_here","_law_due","_law_way","_law_handed","_law_word"] D (by trivial)
end
end
theorem fin{l:PySem.W.OpenLaw}{w:Ah}{K:Am}{h:Ak}{mg:Bl}{b:Ac}(_:K.In h)(a:mg "law"=Z (.ref b)):(∃d,Tx K mg d)->∃fd:B6,(∀(s:Ab)(v:Aa),BindsTo s fd #[[v],[]] [("_law_script",v)])/\∀base:Ak,K.In base->base.Ns BN mg->AQ l.prog w K mg base Bg 16 b fd ["_law_script"] (MA K):=
 λ⟨_,T⟩=>let⟨_,_,D⟩:=T.f.get 62 rfl;tj a D (λ_=>zW T D) (λns _=>yH ns) λ_ _ _ _ _ _ _=>rfl
theorem walk{l:PySem.W.OpenLaw}{q:AI}{b:U Ae}{i:(Bl)->Ak->Prop}{e:Ah->Ak->Prop}{d:DefRec}{K:Params->Am}(j:l.most=Z 63)(c:d.params.defaults=[])
  (m:∀(w:Ah) (h:Ak),e w h->(K w.params).In h)
  (F:∀(w:Ah) (mg:Bl) (g:Ac) (h:Ak),(K w.params).In h->h.Ns BN mg->mg d.name=Z (.ref g) ->
   ∃fd:B6,(∀(s:Ab) (u:Aa),BindsTo s fd #[[u],[]] [("_law_script",u)])/\∀base:Ak,(K w.params).In base->base.Ns BN mg->AQ l.prog w (K w.params) mg base Bg 16 g fd ["_law_script"] (MA (K w.params))):
  PySem.W.WalkO q b i e l.row.toRowW d [] (λf vs=>PySem.call f vs):=
 L2.walk_of (n:=63) (k:=16) (x:="_law_script") (CX:=λ_=>Bg) (sp:=λw=>MA (K w.params)) j (by ext) c #[rfl,by ext,by ext] m F (λ_ _ a ns o _ p=>#[a,ns,rfl,p,o,λ_=>rfl]) λ_ _ _ _ _ z=>z
end K59
variable{acc:U K59.BV}
end
structure PySem.W.Fast:Prop where(tw10302244360787911465 tw11987372137788636218 tw3782543449016570289 tw1893659142413085535 tw642813104441377896 tw3074753433997144607 tw234561159027585280 tw3549835594037723692 tw16183300326438262073 tw12489427371176541534 tw11688690993393129710 tw10420536856177938490 tw2595376479979678767 tw5146163791950116840 tw2102024291838538753 tw5960279693242534215 tw13241922325622896724 tw6738625325881895546 tw10386964870090490305 tw11535279072350640538 tw14073782924608056760 tw17044981774949358416 tw4187292885721264264 tw270453286556271394 tw7514219055001705204 tw6584828603140190913 tw10881900891726766017 tw17146628036321756665 tw11336527078389718697 tw3485880948908186915 tw10340360589016307469 tw11499125881771553028 tw5629935650067263003 tw8901859645068889289 tw15335392590868298534 tw16520467204996522485 tw3265970411186787714 tw16079903309244681007 tw10383522071076106372 tw4551172746074195822 tw1749367127623816556 tw3636874028590708926 tw6125113410886079962 tw5738906252934835109 tw7966602972320641059 tw10936124633602473923 tw6098863307320209727 tw5176584202365349643 tw2791615016177202038 tw8072325668325733842 tw17505191525381249466 tw14734134225381759158 tw14316758646515077770 tw8377870803570359315 tw10215156957305739485 tw17243044097421990673 tw16775382822448802431 tw16114099794299795390 tw120059318017426238 tw11369321273020331366 tw696019639945100443 tw4358739046992650281 tw2974787407241487953 tw17320773589540853052 tw4743146641674965334 tw10098462148304382989 tw12356017224490536058 tw5807093128406631944 tw11563151852331720425 tw10818861713812233435 tw3340924032092003966 tw1952619533909918161 tw13684833045645523727 tw15571900169678773115 tw6938240175478995326 tw4334590752271592962 tw11711389565552643715 tw6061156776152809461 tw14568136934011154794 tw122803633889448029 tw6417194596838731644 tw8820725186316854852 tw6822903281589660021 tw3103664555289781184 tw8040222113086891374 tw9333288309002089295 tw2493955623704452810 tw2562798940379246411 tw10298749042427454494 tw13697013765597514830 tw5772615524792219260 tw3689851293926506494 tw4433083073121098156 tw8030333592450954228 tw2332893572737418682 tw16132757276756481691 tw5968315134285546538 tw5871744490992682731 tw1320592984644797343 tw18227246068452789737 tw13758285036232753875 tw446343890824657824 tw10388373653544278111 tw8968843390144594809 tw3509406570454526574 tw8267976957920561007 tw3212709558613323332 tw7813090794425873297 tw18446516597942573696 tw85187814807379113 tw17788456793973151515 tw8828234341970564383 tw15979598720132536045 tw10669946049109115868 tw12176932601735527476 tw15654741415360512683 tw11457511944485548547 tw9754043961760489273 tw7612492854795797557 tw13335999345223885224 tw1297460007820637062 tw3403848982262906070 tw12472178029300349997 tw6819512651077562906 tw13335588289742997766 tw11931466944668197212 tw7717614491020608206 tw5227454917860609431 tw15882017545148142318 tw3782558699368045374 tw3188042111647521877 tw3967723542105149707 tw10740383123124313630 tw16032754604769681193 tw3959819438446238600 tw1366645279368813176 tw17879738762939803761 tw12204793399890096187 tw17407413500594375938 tw13075194482530829585 tw6623243678319320824 tw5620108172898427748 tw12227032948402836957 tw12823936813735689321 tw2215156015445941201 tw16914242021784218159 tw7953892954276797848 tw18272546758175682629 tw17220011561544621281 tw6145993986785547773 tw7016345037504273485 tw17859088922282927320 tw11374855249149709116 tw9796831688088476608 tw15458080945726928377 tw17515129354660655025 tw17183334179275255721 tw8767530930723907340 tw14836653830515332799 tw444157749103338374 tw9308130778569922236 tw12237069840484091022 tw393650265955431334 tw8273130693161436087 tw2433265518414557210 tw13783182245623410968 tw14284517657332351470 tw18041261395395904347 tw2700571143018610961 tw7725026281468236371 tw4726029007007230585 tw9681205870840500111 tw7112297924044742959 tw14571204328160764741 tw1219175068626247594 tw15021933363139691437 tw17020096124312555772 tw4205733254515492263 tw4358598991799028519 tw11664621256981785662 tw16028415281487357848 tw15732913982688224487 tw17615688616479135900 tw5149301309235658226 tw14338152044762211338 tw13929635078401904968 tw2383500229896104911 tw6138731813091998004 tw8148171797790611662 tw7160240984349065222 tw9287662189675323894 tw541023216940029673 tw3550994917871064074 tw14382650744614626777 tw8869071374224637161 tw14550366321306068387 tw17744299261305152290 tw8766985171172324786 tw13821453885090537446 tw16483789302489532599 tw10109383277289655478 tw9979169086775051247 tw5659389449411061552 tw3221430080559571613 tw15645578248090899159 tw12524105536120835096 tw14991316503993682286 tw10100288784547514356 tw5801998355641140052 tw17301520466730874149 tw15458345660374288014 tw11125078724470945235 tw14309813884545270552 tw9096682647055174986 tw4592710724466961978 tw3050521181715620658 tw14531566007366329761 tw6724260725156358586 tw343092078794856007 tw10925955564409318378 tw4413726250511054860 tw3295889497443602296 tw2559982804624317725 tw12671959655940322791 tw5012768113037911237 tw14378241271055669563 tw14143784580414490217 tw15683989977892771351 tw4273306561533014493 tw15262523792480099023 tw17357013304450220935 tw4707008183276117255 tw2363653516280690996 tw14237407981555796410 tw12340184532191719806 tw16373572197782012221 tw15045073807695891895 tw3958517287390057134 tw3432250547914512765 tw2643781365466567064 tw2448790342412772259 tw13258433966522450858 tw10336866685846483266 tw6884370699556508761 tw7856382585965219284 tw17683382194203331674 tw6687775076279522744 tw3476087545505352841 tw16593212454859191514 tw9566944037227284925 tw7487874799314852661 tw3316811687186816964 tw2176085501336299913 tw1899100474669479862 tw16956824724269486684 tw15608820777731142479 tw10468979353861319333 tw13027429044682419290 tw6738672715170039945 tw2926952688268369283 tw15986247700014089734 tw7575341575850672611 tw319622333088862938 tw16799578195519734169 tw13623331372336825292 tw7868429201887532179 tw7200191634864594764 tw1896985255347448612 tw1251573085877512031 tw6639901549894192234 tw9488791401613816780 tw7444342895130938080 tw15241178863698512390 tw7891016982474997506 tw4317232763628929380 tw15362376814216256492 tw5009886527270099317 tw14370435882148655206 tw8422201868012183223 tw18328962805692178791 tw16346301378538543092 tw5231191858080847240 tw12344148633245683608 tw6006676432354763446 tw11201030754627050557 tw6376745411481701192 tw16936928603842854568 tw10426001702291129559 tw7956016747274870913 tw1593710841415502602 tw12464519266307438424 tw4102747502183900327 tw3829954791273477741 tw294418610908196383 tw5081956919282800565 tw3278771572944283390 tw2842284513360332040 tw15802498473188023354 tw2126592210412007123 tw15912812955251342360 tw8283824120468699154 tw6967492401911390925 tw5825605214590327936 tw2156281051447747950 tw14681455895511979773 tw14365165681799254267 tw10857488544577406874 tw10119929758577680258 tw13923089524192648924 tw10310811720530110301 tw1753598310322104896 tw14116876453078478931 tw13697187742756197166 tw6572283926486047904 tw5521070098635831406 tw303207048879184362 tw15281407040671791009 tw8907207256335801118 tw4348918883506700953 tw2753883196560716427 tw12659780380360858107 tw12024510026925609210 tw11348847487282101084 tw10387080150237604165 tw9178416529035763474 tw8317622816395225445 tw5081740870477861538 tw3509242047051310367 tw2643916509445060855 tw17533321961982700954 tw12162773032406609408 tw11512454659093379460 tw6406916121786135330 tw5460450900199426072 tw4893036796242680168 tw3349767309776430993 tw15836825357981371040 tw11905123502753902225 tw18116988535952728584 tw11953060052103813600 tw8906070137394155062 tw7784104227206173657 tw4348182054015093187 tw16224787495953647985 tw1425468086061481295 tw10893819525878281065 tw3906143860699107480 tw2828867434567429244 tw17461603679545484796 tw13291259714561570612 tw3285893252358218962 tw17898201503899057421 tw17537446849601193743 tw10756873664800283897 tw2646885467243482679 tw14777141167472462618 tw13430548757558009228 tw17348481475939286522 tw9569721251102384821 tw201666047845500999 tw2742177699675409410 tw17598609179140720086 tw6136413773611372779 tw5663594693909306407 tw534071573655069314 tw15077645964445720341 tw844963370537306501 tw4433569712592381962 tw3836381899957701962 tw15998703911592594950 tw4641048016519846323 tw12738106194106537234 tw5537987375348212062 tw324183071514877782 tw12366821461770733944 tw13022991283398530092 tw9819015732395590657 tw12671625496312376861 tw10378514235698874338 tw117372655494679820 tw11010848229579690951 tw5995380236372783046 tw3150580463802276295 tw11867489454933076509 tw2312802991749479683 tw11804689029122530076 tw617469207640113007 tw6104636140350330404 tw1956733791001992576 tw17508032188972486115 tw15805487727618525089 tw13828412755927258952 tw16866323316947944894 tw14925713123364975144 tw18185662296055774487 tw18042351639680066598 tw17573716190250278144 tw8414097164621381794 tw4140769251120863106 tw15758325148049366106 tw225277244691407453 tw731763924151961280 tw12760233561726232188 tw3469347697022177654 tw1974073698813521280 tw12186892148468550159 tw926989127277798878 tw4669111010820163416 tw15417717392888475730 tw2303946789477622928 tw11793793732610938892 tw12366728889827299973 tw17443546170648731451 tw4402613577123221797 tw14535364678113813944 tw2702288233834639996 tw16476508600487321677 tw12814556633304469673 tw5815725872221287734 tw17797156789411606938 tw11559647941893841124 tw13284965683711023481 tw11120372592195033803 tw9436034528092366780 tw244487311198240988 tw2112973202345651988 tw1853886970081610329 tw16766746713226725038 tw1487742507733625928 tw13906381192717242233 tw9956170180950819629 tw9924973062117845073 tw8931712380698716118 tw563235589492173461 tw5002185005575720496 tw13900981054481043551 tw1319059442771666639 tw1291756660083360005 tw11746211993569481989 tw4584521386576199664 tw15150114034718680523 tw14470737780686876790:True)
open PySem PySem.W PyProof.Rows
set_option maxRecDepth 100000 in
set_option maxHeartbeats 0 in
theorem PySem.Challenge.cw_cubebook_k59_refused_questions_holds : PySem.Challenge.rw_cubebook_k59_refused_questions.Holds := by
 w_on;o_law;k_head;(case hw=>w_witness2)
 k_fill
 refine K59.walk (l:=PySem.Challenge.rw_cubebook_k59_refused_questions) rfl rfl (fun w h Y=>PySem.W.kIn_of Y) ?F
 case F =>
  intro w mg fa h KX G hmg
  open L2 in refine' K59.fin KX hmg ⟨_,⟨L2.ci KX G ?_ ?_ ?_ ?_ ?_ ?_ ?_,?_,?_,?_,?_,?_,?_,?_,⟨_,mg_of KX G ?_,?_⟩,?_,?_⟩⟩
  open L2 in repeat (any_goals (show L2.All _ _;first | exact True.intro | refine' ⟨⟨_,_,L2.di KX G ?_ ?_ ?_ ?_⟩,?_⟩ | refine' ⟨⟨_,_,L2.mi ?_ ?_ ?_ ?_ ?_⟩,?_⟩ | refine' ⟨mg_none_of KX G ?_,?_⟩ | refine' ⟨⟨_,mg_of KX G ?_,⟨_,rfl⟩⟩,?_⟩ | refine' ⟨⟨_,mg_of KX G ?_,?_⟩,?_⟩ | refine' ⟨⟨_,?_,L2.mk_of ?_ ?_,⟨?_,?_,?_,?_,?_,?_,⟨_,?_⟩⟩,L2.kit_V ?_,⟨_,?_,L2.exm_of ?_ ?_ ?_ ?_⟩,?_⟩,?_⟩ | refine' ⟨⟨_,?_,?_⟩,?_⟩))
  all_goals try (show (_:Prop);first | k_is | rfl | k_exc | exact L2.kit_self | (refine' L2.kit_ne ?_ ?_ ?_ ?_<;>first | k_is | rfl))
#print axioms PySem.Challenge.cw_cubebook_k59_refused_questions_holds
