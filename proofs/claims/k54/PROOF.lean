import PyProof.Rows.All
import Wide.All
import OpenK.AllK
import Wide.FinOn
import Lean
import PyProof.EqAt
import PyProof.EqKinds
import PyProof.TupleCall
import PyProof.TupleKey
import PyProof.DictRoadsH
import Wide.Seal
import PyProof.NeKinds
import PyProof.ZipIter
import PyProof.EnumMake
import PyProof.Rows.TupTab
import KE.KDictLaws
import PyProof.AutoListH
import PyProof.AttrMissHeap
import KE.KDictOf
import KE.KIntText
import PyProof.StrBlockL
import PyProof.StrLawsChain
import PyProof.FString
import PyProof.Rows.FStr
import OpenK.KOwn
import KE.KIsAll
import KE.KDictList
import PyProof.Draws
import PySem.Challenge.RW_cubebook_k54_kept_and_forgotten
open PySem.W renaming Frag→Ao,emptyDict→Jo,keepIn→Im,findIn→Jn,instObj→Kl,fnOf→Js,callWith_K→RV
open PySem renaming wpAny_bind→Al,sizeLine→Ax,starEach→AC,wpAny_pure→AN,Spec→Qak,Program→AM,mainGlobals→BU,wpAny_loadPart'→ET,foldedSetIterable→EQ,FuncData→Cd,bootBuiltins→Ec,wpAny_field→Ev,compareOp→DC,wpAny_setField_rec→HN,wpAny_holding→FC,swapsWith→Ef,attributeBase→F6,wpAny_mono→EN,wpAny_truthy_bool→Ij,wpAny_callSpecial?_slot→LI,behindInMarks→GV,keywordEach→F8,Keyword→D1,wpAny_newObj_type→Jv,holding→Ee,tupleKind_room_in1→KO,codeAny_builtin→JC,mem_of_lookup→LC,assignEach→Gx,wpAny_call_entry→Kr,sysModules→GS,backToKw→F7,Builtin→Fk,sizeLine_eq→Il,sliceBounds→Iq,DictEntry→GR,wpAny_Call_Name_kw→MP,wpAny_dictEntries→Nm,binaryOp→GZ,NameKind→G4,wpAny_getItem_str_slice→Sh,plainId_quiet→LN,wpAny_rule→Ju,wpAny_typeNameOfWhole_keyiter→bv,wpAny_pyIter_list→OJ,atKey_none_of_get→Ps,wpAny_loadPart_at→Pz,codeAny_mono→LB,wpAny_typeOf→LJ,wpAny_notOrdered_dict→SQ,wpAny_setField→Ny,codeAny_call_builtin→Td,wpAny_passesOwn→OO
open List renaming mem_cons_of_mem→Be,mem_cons_self→Ba,map_cons→AS,length_map→Bi,mem_cons→Bo,getElem?_cons_zero→Cw,getElem?_cons_succ→CC,getElem?_eq_getElem→CK,size_toArray→BV,mem_map→Bp,getElem?_eq_some_iff→C8,range→Bq,length_cons→Cg,mem_append_right→Dk,getElem?_map→Dy,getElem?_set_ne→Ed,map_map→CP,set_cons_zero→En,mem_append→Dw,map_nil→C1,set_cons_succ→Ey,all_eq_true→D4,replicate→Dx,append_nil→D0,nil_append→Ea,mem_singleton→EO,getElem?_set_self→Gw,length_nil→EG,mem_map_of_mem→FV,length_append→FG,nodup_cons→E5,cons_append→Ga,getElem?_replicate→Jq,mem_append_left→Ii,mem_range→F4,getElem_mem→Hb,nodup_append→HE,range'→Fc,map_append→HD,getElem?_append→KA,range_eq_range'→Ll,zipWith→GG,ext_getElem?→JM,replicate_zero→Lp,getElem?_append_left→MQ,drop_eq_getElem_cons→MU,length_replicate→LH,zip_cons_cons→Kx,mem_of_getElem?→LF,getD→FR,replicate_succ→Mt,drop_eq_nil_of_le→MS,all_map→HB,take_of_length_le→Nh,range'_succ→Lk,pairwise_cons→Mb,contains_iff_mem→NO,append_assoc→Mc,length_eq_zero_iff→Pe,not_mem_nil→L6,mem_flatMap→Mv,zipWith_cons_cons→Rl,getElem?_append_right→RW,filterMap_cons_none→Tl,filterMap_cons_some→Tn,filterMap_cons→OC,all_cons→LY,mem_filter→MC,length→Kq,map_congr_left→Wr,of_mem_zip→OS,length_set→OV,foldl_cons→Re
open PySem.Heap renaming get?_push_of_some→Br,get?_push_size→Cc,lt_size→BC,SameBut→DP,get?_update_other→LL,get?_update_self→LK,size_push→LA
open Option renaming bind_eq_some_iff→B4,map_eq_some_iff→B0,bind→BH,map→Ci,map_some→Jz
open Nat renaming le_refl→Bf,lt_of_lt_of_le→B6,lt_of_add_right_lt→Dz,le_trans→BZ,ne_of_lt→B9,reduceAdd→F1,le_add_right_of_le→Ku,zero_le→FD,lt_of_lt_of_eq→Jr,lt_of_sub_eq_succ→LM,lt_of_le_of_lt→Kv,zero_add→Hl,lt_irrefl→Hq,ne_of_gt→Hs,le_of_not_lt→Kw,lt_trans→Ix,le_sub_one_iff_lt→Pk,reduceSub→Lo,eq_of_le_of_lt_succ→S0,le_of_add_right_le→Sa,le_of_lt→Lw,lt_or_ge→Ma,le_add_right→Pp,le_antisymm→Pu
open Bool renaming and_eq_true→CM,false_eq_true→F9,not_true→Gf,not_false→Ha,and_self→J1,false_ne_true→MA,not_eq_true'→Nz
open False renaming elim→BM
open PySem.Value renaming ref→Cj,none→GP
open Ne renaming symm→B2
open PySem.W.KasT renaming kasWp→DJ,kasWp_bind→Px
open Int renaming toNat_natCast→GD,emod_lt_of_pos→Ib,emod_nonneg→Jc,natCast_nonneg→La,zero_le_ofNat→Mr,lt_of_not_ge→OU,toNat_of_nonneg→Wo
open Option.some renaming inj→GX,injEq→O6
open PySem.Heap.SameBut renaming update→JU
open PyProof.Rows renaming callWith_type1→MJ,listUpdate_at→Nx
open PySem.Paired renaming length→GQ
open PySem.Obj renaming mapSeq→FH,data_mapFields→Md,isFreed_of_fields→Te,data_mapDictKeys→SO
open PySem.Builtin.Str renaming occurrences→ML
open PySem.NameKind renaming free→Iv
open True renaming intro→G3
open PySem.F renaming plainAttrs_list→O4,slot_dict_setdefault→SS,slot_enumerate_next→Tw,plainAttrs_dict→SX,slot_list_append→Yw,type_list_append→Yx,args_tuple_add_2→YE,entry_tuple_add→YD,slot_dict_keyiterator_next→rN
open Classical renaming propDecidable→O7
open PySem.Str renaming ofString→Jt
open Array renaming getElem?_eq_some_iff→Tf,length_toList→RF
open PySem.Builtin.Slice renaming slicePlaces→RX,sliceAdjust→XR
open List.cons renaming injEq→Pq
open PySem.Builtin.SmallTypes renaming nextOf→bN
open PySem.Calls renaming call_function_entry→bW
open Nat.ToInt renaming of_diseq→Wi
open PySem renaming Value→Aa,Shared→Ab,Addr→Ac,Str→Ae,model→Af,Around→Ag,World→Ai,Heap→Ak,eval→Ap,cLine→Aq,backTo→Au,Stmt→Az,Pos→AD,rawInt→AV,Builtin→AW,PassesOwn→Bz,tupleKind→BN
open Pure renaming pure→AA
open PyProof.Rows renaming envOfC→A3
open Option renaming some→Z,none→J
open Bool renaming true→J',false→O'
abbrev U:=@List
abbrev O:=@Option
set_option Elab.async false
set_option linter.all false
set_option backward.eqns.nonrecursive false
set_option tactic.hygienic false
set_option maxHeartbeats 4000000
set_option maxRecDepth 100000
abbrev AL:=PySem.Value->PySem.Shared->Prop
abbrev Cs(x:PySem.Str):Prop:=(x==("__debug__":PySem.Str))=O'
abbrev AQ:=U (PySem.Addr×PySem.Obj)
abbrev Bx:=PySem.Str->O PySem.Value
theorem ZV{b:Type}{c:Prop}[Decidable c]{a:O b}{r:b}(h:(if c then a else J)=Z r):c/\a=Z r:=by
 split at h
 ·exact⟨‹_›,h⟩
 ·cases h
noncomputable section
set_option bootstrap.genMatcherCode false
set_option genSizeOf false
set_option genSizeOfSpec false
set_option compiler.extract_closed false
set_option bootstrap.genMatcherCode false
set_option genSizeOf false
set_option genSizeOfSpec false
open List renaming toArray->T'
local macro_rules|`(#[$a,*])=>`(⟨$a,*⟩)
local macro_rules|`(tactic|erw[$[$t:term],*]$[$l]?)=>`(tactic|simp only[$[$t:term],*]$[$l]?)
local macro_rules|`(tactic|ext)=>`(tactic|decide)
variable{C a:Ac}{apos cpos p2 pos:AD}{E:AL}{elts es ifs:U PySem.Expr}{gs gs':U (U Nat)}{Q:Unit->Ab->Prop}{u:Aa}{o:Obj}{pl:PySem.Sem Bool}{pins:AQ}{R:PySem.Result->Ab->Prop}{ps:U Ae}{φ:Nat->Ac}{ws:U Nat}{h':Ak}{sc scope:PySem.Scope}{j t':Nat}{ek elt iter tg:PySem.Expr}{g':Array PySem.GenState}{s':Ab}{items:Array Aa}{RR:Aa->Ac->PySem.Result->Ab->Prop}{isA:Nat->Aa->Prop}{ch:U Ac}{B:Aa->PySem.Sem PySem.Fin}{dd:O Ac}{d':PySem.Drawn}{tn:Nat->Ak->Prop}
namespace L2
open PySem PySem.Spec PyProof.Rows
inductive V where
 |non|bl (b:Bool)|int (i:Int)|str (x:Ae)|ref (a:Ac)|ty (n:String)
 deriving DecidableEq
variable{vs ys:U V}
def RelV:V->Aa->Prop
 |.non,u=>u=GP
 |.bl b,u=>u=Value.bool b
 |.int i,u=>∃t,u=Value.int i t
 |.str x,u=>∃t,u=Value.str x t
 |.ref a,u=>u=Cj a
 |.ty n,u=>u=Value.type n
abbrev An:U V->U Aa->Prop:=Paired RelV
theorem An.length{xs:U V}{us:U Aa}(r:An xs us):xs.length=us.length:=GQ r
theorem An.get:∀{xs:U V}{us:U Aa}{i:Nat}{x:V},An xs us->xs[i]?=Z x->∃u,us[i]?=Z u/\RelV x u
 |_,_,_,_,.nil,e=>by simp at e
 |_,_,0,_,.cons r _,e=>by simp at e;subst e;exact#[_,rfl,r]
 |_,_,i+1,x,.cons _ t,e=>by
  obtain⟨u,a,b⟩:=An.get t (by simpa using e);exact#[u,by simpa using a,b]
theorem An.set{x:V}{u:Aa}(r:RelV x u):∀{xs:U V}{us:U Aa}(i:Nat),An xs us->An (xs.set i x) (us.set i u)
 |_,_,_,.nil=>.nil
 |_,_,0,.cons _ t=>.cons r t
 |_,_,i+1,.cons q t=>.cons q<|An.set r i t
theorem An.append{xs:U V}{us ws:U Aa}(h:An xs us)(s:An ys ws):An (xs++ys) (us++ws):=by
 induction h with
 |nil=>exact s
 |cons r _ a=>exact .cons r a
theorem An.take:∀{xs:U V}{us:U Aa}(n:Nat),An xs us->An (xs.take n) (us.take n)
 |_,_,0,_=>.nil
 |_,_,_+1,.nil=>.nil
 |_,_,n+1,.cons r t=>.cons r<|An.take n t
theorem An.drop:∀{xs:U V}{us:U Aa}(n:Nat),An xs us->An (xs.drop n) (us.drop n)
 |_,_,0,r=>r
 |_,_,_+1,.nil=>.nil
 |_,_,n+1,.cons _ t=>An.drop n t
def Cy:O V->O Aa->Prop
 |some v,Z u=>RelV v u
 |none,J=>True
 |_,_=>False
inductive At where
 |non|int (i:Int)|str (x:Ae)
 deriving DecidableEq
variable{us:U (U At×Ac×Aa)}
def Jl:At->Aa->Bool
 |.non,.none=>J'
 |.int k,v=>Value.isInt k v
 |.str x,v=>Value.isStrOf x v
 |_,_=>O'
noncomputable def Ry(w:Ai):At->Int
 |.non=>reduceHash 4238894112
 |.int k=>hashInt k
 |.str x=>hashStr w x
theorem Jm:∀{k:At}{v:Aa},Jl k v=J'->(k=.non/\v=.none)\/(∃i t,k=.int i/\v=Value.int i t)\/(∃x t,k=.str x/\v=Value.str x t)
 |.non,v,h=>by cases v<;>first|exact .inl ⟨rfl,rfl⟩|exact absurd h MA
 |.int i,v,h=>by obtain⟨t,e⟩:=Value.isInt_shape h;exact .inr<|.inl ⟨i,t,rfl,e⟩
 |.str x,v,h=>by obtain⟨t,e⟩:=Value.isStrOf_shape h;exact .inr<|.inr ⟨x,t,rfl,e⟩
theorem jV(i:Int)(t:Tok):Jl (.int i) (.int i t)=J':=by simp[Jl,Value.isInt]
theorem jW(x:Ae)(t:Tok):Jl (.str x) (.str x t)=J':=by simp[Jl,Value.isStrOf]
theorem jX{prog:AM}{w:Ai}{A:Ag}{s:Ab}{Q:Int->Ab->Prop}(h:Q (reduceHash 4238894112) {s with toks:=s.toks+1}):wpAny (Af prog w) A (PySem.pyHash .none) Q E s:=PySem.W.pyHash_slot rfl F.slot_NoneType_hash F.entry_NoneType_hash (F.args_NoneType_hash_1 _) (beq_builtin_none _) (.inl rfl)<|Al<|AN<|Al<|wpAny_mkInt<|AN ⟨_,_,rfl,h⟩
theorem jY(a b:Int):decide ((At.int a)=.int b)=(a==b):=by
 grind
theorem jZ(a b:Ae):decide ((At.str a)=.str b)=decide (a=b):=by
 simp_all
def ZB(prog:AM)(w:Ai):PySem.KeyKind prog w At where
 is:=Jl
 hash:=Ry w
 inj:=λv a b d f=>by
  rcases Jm d with⟨rfl,rfl⟩|⟨i,t,rfl,rfl⟩|⟨x,t,rfl,rfl⟩<;>rcases Jm f with⟨rfl,e⟩|⟨j,u,rfl,e⟩|⟨y,u,rfl,e⟩ <;>
   first|rfl|(cases e;done)|(cases e;rfl)
 byValue:=λk v h=>by
  rcases Jm h with⟨rfl,rfl⟩|⟨i,t,rfl,rfl⟩|⟨x,t,rfl,rfl⟩<;>rfl
 pyHash:=λc h=>by
  rcases Jm c with⟨rfl,rfl⟩|⟨i,t,rfl,rfl⟩|⟨x,t,rfl,rfl⟩
  ·exact jX h
  ·exact wpAny_pyHash_int h
  ·exact wpAny_pyHash_str h
 eqBool:=λg c h=>by
  rcases Jm g with⟨rfl,rfl⟩|⟨i,t,rfl,rfl⟩|⟨x,t,rfl,rfl⟩<;>rcases Jm c with⟨rfl,rfl⟩|⟨j,u,rfl,rfl⟩|⟨y,u,rfl,rfl⟩
  ·exact SeqAt.EqAt.same GP _ _ _ _ h
  ·exact SeqAt.EqAt.none_int j u _ _ _ _ h
  ·exact SeqAt.EqAt.none_str y u _ _ _ _ h
  ·exact SeqAt.EqAt.int_none i t _ _ _ _ h
  ·rw[jY]at h;exact wpAny_eqBool_int h
  ·exact SeqAt.EqAt.int_str i t y u _ _ _ _ h
  ·exact SeqAt.EqAt.str_none x t _ _ _ _ h
  ·exact SeqAt.EqAt.str_int x t j u _ _ _ _ h
  ·rw[jZ]at h;exact wpAny_eqBool_str h
 «strs»:=λk x t v h=>by
  rcases Jm h with⟨rfl,e⟩|⟨i,u,rfl,e⟩|⟨y,u,rfl,e⟩
  ·exact nomatch e
  ·exact nomatch e
  ·injection e with l _
   subst l
   cases v<;>rfl
inductive KT where
 |at(a:At)|tup (l:List At)
 deriving DecidableEq
def KT.hash(w:Ai):KT->Int
 |.at a=>Ry w a
 |.tup l=>reduceHash (Builtin.Tuple.tupleHashOf (l.map (Ry w)))
def E3:At->V
 |.non=>.non
 |.int i=>.int i
 |.str x=>.str x
def j2:KT->V->Prop
 |.at a,v=>v=E3 a
 |.tup _,v=>∃p,v=.ref p
def Kk(w:Ai):U KT->U V->U GR->Prop
 |[],a,b=>a=[]/\b=[]
 |k::c,a,b=>∃kv v r e t,a=kv::v::r/\b=e::t/\RelV kv e.key/\RelV v e.val/\e.hash=k.hash w/\j2 k kv/\Kk w c r t
inductive HO where
 |lst (xs:List V)
 |tup (xs:List V)
 |dct (ks:List KT) (vs:List V)
 |ins (C dx:Ac) (fs:List (Ae×V))
 |own (x:Ac)
 |xd (fs:List (Ae×V))
 |met (f x:Ac)
 |rng (lo hi:Int)
 |frz (o:Obj) (u:HO)
 |tbl (ps:Array Aa)
 |ext (φ:Ak->Prop)
abbrev Hp:=Ac->O HO
variable{H H' H0:Hp}
noncomputable def AG(H:Hp)(a:Ac)(o:HO):Hp:=λb=>if b=a then Z o else H b
theorem ZH{o:HO}:AG H a o a=Z o:=by grind [AG]
theorem Zm{b:Ac}{o:HO}(h:b≠a):AG H a o b=H b:=by grind [AG]
theorem j3{o u:HO}:AG (AG H a o) a u=AG H a u:=by grind [AG]
theorem ZW{b:Ac}{o:HO}(h:H a=Z o)(h':H b=J):a≠b:=by
 grind
section
variable(P:AM)(w:Ai)
def AY(P:AM)(w:Ai)(H:Hp)(h:Ak)(a:Ac):HO->Prop
 |.lst d=>d.length<=Ax/\∃(b:U Aa) (n:Nat),An d b/\h.get? a=Z {cls:=.type "list",data:=.seq b.toArray n}
 |.tup d=>d.length<=Ax/\∃b:U Aa,An d b/\IsTup h a b.toArray
 |.dct i p=>i.length<=Ax/\(a==GS)=O'/\i.Nodup/\∃o k q,h.get? a=Z o/\o.ExactDict/\o.data=.dict k q/\Kk w i p k.toList
 |.ins C g e=>H g=Z (.own a)/\e.length<=1000/\g≠a/\h.get? a=Z (Kl C g) /\
   ∃c,h.Ns1 g c/\(∀f,Cy (e.lookup f) (c f))/\PySem.Within c (e.map (·.1))
 |.own _=>∃o,h.get? a=Z o
 |.xd e=>∃c,h.Ns1 a c/\∀f,Cy (e.lookup f) (c f)
 |.rng lo r=>∃t u v,h.get? a=Z {cls:=.type "range",data:=.fields (T' [.int lo t,.int r u,.int 1 v])}
 |.frz o u=>h.get? a=Z o/\AY P w H h a u
 |.tbl s=>h.get? a=Z {cls:=.none,data:=.fields s}
 |.met f x=>h.get? a=Z (PySem.W.methodObj (.ref f) (.ref x))
 |.ext j=>j h/\(∃o,h.get? a=Z o)/\∀l m:Ak,j l->(∀o,l.get? a=Z o->m.get? a=Z o)->j m
def Cb(H:Hp)(h:Ak):Prop:=∀a o,H a=Z o->AY P w H h a o
end
section
variable{P:AM}{w:Ai}{h:Ak}{o:HO}
theorem AY.lt(x:AY P w H h a o):a<h.objs.size:=by
 cases o with
 |lst b=>obtain⟨_,_,_,_,e⟩:=x;exact BC e
 |tup b=>obtain⟨_,_,_,p⟩:=x;exact p.lt
 |dct d g=>obtain⟨_,_,_,o,_,_,e,_⟩:=x;exact BC e
 |ins C i c=>obtain⟨_,_,_,e,_⟩:=x;exact BC e
 |own y=>obtain⟨_,e⟩:=x;exact BC e
 |xd c=>obtain⟨_,⟨_,_,_,e,_⟩,_⟩:=x;exact BC e
 |rng lo j=>obtain⟨_,_,_,e⟩:=x;exact BC e
 |frz ob u=>obtain⟨e,_⟩:=x;exact BC e
 |tbl k=>exact BC (show h.get? a=Z _ from x)
 |met f y=>exact BC (show h.get? a=Z _ from x)
 |ext l=>obtain⟨_,⟨_,e⟩,_⟩:=x;exact BC e
theorem Paired.mapP{e g:Type}{F G:e->g->Prop}{c:U e}{d:U g}(h:Paired F c d)(f:∀a b,F a b->G a b):Paired G c d:=by
 induction h with
 |nil=>exact .nil
 |cons r _ i=>exact .cons (f _ _ r) i
theorem AY.stay(x:AY P w H h a o)(k:∀b u,(b=a\/H b=Z (.own a))->h.get? b=Z u->h'.get? b=Z u) (A:∀b,H b=Z (.own a)->H' b=Z (.own a)) (Q:∀b xs,H b=Z (.tup xs)->H' b=Z (.tup xs)):AY P w H' h' a o:=by
 induction o with
 |lst xs=>obtain⟨z,g,n,r,e⟩:=x;exact#[z,g,n,r,k _ _ (.inl rfl) e]
 |tup xs=>obtain⟨z,g,r,ob,e,c⟩:=x;exact#[z,g,r,ob,k _ _ (.inl rfl) e,c]
 |dct F L=>obtain⟨z,y,n,ob,i,j,e,c⟩:=x;exact#[z,y,n,ob,i,j,k _ _ (.inl rfl) e,c]
 |ins C M B=>
  obtain⟨d,z,ne,e,l,⟨m,i,j,E,c⟩,r⟩:=x;exact#[A _ d,z,ne,k _ _ (.inl rfl) e,l,#[m,i,j,k _ _ (.inr d) E,c],r]
 |own y=>obtain⟨ob,e⟩:=x;exact#[ob,k _ _ (.inl rfl) e]
 |xd B=>obtain⟨l,⟨m,i,j,e,c⟩,r⟩:=x;exact#[l,#[m,i,j,k _ _ (.inl rfl) e,c],r]
 |rng lo N=>obtain⟨t,u,v,e⟩:=x;exact#[t,u,v,k _ _ (.inl rfl) e]
 |frz ob u G=>obtain⟨e,q⟩:=x;exact#[k _ _ (.inl rfl) e,G q]
 |tbl s=>
  have e:h.get? a=Z {cls:=.none,data:=.fields s}:=x;show h'.get? a=Z {cls:=.none,data:=.fields s}
  grind
 |met f y=>
  have e:h.get? a=Z (PySem.W.methodObj (.ref f)<|.ref y):=x;show h'.get? a=Z (PySem.W.methodObj (.ref f)<|.ref y)
  simp_all
 |ext K=>obtain⟨p,⟨o,e⟩,st⟩:=x;exact#[st _ _ p λo q=>k _ _ (.inl rfl) q,#[o,k _ _ (.inl rfl) e],st]
theorem Cb.lt(x:Cb P w H h)(e:H a=Z o):a<h.objs.size:=(x a o e).lt
theorem Cb.fresh(x:Cb P w H h)(e:h.objs.size<=a):H a=J:=by
 cases q:H a with
 |none=>rfl
 |some u=>exact absurd (B6 (x.lt q) e)<|Hq _
theorem Cb.kept(x:Cb P w H h)(k:∀b u,h.get? b=Z u->h'.get? b=Z u):Cb P w H h':=λa o e=>(x a o e).stay (λb u _ q=>k b u q) (λ_ q=>q) λ_ _ q=>q
theorem Cb.laid(x:Cb P w H h)(k:∀b u,h.get? b=Z u->h'.get? b=Z u)(g:h.objs.size<=a)(new:AY P w (AG H a o) h' a o):Cb P w (AG H a o) h':=λb u e=>by
 have d:=x.fresh g;by_cases f:b=a
 ·subst f;rw[ZH]at e;cases e;exact new
 ·rw[Zm f]at e;exact(x b u e).stay (λc v _ q=>k c v q) (λc q=>by rw[Zm<|ZW q d];exact q) λc i q=>by rw[Zm<|ZW q d];exact q
end
def Rd(H:Hp)(a:Ac)(u:HO):Prop:=H a=Z u\/∃o,H a=Z (.frz o u)
theorem Rd.ok{P:AM}{w:Ai}{h:Ak}{u:HO}(r:Rd H a u)(x:Cb P w H h):AY P w H h a u:=by
 rcases r with r|⟨o,r⟩
 ·exact x a u r
 ·obtain⟨_,q⟩:=x a _ r;exact q
def MB:O HO->Prop
 |some (.lst _)=>True
 |some (.dct _ _)=>True
 |some (.ins _ _ _)=>True
 |some (.ext _)=>True
 |_=>False
section
variable{P:AM}{w:Ai}{h:Ak}{x e:Ac}{o':HO}
theorem Cb.write(ok:Cb P w H h)(g:MB (H x))(n:e=x\/H e=Z (.own x))(k:∀b u,b≠e->h.get? b=Z u->h'.get? b=Z u)(m:∃u,h'.get? e=Z u) (new:AY P w (AG H x o') h' x o'):Cb P w (AG H x o') h':=λb u q=>by
 have d:∀c y,H c=Z (.own y)->c≠x:=λc y r z=>by subst z;rw[r]at g;exact g
 have f:∀c i,H c=Z (.tup i)->c≠x:=λc i r z=>by subst z;rw[r]at g;exact g
 by_cases j:b=x
 ·subst j;rw[ZH]at q;cases q;exact new
 ·rw[Zm j]at q;by_cases a:b=e
  ·have o:H b=Z (.own x):=by
    rcases n with z|z
    ·exact absurd (a.trans z) j
    ·rw[a];exact z
   rw[q]at o;cases o;obtain⟨v,p⟩:=m;exact#[v,by rw[a];exact p]
  ·refine(ok b u q).stay (λc v l r=>k c v ?_ r) (λc r=>by rw[Zm<|d c b r];exact r) λc i r=>by rw[Zm<|f c i r];exact r
   rcases l with rfl|l
   ·exact a
   ·rintro rfl;rcases n with z|z
    ·exact d c b l z
    ·rw[l]at z;cases z;exact j rfl
end
structure Un(fs ex:List Ac)(H H':Hp)(h h':Ak):Prop where
 keep:∀b o,h.get? b=Z o->H b=J->b∉fs->b∉ex->h'.get? b=Z o
 slot:∀b o,h.get? b=Z o->H b=J->b∈fs->b∉ex->∃sl,h'.get? b=Z {o with slots:=sl}
 free:∀b o,h.get? b=Z o->H b=J->b∉ex->H' b=J
 there:∀b o,h.get? b=Z o->b∉ex->∃o',h'.get? b=Z o'
 tups:∀b xs,H b=Z (.tup xs)->H' b=Z (.tup xs)
 frzs:∀b o u,H b=Z (.frz o u)->H' b=Z (.frz o u)
 tbls:∀b ps,H b=Z (.tbl ps)->∃more,H' b=Z (.tbl (ps++more))
section
variable{fs ex:U Ac}{H1:Hp}{h h1:Ak}{x e:Ac}{o:HO}
theorem Un.any(u:Un fs ex H H1 h h1){b:Ac}{ob:Obj}(q:h.get? b=Z ob)(n:H b=J)(a:b∉ex):∃d,h1.get? b=Z {ob with slots:=d}:=by
 by_cases c:b∈fs
 ·exact u.slot b ob q n c a
 ·exact#[ob.slots,u.keep b ob q n c a]
theorem Un.kept(k:∀b u,h.get? b=Z u->h'.get? b=Z u):Un fs ex H H h h':=#[λb ob q _ _ _=>k b ob q,λb ob q _ _ _=>#[ob.slots,k b ob q],λ_ _ _ n _=>n,λb ob q _=>#[ob,k b ob q],λ_ _ q=>q,λ_ _ _ q=>q,λ_ a q=>#[(T' []),by rw[q];simp]]
theorem Un.refl:Un fs ex H H h h:=by grind [Un.kept]
theorem Un.laid(k:∀b u,h.get? b=Z u->h'.get? b=Z u)(d:h.objs.size<=a)(c:H a=J):Un fs ex H (AG H a o) h h' where
 keep:=λb u q _ _ _=>k b u q;slot:=λb u q _ _ _=>#[u.slots,k b u q];free:=λb u q n _=>by rw[Zm<|B9<|B6 (BC q) d];exact n
 there:=λb u q _=>#[u,k b u q];tups:=λb e q=>by rw[Zm<|ZW q c];exact q
 frzs:=λb u e q=>by rw[Zm<|ZW q c];exact q
 tbls:=λb f q=>#[(T' []),by rw[Zm<|ZW q c,q];simp]
theorem Un.write(a:MB (H x))(l:e=x\/H e=Z (.own x))(k:∀b u,b≠e->h.get? b=Z u->h'.get? b=Z u)(f:∃u,h'.get? e=Z u):Un fs ex H (AG H x o) h h':=by
 have g:∀b,H b=J->b≠x:=λb n z=>by subst z;rw[n]at a;exact a
 have d:∀b,H b=J->b≠e:=λb n z=>by
  simp_all
 have c:∀b u,H b=Z u->¬ MB (Z u)->b≠x:=λb u q i z=>by subst z;rw[q]at a;exact i a
 refine#[λb u q n _ _=>k b u (d b n) q,λb u q n _ _=>#[u.slots,k b u (d b n) q],λb u q n _=>by rw[Zm<|g b n];exact n,λb u q _=>?_,
  λb j q=>by rw[Zm<|c b _ q λz=>z];exact q,λb u j q=>by rw[Zm<|c b _ q λz=>z];exact q,λb m q=>#[(T' []),by rw[Zm<|c b _ q λz=>z,q];simp]]
 grind
end
def OB(h:Ak)(H:Hp):U Ac:=(Bq h.objs.size).filter λa=>(H a).isSome
def Ih(h:Ak)(H:Hp):Ak:=PySem.W.hideAll h (OB h H)
theorem j4(h:Ak)(H:Hp):(Ih h H).objs.size=h.objs.size:=PySem.W.hideAll_size _ _
theorem j5{h:Ak}{b:Ac}(e:h.get? b=Z o)(n:H b=J):(Ih h H).get? b=Z o:=PySem.W.hideAll_get _ e λa=>by
  have q:=(MC.mp a).2;simp_all
theorem j6{h:Ak}{b:Ac}(e:(Ih h H).get? b=Z o):h.get? b=Z o/\H b=J:=by
 have a:=PySem.W.of_hideAll (OB h H) e;refine#[a,?_];cases q:H b with|none=>rfl|some x=>
  have c:b∈OB h H:=MC.mpr #[F4.mpr<|BC a,by simp[q]];have z:(Ih h H).get? b=J:=PySem.W.hideAll_none (OB h H) c;simp_all
noncomputable def j7(g h:Ak)(L:Ac):AQ:=(Bq h.objs.size).filterMap λa=>if a=L\/(g.get? a).isSome=J' then J else(h.get? a).map λo=>(a,o)
def AH(g h:Ak)(L d:Ac):AQ:=(j7 g h L).filter λp=>decide (p.1≠d)
structure Mod(K:Ao)(mg:Bx)(base:Ak):Prop where
 kin:K.In base
 glob:base.Ns BU mg
 blt:∃mb,base.Ns builtinsNs mb/\∀x:Ae,x≠"__name__"->mb x=Ec x
 nolimit:base.NoLimit
structure Cx where
 prog:AM
 w:Ai
 K:Ao
 mg:Bx
 base:Ak
 A:Ag
 N:List Ae
 s₀:Ab
 H₀:Hp
 env:Env
 outer:List Env
 stack:List Env
 ex:List Ac
 fn:Ae->Bool
 calm:Bool
 pn:AQ
 xe:AL
variable{X Y:Cx}
def Ck(l:U Env):U Ac:=l.filterMap (·.frame)
abbrev Cx.fs(X:Cx):U Ac:=Ck X.outer
def Lv(a:Scope)(x:Ae):Prop:=a.names.lookup x=Z .local\/a.names.lookup x=Z .cell\/a.names.lookup x=Z .free
def Loc(a:Scope)(x:Ae):Prop:=a.names.lookup x=Z .local\/a.names.lookup x=Z .cell
def j8(env:Env)(h:Ak)(m:Bx)(x:Ae)(u:Aa):Prop:=
 (env.kindOf x=Z .local/\m x=Z u)\/((env.kindOf x=Z .cell\/env.kindOf x=Z .free)/\∃c,env.cells.lookup x=Z c/\h.IsCell c (Z u))
structure Cx.Ok(X:Cx):Prop where
 mod:Mod X.K X.mg X.base
 kind:X.env.scope.kind=.function
 glob:X.env.globals=BU
 blt:X.env.builtins=builtinsNs
 above:X.s₀.heap.objs.size<=X.env.locals
 inj:∀x y c,X.env.cells.lookup x=Z c->X.env.cells.lookup y=Z c->x=y
 has:∀x,(X.env.kindOf x=Z .cell\/X.env.kindOf x=Z .free)->∃c,X.env.cells.lookup x=Z c
 cab:∀x c,X.fn x=J'->X.env.cells.lookup x=Z c->X.s₀.heap.objs.size<=c
 hd:X.calm=J'->X.A.handled=J
 frames:X.A.frames=Z X.stack
 stk:X.stack=X.outer\/(X.stack=X.env::X.outer/\X.env.frame=Z X.env.locals)
 exf:∀b∈X.ex,b≠X.env.locals/\∀x c,X.env.cells.lookup x=Z c->c≠b
 bs:∀b o,X.base.get? b=Z o->X.s₀.heap.get? b=Z o/\X.H₀ b=J
 bsz:X.base.objs.size<=X.s₀.heap.objs.size
 noex:∀b o,X.base.get? b=Z o->b∉X.ex
 exfs:∀b∈X.ex,b∉X.fs
 funs:X.s₀.heap.FunFrames X.base X.outer
 frf:∀b∈X.fs,X.H₀ b=J
structure Inv(X:Cx)(pins:AQ)(I:List (Option V))(H:Hp)(s:Ab):Prop where
 ok:X.Ok
 os:s.os=X.s₀.os
 bare:AllBare s.gens
 base:Un X.fs X.ex X.H₀ H X.s₀.heap s.heap
 loc:∃m,s.heap.Ns X.env.locals m/\∀(i:Nat) (x:Ae) (v:V),X.N[i]?=Z x->I[i]?=Z (Z v)->Lv X.env.scope x->∃u,RelV v u/\j8 X.env s.heap m x u
 cell:∀x c,X.env.cells.lookup x=Z c->∃v,s.heap.IsCell c v
 free:H X.env.locals=J
 freeC:∀x c,X.env.cells.lookup x=Z c->H c=J
 pin:∀p∈X.pn++pins,s.heap.get? p.1=Z p.2/\H p.1=J/\p.1≠X.env.locals/\p.1∉X.fs/\∀v,p.2.data≠.cell v
 hok:Cb X.prog X.w H s.heap
 len:I.length=X.N.length
section
variable{I:U (O V)}{s:Ab}
theorem Cx.Ok.nofr(ok:X.Ok){b:Ac}(e:X.base.get? b=Z o):b∉X.fs:=λa=>by
 have:=(ok.funs.mem a).1;simp_all
theorem Inv.bs(a:Inv X pins I H s):∀b o,X.base.get? b=Z o->s.heap.get? b=Z o/\H b=J:=λb o e=>#[a.base.keep b o (a.ok.bs b o e).1 (a.ok.bs b o e).2 (a.ok.nofr e)<|a.ok.noex b o e,a.base.free b o (a.ok.bs b o e).1 (a.ok.bs b o e).2<|a.ok.noex b o e]
theorem Inv.bk(a:Inv X pins I H s):∀b o,X.base.get? b=Z o->s.heap.get? b=Z o:=λb o e=>(a.bs b o e).1
theorem Inv.mod(a:Inv X pins I H s):Mod X.K X.mg X.base:=a.ok.mod
theorem Inv.kIn(a:Inv X pins I H s):X.K.In s.heap:=a.ok.mod.kin.keeps a.bk
theorem Inv.lt(b:Inv X pins I H s):X.env.locals<s.heap.objs.size:=let⟨_,a,_⟩:=b.loc;a.lt
theorem Inv.sz(a:Inv X pins I H s):X.s₀.heap.objs.size<=s.heap.objs.size:=BZ a.ok.above<|Lw a.lt
theorem Inv.nofs(d:Inv X pins I H s)(h:s.heap.objs.size<=a):a∉X.fs:=λb=>by
 obtain⟨_,o,c,_⟩:=d.ok.funs.mem b;exact absurd (B6 (BC c)<|BZ d.sz h)<|Hq _
theorem Inv.cne(i:Inv X pins I H s):∀x c,X.env.cells.lookup x=Z c->c≠X.env.locals:=λx c e z=>by
 obtain⟨v,o,d,hd⟩:=i.cell x c e;obtain⟨m,⟨f,g,h,a,b,_⟩,_⟩:=i.loc;simp_all
theorem Inv.funs(p:Inv X pins I H s):s.heap.FunFrames X.base X.outer:=by
 have all:∀(l:U Env),(∀b∈Ck l,b∈X.fs)->X.s₀.heap.FunFrames X.base l->s.heap.FunFrames X.base l:=by
  intro l;induction l with|nil=>intro _ _;trivial|cons env r g=>
   intro f h;obtain⟨i,⟨L,o,a,j,k,hd⟩,m⟩:=h;have c:=f L (by unfold Ck;rw[OC,a];exact Ba);obtain⟨n,e⟩:=p.base.slot L o k (p.ok.frf L c) c λz=>p.ok.exfs L z c;exact#[i,#[L,_,a,j,e,hd],g (λb d=>f b (by unfold Ck;rw[OC,a];exact Be _ d)) m]
 exact all X.outer (λ_ d=>d) p.ok.funs
theorem Inv.stack(c:Inv X pins I H s):s.heap.FunFrames X.base X.stack:=by
 rcases c.ok.stk with e|⟨e,a⟩
 ·rw[e];exact c.funs
 ·rw[e];obtain⟨m,b,_⟩:=c.loc;refine .cons (by rw[c.ok.kind];decide) a b ?_ c.funs;exact Heap.get?_none_of_le<|BZ c.ok.bsz c.ok.above
theorem Inv.stkSub(d:Inv X pins I H s):∀b∈Ck X.stack,b∈X.env.locals::X.fs:=λb a=>by
 rcases d.ok.stk with e|⟨e,c⟩
 ·rw[e]at a;exact Be _ a
 ·rw[e]at a;unfold Ck at a;rw[OC,c]at a;exact a
theorem Inv.stkFree(d:Inv X pins I H s):∀b∈Ck X.stack,H b=J:=λb a=>by
 rcases Bo.mp (d.stkSub b a)with e|a
 ·rw[e];exact d.free
 ·obtain⟨_,o,c,_⟩:=d.ok.funs.mem a;exact d.base.free b o c (d.ok.frf b a) λz=>d.ok.exfs b z a
theorem Inv.step(R:Inv X pins I H s) (f:∀b∈ch,(b∈X.ex\/X.s₀.heap.objs.size<=b)/\b≠X.env.locals/\(∀x c,X.env.cells.lookup x=Z c->c≠b)/\∀p∈X.pn++pins,p.1≠b) (keep:∀b o,b≠X.env.locals->b∉X.fs->b∉ch->s.heap.get? b=Z o->H b=J->h'.get? b=Z o) (slot:∀b o,b≠X.env.locals->b∈X.fs->b∉ch->s.heap.get? b=Z o->H b=J->∃L,h'.get? b=Z {o with slots:=L}) (free:∀b o,b∉ch->s.heap.get? b=Z o->H b=J->H' b=J) (there:∀b o,b∉ch->s.heap.get? b=Z o->∃B,h'.get? b=Z B) (tups:∀b xs,H b=Z (.tup xs)->H' b=Z (.tup xs)) (frzs:∀b o u,H b=Z (.frz o u)->H' b=Z (.frz o u)) (tbls:∀b F,H b=Z (.tbl F)->∃C,H' b=Z (.tbl (F++C))) (ns:∀m,s.heap.Ns X.env.locals m->h'.Ns X.env.locals m) (hok:Cb X.prog X.w H' h') (Q:AllBare g'):Inv X pins I H' {s with heap:=h',gens:=g',drawn:=d',toks:=t' }:=by
 have E:∀b o,X.s₀.heap.get? b=Z o->b≠X.env.locals:=λb o e=>B9<|B6 (BC e) R.ok.above;have j:∀b o,X.s₀.heap.get? b=Z o->b∉X.ex->b∉ch:=λb o e a y=>by
  rcases(f b y).1 with z|z
  ·exact a z
  ·exact absurd (B6 (BC e) z)<|Hq _
 have g:∀x c,X.env.cells.lookup x=Z c->∀v,s.heap.IsCell c v->h'.IsCell c v:=λx c e v ⟨o,A,hd⟩=>by
  have h:c∉ch:=λz=>(f c z).2.2.1 x c e rfl;by_cases N:c∈X.fs
  ·obtain⟨L,q⟩:=slot c o (R.cne x c e) N h A<|R.freeC x c e;exact⟨_,q,hd⟩
  ·exact#[o,keep c o (R.cne x c e) N h A<|R.freeC x c e,hd]
 refine#[R.ok,R.os,Q,#[λb o e n y a=>?_,λb o e n y a=>?_,λb o e n a=>?_,λb o e a=>?_,λb xs e=>tups b xs<|R.base.tups b xs e,λb o xs e=>frzs b o xs<|R.base.frzs b o xs e,λb F e=>?_],?_,λx c e=>?_,?_,λx c e=>?_,λp K=>?_,hok,R.len]
 ·exact keep b o (E b o e) y (j b o e a) (R.base.keep b o e n y a)<|R.base.free b o e n a
 ·obtain⟨L,t⟩:=R.base.slot b o e n y a;obtain⟨M,G⟩:=slot b _ (E b o e) y (j b o e a) t<|R.base.free b o e n a;exact⟨M,G⟩
 ·obtain⟨B,t⟩:=R.base.there b o e a;exact free b B (j b o e a) t<|R.base.free b o e n a
 ·obtain⟨B,t⟩:=R.base.there b o e a;exact there b B (j b o e a) t
 ·obtain⟨m1,t⟩:=R.base.tbls b F e;obtain⟨m2,G⟩:=tbls b _ t;exact#[m1++m2,by rw[G,Array.append_assoc]]
 ·obtain⟨m,T,P⟩:=R.loc;refine#[m,ns m T,λi x v t G Y=>?_];obtain⟨u,r,l⟩:=P i x v t G Y;refine#[u,r,?_];rcases l with l|⟨k,c,e,z⟩
  ·exact .inl l
  ·exact .inr #[k,c,e,g x c e _ z]
 ·obtain⟨v,z⟩:=R.cell x c e;exact#[v,g x c e v z]
 ·obtain⟨m,⟨o,_,_,A,_⟩,_⟩:=R.loc;exact free _ o (λz=>(f _ z).2.1 rfl) A R.free
 ·obtain⟨v,o,A,hd⟩:=R.cell x c e;exact free c o (λz=>(f c z).2.2.1 x c e rfl) A (R.freeC x c e)
 ·obtain⟨e,n,ne,nf,d⟩:=R.pin p K;have h:p.1∉ch:=λz=>(f p.1 z).2.2.2 p K rfl;exact#[keep p.1 p.2 ne nf h e n,free p.1 p.2 h e n,ne,nf,d]
theorem Inv.un(q:Inv X pins I H s)(u:Un X.fs [] H H' s.heap h')(hok:Cb X.prog X.w H' h'):Inv X pins I H' {s with heap:=h',toks:=t' }:=by
 obtain⟨m,⟨o,k,l,g,r⟩,_⟩:=id q.loc;obtain⟨p,h⟩:=u.any g q.free (by simp);exact q.step (g':=s.gens) (d':=s.drawn) (ch:=[]) (λ_ z=>nomatch z) (λb o _ c _ e n=>u.keep b o e n c (by simp)) (λb o _ c _ e n=>u.slot b o e n c (by simp)) (λb o _ e n=>u.free b o e n (by simp)) (λb o _ e=>u.there b o e (by simp)) u.tups u.frzs u.tbls (λx i=>by
  obtain⟨y,d,f,a,j⟩:=i;rw[g]at a;cases a;exact#[_,d,f,h,j]) hok q.bare
theorem Inv.call(E:Inv X pins I H s)(u:Un (Ck X.stack) ch H H' s.heap h')(hok:Cb X.prog X.w H' h')(k:AllBare g') (d:∀b∈ch,(b∈X.ex\/X.s₀.heap.objs.size<=b)/\b≠X.env.locals/\(∀x c,X.env.cells.lookup x=Z c->c≠b)/\∀p∈X.pn++pins,p.1≠b):Inv X pins I H' {s with heap:=h',gens:=g',drawn:=d',toks:=t' }:=by
 obtain⟨m,⟨o,v,y,j,r⟩,_⟩:=id E.loc;obtain⟨A,g⟩:=u.any j E.free λz=>(d _ z).2.1 rfl;exact E.step d (λb o g l a e n=>u.keep b o e n (λz=>(Bo.mp<|E.stkSub b z).elim g l) a) (λb o _ _ a e n=>u.any e n a) (λb o a e n=>u.free b o e n a) (λb o a e=>u.there b o e a) u.tups u.frzs u.tbls (λB q=>by
  obtain⟨C,h,i,f,t⟩:=q;rw[j]at f;cases f;exact#[_,h,i,g,t]) hok k
theorem Inv.turned{it:Ac}(B:Inv X pins I H s)(k:∀b o,b≠it->s.heap.get? b=Z o->h'.get? b=Z o)(g:H it=J)(f:it≠X.env.locals) (h:it∈X.ex\/X.s₀.heap.objs.size<=it) (i:∀x c,X.env.cells.lookup x=Z c->c≠it) (j:∀p∈X.pn++pins,p.1≠it):Inv X pins I H {s with heap:=h',toks:=t' }:=by
 have d:∀b u,H b=Z u->b≠it:=λb u e z=>by simp[z,g]at e
 refine B.step (g':=s.gens) (d':=s.drawn) (ch:=[it]) (λb l=>?_) (λb o _ _ a e _=>k b o (λz=>a (by simp[z])) e) (λb o _ _ a e _=>#[o.slots,k b o (λz=>a (by simp[z])) e]) (λ_ _ _ _ n=>n)
  (λb o a e=>#[o,k b o (λz=>a (by simp[z])) e]) (λ_ _ e=>e) (λ_ _ _ e=>e) (λb G e=>#[(T' []),by rw[e];simp]) (λm t=>?_) (λb u e=>?_) B.bare
 ·have e:b=it:=by simpa using l
  subst e;exact#[h,f,i,j]
 ·obtain⟨o,w,y,A,r⟩:=t;exact#[o,w,y,k _ o (B2 f) A,r]
 ·refine(B.hok b u e).stay (λc v a q=>k c v ?_ q) (λ_ q=>q) λ_ _ q=>q;rcases a with z|z
  ·rw[z];exact d b u e
  ·exact d c _ z
theorem Inv.tok(a:Inv X pins I H s)(t:Nat):Inv X pins I H {s with toks:=t}:=a.un (h':=s.heap) (t':=t) Un.refl a.hok
theorem Inv.kept(a:Inv X pins I H s)(k:∀b u,s.heap.get? b=Z u->h'.get? b=Z u):Inv X pins I H {s with heap:=h',toks:=t' }:=a.un (Un.kept k) (a.hok.kept k)
theorem Inv.laid{o:HO}(d:Inv X pins I H s)(k:∀b u,s.heap.get? b=Z u->h'.get? b=Z u)(c:s.heap.objs.size<=a)(new:AY X.prog X.w (AG H a o) h' a o):Inv X pins I (AG H a o) {s with heap:=h',toks:=t' }:=d.un (Un.laid k c (d.hok.fresh c)) (d.hok.laid k c new)
theorem Inv.write{x e:Ac}{o:HO}(f:Inv X pins I H s)(c:MB (H x))(d:e=x\/H e=Z (.own x))(k:∀b u,b≠e->s.heap.get? b=Z u->h'.get? b=Z u)(a:∃u,h'.get? e=Z u) (new:AY X.prog X.w (AG H x o) h' x o):Inv X pins I (AG H x o) {s with heap:=h',toks:=t' }:=f.un (Un.write c d k a) (f.hok.write c d k a new)
theorem Inv.weak{a:U (O V)}(h:Inv X pins I H s)(c:a.length=I.length)(w:∀(i:Nat) v,a[i]?=Z (Z v)->I[i]?=Z (Z v)):Inv X pins a H s:=#[h.ok,h.os,h.bare,h.base,let⟨m,d,b⟩:=h.loc;#[m,d,λi x v e f g=>b i x v e (w i v f) g],h.cell,h.free,h.freeC,h.pin,h.hok,c.trans h.len]
theorem Inv.pins_of{a:AQ}(c:Inv X pins I H s)(h:∀p∈a,s.heap.get? p.1=Z p.2/\H p.1=J/\p.1≠X.env.locals/\p.1∉X.fs/\∀v,p.2.data≠.cell v):Inv X a I H s:=#[c.ok,c.os,c.bare,c.base,c.loc,c.cell,c.free,c.freeC,λp b=>(Dw.mp b).elim (λz=>c.pin p<|Ii _ z) (h p),c.hok,c.len]
theorem W5{N:U Ae}(c:N.Nodup){i:Nat}{x:Ae}(a:N[i]?=Z x)(b:N[j]?=Z x):i=j:=by
 obtain⟨f,d⟩:=C8.mp a;obtain⟨g,e⟩:=C8.mp b;exact(List.getElem_inj c).mp<|d.trans e.symm
theorem W6{M:Model}{A:Ag}{i:Nat}{x:Ae}{v:V}(R:Inv X pins I H s)(hN:X.N.Nodup)(Y:X.N[i]?=Z x)(t:Loc X.env.scope x)(r:RelV v u) (h:∀s',Inv X pins (I.set i (Z v)) H s'->(∃a,DP a s.heap s'.heap/\(a=X.env.locals\/X.env.cells.lookup x=Z a))->Q () s') (hf:X.fn x=J'\/X.env.scope.names.lookup x=Z .local:=by first|exact .inl rfl|exact .inr rfl|assumption):wpAny M A (storeName X.env x u) Q E s:=by
 obtain⟨m,hn,hl⟩:=id R.loc;have hcls:(X.env.scope.kind==.class||(X.env.scope.kind==.module&&X.env.locals != X.env.globals))=O':=by rw[R.ok.kind];rfl
 have G:i<I.length:=by rw[R.len];exact(C8.mp Y).1
 have L:=R.cne;have g:∀{a:Ac} {h':Ak},(∃o,s.heap.get? a=Z o/\H a=J)->DP a s.heap h'->Cb X.prog X.w H h':=λ{a h'} ha f b ob e=>by
  obtain⟨_,_,hfree⟩:=ha;refine(R.hok b ob e).stay (λc w' B q=>(f.2 c ?_).trans q) (λ_ q=>q) λ_ _ q=>q;grind
 rcases t with F|F
 ·refine wpAny_storeName_local F hn (λh' hn' f=>?_) hcls;obtain⟨oL,_,_,hoL,_⟩:=id hn;refine h _ #[R.ok,R.os,R.bare,#[λb o e n K t=>?_,λb o e n K t=>?_,R.base.free,λb o e t=>?_,R.base.tups,R.base.frzs,R.base.tbls],#[_,hn',λj y v' l C e3=>?_],λy c e=>?_,R.free,R.freeC,λp hp=>?_,g #[oL,hoL,R.free] f,by simpa using R.len] #[_,f,.inl rfl]
  ·exact(f.2 b<|B9<|B6 (BC e) R.ok.above).trans<|R.base.keep b o e n K t
  ·obtain⟨sl,l⟩:=R.base.slot b o e n K t;exact#[sl,(f.2 b<|B9<|B6 (BC e) R.ok.above).trans l]
  ·obtain⟨o',l⟩:=R.base.there b o e t;exact#[o',(f.2 b<|B9<|B6 (BC e) R.ok.above).trans l]
  ·by_cases T:j=i
   ·subst T;rw[Y]at l;cases l;rw[Gw G]at C;cases C;exact#[u,r,.inl #[F,by simp]]
   ·rw[Ed<|B2 T]at C;obtain⟨u',r',q⟩:=hl j y v' l C e3;refine#[u',r',?_];rcases q with⟨k,e⟩|⟨k,c,e,z⟩
    ·refine .inl #[k,?_];have:y≠x:=λe=>T<|W5 hN l<|e ▸ Y;simp[this,e]
    ·exact .inr #[k,c,e,z.sameBut f<|L y c e]
  ·obtain⟨w',z⟩:=R.cell y c e;exact#[w',z.sameBut f<|L y c e]
  ·obtain⟨e,n,ne,nf,d⟩:=R.pin p hp;exact#[(f.2 p.1 ne).trans e,n,ne,nf,d]
 ·have P:X.fn x=J':=by
   rcases hf with z|z
   ·exact z
   ·rw[z]at F;cases F
  obtain⟨c,B⟩:=R.ok.has x<|.inl F;obtain⟨w',z⟩:=R.cell x c B;refine wpAny_storeName_cell R.ok.kind F B z<|λh' hc' f=>?_;obtain⟨oc,hoc,hocd⟩:=id z;refine h {s with heap:=h' } #[R.ok,R.os,R.bare,#[λb o e n K t=>?_,λb o e n K t=>?_,R.base.free,λb o e t=>?_,R.base.tups,R.base.frzs,R.base.tbls],#[m,hn.sameBut f (B2 (L x c B)),λj y v' l C e3=>?_],λy c' e=>?_,R.free,R.freeC,λp hp=>?_,g #[oc,hoc,R.freeC x c B] f,by simpa using R.len] #[c,f,.inr B]
  ·exact(f.2 b<|B9<|B6 (BC e)<|R.ok.cab x c P B).trans<|R.base.keep b o e n K t
  ·obtain⟨sl,l⟩:=R.base.slot b o e n K t;exact#[sl,(f.2 b<|B9<|B6 (BC e)<|R.ok.cab x c P B).trans l]
  ·obtain⟨o',l⟩:=R.base.there b o e t;exact#[o',(f.2 b<|B9<|B6 (BC e)<|R.ok.cab x c P B).trans l]
  ·by_cases T:j=i
   ·subst T;rw[Y]at l;cases l;rw[Gw G]at C;cases C;exact#[u,r,.inr #[.inl F,c,B,hc']]
   ·rw[Ed<|B2 T]at C;obtain⟨u',r',q⟩:=hl j y v' l C e3;refine#[u',r',?_];rcases q with q|⟨k,c',e,z'⟩
    ·exact .inl q
    ·refine .inr #[k,c',e,z'.sameBut f ?_];rintro rfl;exact T<|W5 hN l<|R.ok.inj _ _ _ e B ▸ Y
  ·by_cases hcc:c'=c
   ·subst hcc;exact#[_,hc']
   ·obtain⟨w2,z2⟩:=R.cell y c' e;exact#[w2,z2.sameBut f hcc]
  ·obtain⟨e,n,ne,nf,d⟩:=R.pin p hp;refine#[(f.2 p.1 ?_).trans e,n,ne,nf,d];grind
theorem Rz{M:Model}{A:Ag}{i:Nat}{x:Ae}{v:V}(f:Inv X pins I H s)(a:X.N.Nodup)(b:X.N[i]?=Z x)(c:Loc X.env.scope x)(r:RelV v u) (h:∀s',Inv X pins (I.set i (Z v)) H s'->Q () s') (d:X.fn x=J'\/X.env.scope.names.lookup x=Z .local:=by first|exact .inl rfl|exact .inr rfl|assumption):wpAny M A (storeName X.env x u) Q E s:=W6 f a b c r (λs' e _=>h s' e) d
theorem Inv.call'(k:Inv X pins I H s)(h:s'.os=s.os)(u:Un (Ck X.stack) ch H H' s.heap s'.heap)(hok:Cb X.prog X.w H' s'.heap)(i:AllBare s'.gens) (a:∀b∈ch,(b∈X.ex\/X.s₀.heap.objs.size<=b)/\b≠X.env.locals/\(∀x c,X.env.cells.lookup x=Z c->c≠b)/\∀p∈X.pn++pins,p.1≠b):Inv X pins I H' s':=by
 obtain⟨h',d,f,g,j⟩:=s';have e:=h;subst e;exact k.call (g':=d) (t':=g) (d':=f) u hok i a
end
abbrev XK:=Aa->O Ac->Hp->Prop
abbrev St:=U (O V)
variable{I:St}
abbrev VK:=V->Hp->Prop
abbrev TE:=St->Hp->VK->Prop
variable{ta te:TE}
abbrev TT:=St->Hp->(Bool->Hp->Prop)->Prop
abbrev TA:=St->Hp->(U V->Hp->Prop)->Prop
structure Ends where
 nx:St->Hp->Prop
 rt:VK
 bk:St->Hp->Prop:=λ_ _=>False
 ct:St->Hp->Prop:=λ_ _=>False
variable{D':Ends}
abbrev TS:=Ends->St->Hp->Prop
def EP(X:Cx)(a:AQ)(I:St)(Q:VK)(u:Aa)(s':Ab):Prop:=∃v b,Inv X a I b s'/\RelV v u/\Q v b
def TP(X:Cx)(a:AQ)(I:St)(Q:Bool->Hp->Prop)(b:Bool)(s':Ab):Prop:=∃c,Inv X a I c s'/\Q b c
def AP(X:Cx)(a:AQ)(I:St)(Q:U V->Hp->Prop)(us:U Aa)(s':Ab):Prop:=∃b c,Inv X a I c s'/\An b us/\Q b c
def SP(X:Cx)(b:AQ)(D:Ends)(f:Flow)(s':Ab):Prop:=
 match f with
 |.next=>∃a c,Inv X b a c s'/\D.nx a c
 |.brk=>∃a c,Inv X b a c s'/\D.bk a c
 |.cont=>∃a c,Inv X b a c s'/\D.ct a c
 |.ret u=>∃v a c,Inv X b a c s'/\RelV v u/\D.rt v c
def PE(X:Cx)(e:Expr)(t:TE):Prop:=
 ∀(a:AQ) (s:Ab) (b:St) (H:Hp) (Q:VK),Inv X a b H s->t b H Q->wpAny (Af X.prog X.w) X.A (Ap e X.env) (EP X a b Q) X.xe s
def PT(X:Cx)(e:Expr)(t:TT):Prop:=
 ∀(a:AQ) (s:Ab) (b:St) (H:Hp) (Q:Bool->Hp->Prop),Inv X a b H s->t b H Q->wpAny (Af X.prog X.w) X.A (isTrue e X.env (Ap e X.env)) (TP X a b Q) X.xe s
def PW(X:Cx)(e:Expr)(t:TT):Prop:=
 ∀(b:Sem Aa) (a:AQ) (s:Ab) (c:St) (H:Hp) (Q:Bool->Hp->Prop),Inv X a c H s->t c H Q->wpAny (Af X.prog X.w) X.A (isTrue e X.env b) (TP X a c Q) X.xe s
theorem PW.pt{e:Expr}{t:TT}(h:PW X e t):PT X e t:=h _
def PA(X:Cx)(es:U Expr)(t:TA):Prop:=
 ∀(b:AD) (a:AQ) (s:Ab) (c:St) (H:Hp) (Q:U V->Hp->Prop),Inv X a c H s->t c H Q->wpAny (Af X.prog X.w) X.A (spliced (Au b (AC es X.env))) (AP X a c Q) X.xe s
def PS(X:Cx)(st:Az)(t:TS):Prop:=
 ∀(a:AQ) (s:Ab) (b:St) (H:Hp) (D:Ends),Inv X a b H s->t D b H->wpAny (Af X.prog X.w) X.A (exec st X.env) (SP X a D) X.xe s
def EC(X:Cx)(st:U Az)(t:TS):Prop:=
 ∀(a:AQ) (s:Ab) (b:St) (H:Hp) (D:Ends),Inv X a b H s->t D b H->wpAny (Af X.prog X.w) X.A (execs st X.env) (SP X a D) X.xe s
theorem AT{b:Type}{t:Sem b}{Q Q':b->Ab->Prop}{M:Model}{A:Ag}{s:Ab}(h:wpAny M A t Q E s)(c:∀a s,Q a s->Q' a s):wpAny M A t Q' E s:=EN h c λ_ _ x=>x
section
def RC(i:Nat):TE:=λa H Q=>∃v,a[i]?=Z (Z v)/\Q v H
def tC(v:V):TE:=λ_ H Q=>Q v H
theorem RD{i:Nat}{x:Ae}(j:X.N[i]?=Z x)(k:Lv X.env.scope x)(hd:Cs x:=by ext)(f:(x==("__classdict__":Ae))=O':=by ext):PE X (.Name x pos) (RC i):=by
 intro d s n H Q t h;obtain⟨v,e,h⟩:=h;obtain⟨m,o,p⟩:=t.loc;obtain⟨u,r,l⟩:=p i x v j e k;have fin:EP X d n Q u s:=#[v,H,t,r,h];rcases l with⟨b,q⟩|⟨b,c,g,a⟩
 ·exact wpAny_Name (wpAny_loadName_local t.ok.kind b o q fin) hd
 ·rcases b with b|b
  ·exact wpAny_Name (wpAny_loadName_cell t.ok.kind b g a fin) hd
  ·exact wpAny_Name (wpAny_loadName_free t.ok.kind b g a fin f) hd
theorem j9 {i j pos}:PE X (.Constant (.int i) j pos) (tC (.int i)):=λ_ _ _ H _ a h=>wpAny_Constant_int #[.int i,H,a.tok _,#[_,rfl],h]
theorem ka {b j pos}:PE X (.Constant (.bool b) j pos) (tC (.bl b)):=λ_ _ _ H _ a h=>Constant_bool #[.bl b,H,a,rfl,h]
theorem kc {j pos}:PE X (.Constant .none j pos) (tC .non):=λ_ _ _ H _ a h=>Constant_none #[.non,H,a,rfl,h]
theorem kf {x j pos}:PE X (.Constant (.str x) j pos) (tC (.str x)):=λ_ _ _ H _ a h=>Calls.Constant_str #[.str x,H,a.tok _,#[_,rfl],h]
def Gl(X:Cx)(x:Ae):Prop:=X.env.kindOf x=Z .globalImplicit
theorem MD{a:AQ}{s:Ab}{x:Ae}{Q:AL}(d:Inv X a I H s)(b:Gl X x)(c:X.mg x=Z u)(h:Q u s) (hd:Cs x:=by ext):wpAny (Af X.prog X.w) X.A (Ap (.Name x pos) X.env) Q E s:=Calls.Name_function_global d.ok.kind b (Calls.loadGlobal_global (by rw[d.ok.glob];exact d.mod.glob.keeps d.bk) c h) hd
theorem Hr{a:AQ}{s:Ab}{x:Ae}{Q:AL}(j:Inv X a I H s)(b:Gl X x)(c:X.mg x=J)(d:Ec x=Z u)(h:Q u s) (e:x≠"__name__":=by ext) (hd:Cs x:=by ext):wpAny (Af X.prog X.w) X.A (Ap (.Name x pos) X.env) Q E s:=by
 obtain⟨i,f,g⟩:=j.mod.blt;exact Calls.Name_function_global j.ok.kind b (Calls.loadGlobal_builtin (by rw[j.ok.glob];exact j.mod.glob.keeps j.bk) c (by rw[j.ok.blt];exact f.keeps j.bk) ((g x e).trans d) h) hd
theorem RE{x:Ae}{v:V}(a:Gl X x)(b:X.mg x=Z u)(r:RelV v u)(hd:Cs x:=by ext):PE X (.Name x pos) (tC v):=λ_ _ _ H _ c h=>MD c a b #[v,H,c,r,h] hd
theorem W7{x:Ae}{v:V}(a:Gl X x)(b:X.mg x=J)(c:Ec x=Z u)(r:RelV v u)(d:x≠"__name__":=by ext)(hd:Cs x:=by ext):PE X (.Name x pos) (tC v):=λ_ _ _ H _ e h=>Hr e a b c #[v,H,e,r,h] d hd
variable{a b:Expr}{tb:TE}
def PC(X:Cx)(op:CmpOp)(a b:Expr)(t:TE):Prop:=
 ∀(c:AQ) (s:Ab) (f:St) (H:Hp) (Q:VK),Inv X c f H s->t f H Q ->
  wpAny (Af X.prog X.w) X.A (Ap a X.env) (λv d=>wpAny (Af X.prog X.w) X.A (Ap b X.env) (λu e=>wpAny (Af X.prog X.w) X.A (DC op v u) (EP X c f Q) X.xe e) X.xe d) X.xe s
theorem GU(b:Expr){op:CmpOp}(h:op≠.In)(a:op≠.NotIn):GV op b=O':=by
 cases b with
 |Set _ k _=>
  show(k==0&&(op==.In||op==.NotIn)&&_)=O'
  rw[beq_false_of_ne h,beq_false_of_ne a];simp
 |_=>rfl
def kg(ta:TE):TE:=λa H Q=>ta a H λx b=>Q (.bl (decide (x=.non))) b
def kh(ta:TE):TE:=λa H Q=>ta a H λx b=>Q (.bl (!decide (x=.non))) b
theorem RelV.none_iff{x:V}{v:Aa}(r:RelV x v):(v==GP)=decide (x=.non):=by
 cases x with
 |non=>cases r;rfl
 |bl _=>cases r;rfl
 |int _=>obtain⟨t,rfl⟩:=r;rfl
 |str _=>obtain⟨t,rfl⟩:=r;rfl
 |ref _=>cases r;rfl
 |ty _=>cases r;rfl
theorem W8 {j b} (d:PE X a ta):PC X .Is a (.Constant .none j b) (kg ta):=by
 intro c s e H Q n h;refine AT (d c s e H _ n h) λv m f=>?_;obtain⟨x,g,i,k,l⟩:=f;exact Constant_none<|is_none_gen ⟨.bl _,g,i,by rw[k.none_iff];rfl,l⟩
theorem W9 {j b} (d:PE X a ta):PC X .IsNot a (.Constant .none j b) (kh ta):=by
 intro c s e H Q n h;refine AT (d c s e H _ n h) λv m f=>?_;obtain⟨x,g,i,k,l⟩:=f;exact Constant_none<|isnot_none_gen ⟨.bl _,g,i,by rw[k.none_iff];rfl,l⟩
def tB(t:TE):TT:=λa H Q=>t a H λx b=>∃c,x=.bl c/\Q c b
theorem Xa{op:CmpOp}{t:TE}(h:PC X op a b t)(d:GV op b=O':=by first|exact GU _ (by ext) (by ext)|rfl):PE X (.Compare a [op] [b] pos) t:=λc s e H Q g f=>wpAny_Compare1 (h c s e H Q g f) d
theorem Xb{op:CmpOp}{t:TE}(h:PC X op a b t)(f:GV op b=O':=by first|exact GU _ (by ext) (by ext)|rfl):PT X (.Compare a [op] [b] pos) (tB t):=by
 intro e s g H Q y i;refine wpAny_isTrue_Compare1 (AT (h e s g H _ y i) λv p f=>AT f λu r j=>AT j λc w k=>?_) f;obtain⟨x,l,m,n,o⟩:=k;obtain⟨d,rfl,q⟩:=o;cases n;exact Ij #[l,m,q]
theorem ki{e:Expr}{t:TE}(h:PE X e t)(c:∀a,isTrue e X.env a=(do let v <- a;standAt e.pos;Ee [v] (truthy v)):=by intro _;rfl):PT X e (tB t):=by
 intro b s f H Q o g;refine isTrue_plain (AT (h b s f H _ o g) λv n i=>?_) (c _);obtain⟨x,j,k,l,m⟩:=i;obtain⟨d,rfl,q⟩:=m;cases l;exact Ij #[j,k,q]
variable{tA BQ:TT}{AH:U Expr}
def Xc(t u:TT):TT:=λa H Q=>t a H λc b=>if c=J' then u a b Q else Q O' b
def Xd(t u:TT):TT:=λa H Q=>t a H λc b=>if c=J' then Q J' b else u a b Q
def kj(t:TT):TT:=λa H Q=>t a H λc b=>Q (!c) b
theorem km(d:PT X a tA):PW X (.BoolOp .And [a] pos) tA:=by
 intro wh b s f H Q i h;refine isTrue_and<|AT (d b s f H Q i h) λc g e=>?_;cases c with
 |true=>exact isTrue_and_nil e
 |false=>exact e
theorem ko(d:PT X a tA):PW X (.BoolOp .Or [a] pos) tA:=by
 intro wh b s f H Q i h;refine isTrue_or<|AT (d b s f H Q i h) λc g e=>?_;cases c with
 |false=>exact isTrue_or_nil e
 |true=>exact e
theorem kq(j:PT X a tA)(k:PW X (.BoolOp .And (b::AH) pos) BQ):PW X (.BoolOp .And (a::b::AH) pos) (Xc tA BQ):=by
 intro wh d s e H Q m h;refine isTrue_and<|AT (j d s e H _ m h) λc l ⟨f,g,i⟩=>?_;cases c with
 |true=>exact k wh d l e f Q g i
 |false=>exact#[f,g,i]
theorem kr(j:PT X a tA)(k:PW X (.BoolOp .Or (b::AH) pos) BQ):PW X (.BoolOp .Or (a::b::AH) pos) (Xd tA BQ):=by
 intro wh d s e H Q m h;refine isTrue_or<|AT (j d s e H _ m h) λc l ⟨f,g,i⟩=>?_;cases c with
 |true=>exact#[f,g,i]
 |false=>exact k wh d l e f Q g i
theorem Xe(d:PT X a tA):PT X (.UnaryOp .Not a pos) (kj tA):=by
 intro b s e H Q g h;exact isTrue_not<|d b s e H (λc f=>Q (!c) f) g h
def kt(ta tb:TE):TE:=λa H Q=>ta a H λx b=>∃c,x=.bl c/\if c=J' then tb a b Q else Q (.bl O') b
def ku(ta tb:TE):TE:=λa H Q=>ta a H λx b=>∃c,x=.bl c/\if c=J' then Q (.bl J') b else tb a b Q
def kw(ta:TE):TE:=λa H Q=>ta a H λx b=>∃c,x=.bl c/\Q (.bl (!c)) b
theorem kx {op} {t:TE} (h:PE X a t):PE X (.BoolOp op [a] pos) t:=λb s c H Q e d=>BoolOp_one<|h b s c H Q e d
theorem ky(j:PE X a ta)(k:PE X (.BoolOp .And (b::AH) pos) tb):PE X (.BoolOp .And (a::b::AH) pos) (kt ta tb):=by
 intro d s f H Q o h;refine BoolOp_and<|AT (j d s f H _ o h) λv l m=>?_;obtain⟨x,g,i,n,e⟩:=m;obtain⟨c,rfl,e⟩:=e;cases n;refine Ij ?_;cases c with
 |true=>exact k d l f g Q i e
 |false=>exact#[.bl O',g,i,rfl,e]
theorem kz(j:PE X a ta)(k:PE X (.BoolOp .Or (b::AH) pos) tb):PE X (.BoolOp .Or (a::b::AH) pos) (ku ta tb):=by
 intro d s f H Q o h;refine BoolOp_or<|AT (j d s f H _ o h) λv l m=>?_;obtain⟨x,g,i,n,e⟩:=m;obtain⟨c,rfl,e⟩:=e;cases n;refine Ij ?_;cases c with
 |false=>exact k d l f g Q i e
 |true=>exact#[.bl J',g,i,rfl,e]
theorem kA(e:PE X a ta):PE X (.UnaryOp .Not a pos) (kw ta):=by
 intro b s f H Q m h;refine UnaryOp_<|AT (e b s f H _ m h) λv l g=>?_;obtain⟨x,i,j,k,d⟩:=g;obtain⟨c,rfl,d⟩:=d;cases k;exact not_of<|Ij ⟨.bl<|!c,i,j,rfl,d⟩
def kC(t:TT)(ta tb:TE):TE:=λa H Q=>t a H λc b=>if c=J' then ta a b Q else tb a b Q
theorem kF{c:Expr}(l:PT X c tA)(m:PE X a ta)(n:PE X b tb):PE X (.IfExp c a b pos) (kC tA ta tb):=by
 intro e s f H Q o h;refine wpAny_IfExp<|AT (l e s f H _ o h) λd g ⟨i,j,k⟩=>?_;cases d with
 |true=>exact m e g f i Q j k
 |false=>exact n e g f i Q j k
end
def BL(K:Ao)(H:Hp)(a:Ac)(xs:U V):Prop:=
 Rd H a (.lst xs) \/
  ∃(o:Obj) (b:Array Aa) (n:Nat),K.lookup a=Z o/\o.cls=.type "list"/\o.dict=J/\o.data=.seq b n/\b.size<=Ax/\An xs b.toList
def B3(K:Ao)(H:Hp)(a:Ac)(xs:U V):Prop:=
 Rd H a (.tup xs) \/
  ∃(o:Obj) (b:Array Aa) (n:Nat),K.lookup a=Z o/\o.cls=.type "tuple"/\o.data=.seq b n/\b.size<=Ax/\An xs b.toList
noncomputable def kG:Aa->O V
 |.none=>Z .non
 |.bool b=>Z (.bl b)
 |.int i _=>Z (.int i)
 |.str x _=>Z (.str x)
 |.ref a=>Z (.ref a)
 |.type n=>Z (.ty n)
 |_=>J
theorem RelV.abs{x:V}(r:RelV x u):kG u=Z x:=by
 cases x with
 |non=>cases r;rfl
 |bl _=>cases r;rfl
 |int _=>obtain⟨t,rfl⟩:=r;rfl
 |str _=>obtain⟨t,rfl⟩:=r;rfl
 |ref _=>cases r;rfl
 |ty _=>cases r;rfl
theorem RelV.inj{x y:V}(r:RelV x u)(q:RelV y u):x=y:=GX<|r.abs.symm.trans q.abs
theorem An.inj{xs:U V}{us:U Aa}(h:An xs us)(g:An ys us):xs=ys:=by
 induction h generalizing ys with|nil=>cases g;rfl|cons r _ a=>
  cases g with
  |cons q t=>rw[r.inj q,a t]
section
variable{s:Ab}{xs:U V}
theorem B3.of{K:Ao}(h:H a=Z (.tup xs)):B3 K H a xs:=.inl<|.inl h
theorem Inv.list(i:Inv X pins I H s)(h:BL X.K H a xs):∃b:U Aa,An xs b/\PlainL s.heap a b.toArray/\xs.length<=Ax:=by
 rcases h with h|⟨o,b,n,c,d,hd,f,g,r⟩
 ·obtain⟨z,b,n,r,e⟩:=h.ok i.hok;exact#[b,r,#[_,n,e,rfl,rfl,rfl],z]
 ·refine#[b.toList,r,#[o,n,i.kIn a o c,d,hd,by simpa using f],?_];have e:=r.length;erw[RF]at e;lia
theorem Inv.tuple(i:Inv X pins I H s)(h:B3 X.K H a xs):∃b:U Aa,An xs b/\IsTup s.heap a b.toArray/\xs.length<=Ax:=by
 rcases h with h|⟨o,b,n,c,d,f,g,r⟩
 ·obtain⟨z,b,r,p⟩:=h.ok i.hok;exact#[b,r,p,z]
 ·refine#[b.toList,r,#[o,i.kIn a o c,d,n,by simpa using f],?_];have e:=r.length;erw[RF]at e;lia
theorem Inv.list_inj(m:Inv X pins I H s)(h:BL X.K H a xs)(h':BL X.K H a ys):xs=ys:=by
 obtain⟨c,r,⟨o,n,e,_,_,d⟩,_⟩:=m.list h;obtain⟨b,i,⟨k,l,f,_,_,g⟩,_⟩:=m.list h';rw[e]at f;cases f;rw[d]at g;injection g with j _
 have:c=b:=by simpa using congrArg Array.toList j
 subst this;exact r.inj i
theorem Inv.tuple_inj(m:Inv X pins I H s)(h:B3 X.K H a xs)(h':B3 X.K H a ys):xs=ys:=by
 obtain⟨c,r,⟨o,e,_,n,d⟩,_⟩:=m.tuple h;obtain⟨b,i,⟨k,f,_,l,g⟩,_⟩:=m.tuple h';rw[e]at f;cases f;rw[d]at g;injection g with j _
 have:c=b:=by simpa using congrArg Array.toList j
 subst this;exact r.inj i
end
noncomputable abbrev Cx.wish(X:Cx)(E:AL):Cx:={X with xe:=E}
abbrev Cx.nox(X:Cx):Cx:=X.wish λ_ _=>False
theorem Cx.Ok.wish(ok:X.Ok)(E:AL):(X.wish E).Ok:=#[ok.mod,ok.kind,ok.glob,ok.blt,ok.above,ok.inj,ok.has,ok.cab,ok.hd,ok.frames,ok.stk,ok.exf,ok.bs,ok.bsz,ok.noex,ok.exfs,ok.funs,ok.frf]
theorem Cx.Ok.unwish(ok:(X.wish E).Ok):X.Ok:=#[ok.mod,ok.kind,ok.glob,ok.blt,ok.above,ok.inj,ok.has,ok.cab,ok.hd,ok.frames,ok.stk,ok.exf,ok.bs,ok.bsz,ok.noex,ok.exfs,ok.funs,ok.frf]
section
variable{s:Ab}
theorem Inv.wish(a:Inv X pins I H s)(E:AL):Inv (X.wish E) pins I H s:=#[a.ok.wish E,a.os,a.bare,a.base,a.loc,a.cell,a.free,a.freeC,a.pin,a.hok,a.len]
theorem Inv.unwish(a:Inv (X.wish E) pins I H s):Inv X pins I H s:=#[a.ok.unwish,a.os,a.bare,a.base,a.loc,a.cell,a.free,a.freeC,a.pin,a.hok,a.len]
theorem SP.unwish{D:Ends}{f:Flow}(h:SP (X.wish E) pins D f s'):SP X pins D f s':=by
 cases f with
 |next=>obtain⟨a,b,c,q⟩:=h;exact#[a,b,c.unwish,q]
 |brk=>obtain⟨a,b,c,q⟩:=h;exact#[a,b,c.unwish,q]
 |cont=>obtain⟨a,b,c,q⟩:=h;exact#[a,b,c.unwish,q]
 |ret u=>obtain⟨v,a,b,c,r,q⟩:=h;exact#[v,a,b,c.unwish,r,q]
theorem EC.nox{st:U Az}{t:TS}(h:EC X.nox st t):EC X st t:=λpins s I H D b a=>EN (h pins s I H D (b.wish _) a) (λ_ _ q=>q.unwish) λ_ _ z=>BM z
end
section
variable{st:Az}{AH:U Az}{t u:TS}{e:Expr}
def kH:TS:=λD a H=>D.nx a H
def kI(t u:TS):TS:=λD a H=>t {D with nx:=u D} a H
theorem Eu:EC X [] kH:=λ_ _ a H _ b h=>wpAny_execs_nil #[a,H,b,h]
theorem RH(c:PS X st t)(d:EC X AH u):EC X (st::AH) (kI t u):=by
 intro a s e H D k h;refine wpAny_execs_cons<|AT (c a s e H {D with nx:=u D} k h) λf g q=>?_;cases f with
 |next=>
  obtain⟨b,i,j,q⟩:=q;exact d a g b i D j q
 |ret v=>exact q
 |brk=>exact q
 |cont=>exact q
theorem Inv.quiet{a:AQ}{s:Ab}(b:Inv X a I H s):interactive X.env=O':=by simp[interactive,b.ok.kind]
def kJ(te:TE):TS:=λD a H=>te a H λ_ b=>D.nx a b
theorem OD(c:PE X e te)(d:Ef e J pos.line X.env=AA O':=by rfl):PS X (.Expr e pos) (kJ te):=by
 intro a s b H D l h;exact wpAny_Expr_any (AT (c a s b H _ l h) λv j ⟨x,f,g,k,i⟩=>#[b,f,g,i]) l.quiet d
def kK(te:TE):TS:=λD a H=>te a H D.rt
theorem OE(c:PE X e te):PS X (.Return (Z e) pos) (kK te):=by
 intro a s b H D k h;exact wpAny_Return_some<|AT (c a s b H _ k h) λv j ⟨x,d,f,g,i⟩=>#[x,b,d,f,g,i]
def kL(c:TT)(t u:TS):TS:=λD a H=>c a H λb d=>if b=J' then t D a d else u D a d
theorem OG{c:Expr}{a b:U Az}{g:TT}(m:PT X c g)(n:EC X a t)(o:EC X b u):PS X (.If c a b pos) (kL g t u):=by
 intro e s f H D p h;refine wpAny_If<|AT (m e s f H _ p h) λd i ⟨j,k,l⟩=>?_;cases d with
 |true=>exact n e i f j D k l
 |false=>exact o e i f j D k l
def kM:TS:=λ_ _ _=>False
theorem GY:PS X st kM:=λ_ _ _ _ _ _ h=>h.elim
end
abbrev TG:=V->St->Hp->(St->Hp->Prop)->Prop
abbrev Ik:=U V->St->Hp->(St->Hp->Prop)->Prop
def PG(X:Cx)(a:Expr)(t:TG):Prop:=
 ∀(b:AQ) (s:Ab) (d:St) (H:Hp) (v:V) (u:Aa) (Q:St->Hp->Prop),Inv X b d H s->RelV v u->t v d H Q ->
  wpAny (Af X.prog X.w) X.A (assign a X.env u) (λ_ f=>∃c e,Inv X b c e f/\Q c e) X.xe s
def MF(X:Cx)(g:U Expr)(t:Ik):Prop:=
 ∀(a:AQ) (s:Ab) (c:St) (H:Hp) (d:U V) (e:U Aa) (Q:St->Hp->Prop),Inv X a c H s->An d e->t d c H Q ->
  wpAny (Af X.prog X.w) X.A (assignInOrder ((Gx g X.env).map (·.2)) e) (λ_ h=>∃b f,Inv X a b f h/\Q b f) X.xe s
abbrev OH:=V->V->V->Hp->(Hp->Prop)->Prop
def RJ(X:Cx)(t:OH):Prop:=
 ∀(a:AQ) (s:Ab) (b:St) (H:Hp) (o i v:V) (c d u:Aa) (Q:Hp->Prop),Inv X a b H s->RelV o c->RelV i d->RelV v u->t o i v H Q ->
  wpAny (Af X.prog X.w) X.A (setItem c d u) (λ_ f=>∃e,Inv X a b e f/\Q e) X.xe s
section
def Km(i:Nat):TG:=λv a H Q=>Q (a.set i (Z v)) H
theorem Xf{i:Nat}{x:Ae}(b:X.N.Nodup)(c:X.N[i]?=Z x)(d:Loc X.env.scope x)(e:X.fn x=J'\/X.env.scope.names.lookup x=Z .local:=by first|exact .inl rfl|exact .inr rfl|assumption):PG X (.Name x pos) (Km i):=by
 intro a s g H v u Q k r h;exact wpAny_assign_Name<|Rz k b c d r (λj f=>#[_,H,f,h]) e
def kN:Ik:=λa b H Q=>a=[]/\Q b H
def kO(t:TG)(u:Ik):Ik:=λb c H Q=>∃v r,b=v::r/\t v c H λa d=>u r a d Q
theorem kP:MF X [] kN:=by
 intro a s b H c d Q e r h;obtain⟨rfl,h⟩:=h;cases r;exact assignInOrder_nil #[b,H,e,h]
theorem kQ{e:Expr}{t:TG}{u:Ik}(c:PG X e t)(d:MF X es u) (f:(Gx (e::es) X.env).map (·.2)=assign e X.env::(Gx es X.env).map (·.2):=by rfl):MF X (e::es) (kO t u):=by
 intro a s g H p q Q i r h;obtain⟨v,w,rfl,h⟩:=h;cases r with
 |cons r j=>
  rw[f];refine assignInOrder_cons<|AT (c a s g H _ _ _ i r h) λ_ k l=>?_;obtain⟨b,m,n,o⟩:=l;exact d a k b m _ _ Q n j o
def kR(K:Ao)(n:Nat)(t:Ik):TG:=λv c H Q=>∃a b,v=.ref a/\B3 K H a b/\b.length=n/\t b c H Q
theorem kS{k:Nat}{t:Ik}{n:Nat}(j:X.calm=J')(h:MF X es t) (l:(Gx es X.env).length=n:=by rfl) (d:(Gx es X.env).findIdx? (·.1)=J:=by rfl):PG X (.Tuple es k pos) (kR X.K n t):=by
 intro c s g H v u Q p r f;obtain⟨a,m,rfl,q,w,f⟩:=f;cases r;obtain⟨x,i,y,C⟩:=p.tuple q;refine assign_Tuple_tuple (p.ok.hd j) y (by simp[l,<- w,i.length]) d λz A=>?_;have B:=p.kept (t':=s.toks) λb o e=>A b o (B9<|BC e) e;exact h c _ g H m _ Q B (by simpa using i) f
def kT(b c:TE)(t:OH):TG:=λv a H Q=>b a H λo d=>c a d λi e=>t o i v e λf=>Q a f
theorem RK{o i:Expr}{f g:TE}{t:OH}(j:PE X o f)(k:PE X i g)(l:RJ X t) (L:∀v,assign (.Subscript o i pos) X.env v=(do
   let b <- Ee [v] (Ap o X.env);let c <- Ee [v,b] (Ap i X.env);standAt pos
   Ee [v,b,c] (setItem b c v)
   release [v,b,c] []):=by intro _;rfl):PG X (.Subscript o i pos) (kT f g t):=by
 intro a s d H v u Q K r h;refine Al<|FC<|AT (j a s d H _ K h) λb m e=>?_;obtain⟨x,n,p,q,w⟩:=e;refine Al<|FC<|AT (k a m d n _ p w) λc z e=>?_;obtain⟨y,A,B,C,E⟩:=e;exact Al<|wpAny_standAt<|Al<|FC<|AT (l a z d A x y v b c u _ B q C r E) λ_ M ⟨G,F,q3⟩=>wpAny_release #[d,G,F,q3]
def Lx(b:TE)(g:TG):TS:=λD a H=>b a H λx c=>g x a c D.nx
theorem RL{b e:Expr}{c:TE}{g:TG}(f:PE X e c)(i:PG X b g)(j:swapsWithSole [b] e pos.line X.env=AA O':=by rfl)(k:swappedStores [b] e X.env=AA J:=by rfl) (l:(Gx [b] X.env).map (·.2)=[assign b X.env]:=by rfl):PS X (.Assign [b] e pos) (Lx c g):=by
 intro a s d H D w h;refine wpAny_Assign_stores (AT (f a s d H _ w h) λv m n=>?_) j k;obtain⟨x,o,p,r,t⟩:=n;rw[l];exact AT (i a m d o x v _ p r t) λ_ u q=>q
theorem OI{i:Nat}{x:Ae}{e:Expr}{c:TE}{a:AD}(d:X.N.Nodup)(f:X.N[i]?=Z x)(g:Loc X.env.scope x)(j:PE X e c)(k:Ef e (Z (.Name x a)) pos.line X.env=AA O':=by rfl)(l:X.fn x=J'\/X.env.scope.names.lookup x=Z .local:=by first|exact .inl rfl|exact .inr rfl|assumption):PS X (.Assign [.Name x a] e pos) (Lx c (Km i)):=by
 intro b s m H D z h;refine wpAny_Assign_Name (AT (j b s m H _ z h) λv u n=>?_) k;obtain⟨y,o,p,q,r⟩:=n;exact Rz p d f g q (λw t=>#[_,o,t,r]) l
end
structure It where
 go:Nat->Hp->Prop
 yld:Nat->Hp->V->Hp->Prop
 stop:Nat->Hp->Prop
def F5(X:Cx)(a:AQ)(H:Hp)(b:Ac):Prop:=
 H b=J/\b≠X.env.locals/\b∉X.fs/\(b∈X.ex\/X.s₀.heap.objs.size<=b)/\(∀x c,X.env.cells.lookup x=Z c->c≠b)/\∀p∈X.pn++a,p.1≠b
theorem Inv.fpOk{a:AQ}{s:Ab}{b:Ac}(h:Inv X a I H s)(d:s.heap.objs.size<=b)(f:H' b=J):F5 X a H' b:=by
 refine#[f,Hs<|B6 h.lt d,h.nofs d,.inr<|BZ h.sz d,λx c e z=>?_,λp g z=>?_]
 ·obtain⟨v,q⟩:=h.cell x c e;exact absurd (B6 q.lt (by rw[z];exact d))<|Hq _
 ·exact absurd (B6 (BC (h.pin p g).1) (by rw[z];exact d))<|Hq _
structure Ht(P:AM)(w:Ai)(K:Ao)(tg:Expr)(a:It)(fp:List Ac)(it:Ac)(tn:Nat->Ak->Prop):Prop where
 mem:it∈fp
 obj:∀i h,tn i h->∀b∈fp,∃o,h.get? b=Z o/\∀v,o.data≠.cell v
 keep:∀i h h',tn i h->(∀b∈fp,∀o,h.get? b=Z o->h'.get? b=Z o)->tn i h'
 item:∀(X:Cx),X.prog=P->X.w=w->X.K=K->X.calm=J'->∀(i:Nat) (pins:AQ) (s:Ab) (I:St) (H:Hp) (E:AL),Inv X pins I H s->(∀b∈fp,F5 X pins H b)->tn i s.heap->a.go i H ->
  wpAny (Af P w) X.A (pyNext (.ref it)) (λr s1=>∃u,r=Z u /\
   wpAny (Af P w) X.A (letOwnedTupleGo tg (.ref it) u) (λ_ s2=>∃x H',Inv X pins I H' s2/\RelV x u/\a.yld i H x H'/\tn (i+1) s2.heap/\∀b∈fp,H' b=J) E s1) E s
 done:∀(X:Cx),X.prog=P->X.w=w->X.K=K->X.calm=J'->∀(i:Nat) (pins:AQ) (s:Ab) (I:St) (H:Hp) (E:AL),Inv X pins I H s->(∀b∈fp,F5 X pins H b)->tn i s.heap->a.stop i H ->
  wpAny (Af P w) X.A (pyNext (.ref it)) (λr s1=>r=J/\Inv X pins I H s1) E s
 self:∀(A:Ag) (i:Nat) (s:Ab) (Q:AL) (E:AL),tn i s.heap->Q (.ref it) s->wpAny (Af P w) A (pyIter (.ref it)) Q E s
abbrev TI:=St->Hp->(It->Hp->Prop)->Prop
variable{wi:TI}
def Xg(X:Cx)(a:AQ)(I:St)(h:Expr)(R:It->Hp->Prop)(c:Aa)(e:Ab):Prop:=
 ∃(it:Ac) (f:U Ac) (g:Nat->Ak->Prop) (i:It) (d:Hp),c=.ref it/\Inv X a I d e/\Ht X.prog X.w X.K h i f it g/\g 0 e.heap/\(∀b∈f,F5 X a d b)/\R i d
def PI(X:Cx)(c iter:Expr)(wi:TI):Prop:=
 ∀(a:AQ) (s:Ab) (b:St) (H:Hp) (R:It->Hp->Prop),Inv X a b H s->wi b H R ->
  wpAny (Af X.prog X.w) X.A (Ap iter X.env) (λv d=>wpAny (Af X.prog X.w) X.A (pyIter v) (Xg X a b c R) X.xe d) X.xe s
theorem kU{M:Model}{A:Ag}{s:Ab}{b:Expr}{it:Ac}{n:String}{vs:Array Aa}(c:s.heap.get? it=Z o)(d:o.cls=.type n)(hd:o.data=.fields vs) (e:["enumerate","zip","dict_itemiterator","dict_reverseitemiterator","odict_iterator","itertools.zip_longest","itertools.pairwise"].contains n=O') (a:Q () s):wpAny M A (letOwnedTupleGo b (.ref it) u) Q E s:=by
 cases b<;>first
  |exact AN a
  |(cases u<;>first
    |exact AN a
    |(refine Al (wpAny_load c ?_)
      rw[d,hd];show wpAny M A (if(["enumerate","zip","dict_itemiterator","dict_reverseitemiterator","odict_iterator","itertools.zip_longest","itertools.pairwise"].contains n&&vs[0]?==Z (AV _))=J' then _ else _) Q E s
      rw[if_neg (by intro h;rw[e,Bool.false_and]at h;cases h)];exact AN a))
def Xh(K:Ao)(a:Ac):It:=
 #[λi H=>∃b x,BL K H a b/\b[i]?=Z x,λi H x c=>c=H/\∀b,BL K H a b->b[i]?=Z x,λi H=>∃b,BL K H a b/\b.length<=i]
def Xi(K:Ao)(a:Ac):It:=
 #[λi H=>∃b x,B3 K H a b/\b[i]?=Z x,λi H x c=>c=H/\∀b,B3 K H a b->b[i]?=Z x,λi H=>∃b,B3 K H a b/\b.length<=i]
def MG(lo:Int)(n:Nat):It:=#[λi _=>i<n,λi H x a=>a=H/\x=.int (lo+i),λi _=>n<=i]
theorem MH{P:AM}{w:Ai}{K:Ao}{N:Expr}{F:It}{it:Ac}{f:Nat->Ak->Prop}{n:String}(R:["enumerate","zip","dict_itemiterator","dict_reverseitemiterator","odict_iterator","itertools.zip_longest","itertools.pairwise"].contains n=O') (ob:∀i h,f i h->∃o fs,h.get? it=Z o/\o.cls=.type n/\o.data=.fields fs) (kp:∀i h h',f i h->(∀o,h.get? it=Z o->h'.get? it=Z o)->f i h') (M:∀(X:Cx) (i:Nat) (a:AQ) (s:Ab) (I:St) (H:Hp) (E:AL) (Q:O Aa->Ab->Prop),X.K=K->X.A.handled=J->Inv X a I H s->f i s.heap->(F.go i H->(∀u x h' g,f (i+1) h'->(∀b o,b≠it->s.heap.get? b=Z o->h'.get? b=Z o)->RelV x u->F.yld i H x H->Q (Z u) {s with heap:=h',toks:=g})->wpAny (Af P w) X.A (pyNext (.ref it)) Q E s)/\(F.stop i H->(∀h' g,(∀b o,b≠it->s.heap.get? b=Z o->h'.get? b=Z o)->Q J {s with heap:=h',toks:=g})->wpAny (Af P w) X.A (pyNext (.ref it)) Q E s)) (T:∀(A:Ag) (i:Nat) (s:Ab) (Q:AL) (E:AL),f i s.heap->Q (.ref it) s->wpAny (Af P w) A (pyIter (.ref it)) Q E s):Ht P w K N F [it] it f where
 mem:=by simp
 obj:=λi h st b m=>by
  obtain⟨o,fs,e,_,d⟩:=ob i h st;rw[EO.mp m];exact#[o,e,λv z=>by rw[d]at z;cases z]
 keep:=λi h h' st k=>kp i h h' st<|k it (by simp);item:=by
  intro X S Y p q i a s I H E W l st r;obtain⟨t,B,f2,C,G,L⟩:=l it (by simp);refine(M X i a s I H E _ p (W.ok.hd q) W st).1 r λu x h' g j k ru y=>?_;obtain⟨o,fs,e,c,d⟩:=ob _ _ j;exact#[u,rfl,kU e c d R #[x,H,W.turned k t B C G L,ru,y,j,λb m=>(l b m).1]]
 done:=by
  intro X S Y p q i a s I H E W l st r;obtain⟨t,B,f2,C,G,L⟩:=l it (by simp);exact(M X i a s I H E _ p (W.ok.hd q) W st).2 r λh' g k=>#[rfl,W.turned k t B C G L]
 self:=T
theorem kW{P:AM}{w:Ai}{K:Ao}{y:Expr}(a it:Ac):Ht P w K y (Xh K a) [it] it (λi h=>h.IsListIter it a i):=by
 refine MH (n:="list_iterator") (by ext) (λi h st=>?_) (λi h f st k=>st.at k) (λX i t s T H E Q z A W st=>?_) λ_ _ _ _ _ st h=>wpAny_pyIter_listiter st h
 ·obtain⟨o,e,c,d⟩:=st;exact#[o,_,e,c,d]
 ·subst z;constructor<;>intro v q
  ·obtain⟨B,x,g,j⟩:=v;obtain⟨l,m,p,C⟩:=W.list g;obtain⟨u,G,F⟩:=m.get j;exact wpAny_pyNext_list_item st p.isList (by simpa using G) λf r L=>q u x f s.toks r (λb o M e=>(L.2 b M).trans e) F #[rfl,λS N=>by rw[W.list_inj N g];exact j]
  ·obtain⟨B,g,j⟩:=v;obtain⟨l,m,p,C⟩:=W.list g;have Y:=m.length;exact wpAny_pyNext_list_end A st p.isList (by simp;lia) λf R=>q f s.toks R
theorem kX{P:AM}{w:Ai}{K:Ao}{y:Expr}(a it:Ac):Ht P w K y (Xi K a) [it] it (λi h=>h.IsTupleIter it a i):=by
 refine MH (n:="tuple_iterator") (by ext) (λi h st=>?_) (λi h g st k=>st.at k) (λX i t s T H E Q z A W st=>?_) λ_ _ _ _ _ st h=>wpAny_pyIter_tupleiter st h
 ·obtain⟨o,e,c,d⟩:=st;exact#[o,_,e,c,d]
 ·subst z;constructor<;>intro v q
  ·obtain⟨B,x,j,l⟩:=v;obtain⟨f,m,p,C⟩:=W.tuple j;obtain⟨u,G,F⟩:=m.get l;exact wpAny_pyNext_tuple_item st (show s.heap.IsTuple a f.toArray from p) (by simpa using G) λg r L=>q u x g s.toks r (λb o M e=>(L.2 b M).trans e) F #[rfl,λS N=>by rw[W.tuple_inj N j];exact l]
  ·obtain⟨B,j,l⟩:=v;obtain⟨f,m,p,C⟩:=W.tuple j;have Y:=m.length;exact wpAny_pyNext_tuple_end A st (show s.heap.IsTuple a f.toArray from p) (by simp;lia) λg R=>q g s.toks R
theorem kY{P:AM}{w:Ai}{K:Ao}{j:Expr}(it:Ac)(lo:Int)(n:Nat):Ht P w K j (MG lo n) [it] it (λi h=>IsRangeIter h it (lo+(i:Nat)*1) ((n:Int)-(i:Nat)) 1):=by
 refine MH (by ext) (λi h st=>#[_,_,st,rfl,rfl]) (λi h a st k=>k _ st) (λX i d s x H E Q y f z st=>?_) λ_ _ _ _ _ st h=>wpAny_pyIter_rangeiter st h;constructor<;>intro g q
 ·refine(Walks.range f it lo 1 n).item i s _ _ g st λv a l m c p=>?_;obtain⟨t,rfl⟩:=m;exact q _ (.int<|lo+i) a l c (λb o r e=>p b o (by simpa using r) e) #[t,by simp] #[rfl,rfl]
 ·exact wpAny_pyNext_range_end f st (by have:n<=i:=g;lia) λa u=>q a s.toks u
section
def kZ(K:Ao)(c:TE):TI:=λd H R=>c d H λx b=>∃a,x=.ref a/\(∃e,BL K b a e)/\R (Xh K a) b
def k6(K:Ao)(c:TE):TI:=λd H R=>c d H λx b=>∃a,x=.ref a/\(∃e,B3 K b a e)/\R (Xi K a) b
theorem Xj{l:Expr}{g:TE}(i:PE X l g):PI X tg l (kZ X.K g):=by
 intro c s j H R B h;refine AT (i c s j H _ B h) λv d k=>?_;obtain⟨x,m,f,n,r⟩:=k;obtain⟨a,rfl,⟨y,t⟩,q⟩:=r;cases n;obtain⟨u,z,p,A⟩:=f.list t;refine OJ p.isList ?_;refine#[d.heap.objs.size,[d.heap.objs.size],_,_,m,rfl,f.kept (t':=d.toks) λb o e=>Br _ e,kW a _,#[_,Cc _ rfl,rfl,rfl],λb w=>?_,q];have e:b=d.heap.objs.size:=by simpa using w
 subst e;exact f.fpOk (Bf _)<|f.hok.fresh<|Bf _
theorem k7{l:Expr}{i:TE}(j:PE X l i):PI X tg l (k6 X.K i):=by
 intro c s k H R B h;refine AT (j c s k H _ B h) λv d m=>?_;obtain⟨x,n,f,r,t⟩:=m;obtain⟨a,rfl,⟨y,u⟩,q⟩:=t;cases r;obtain⟨g,z,p,A⟩:=f.tuple u;refine wpAny_pyIter_tuple (show d.heap.IsTuple a g.toArray from p) ?_;refine#[d.heap.objs.size,[d.heap.objs.size],_,_,n,rfl,f.kept (t':=d.toks) λb o e=>Br _ e,kX a _,#[_,Cc _ rfl,rfl,rfl],λb w=>?_,q];have e:b=d.heap.objs.size:=by simpa using w
 subst e;exact f.fpOk (Bf _)<|f.hok.fresh<|Bf _
theorem Xk{a:AQ}{s:Ab}{R:It->Hp->Prop}{lo c:Int}{t u v:Tok}{d:Nat}(n:Inv X a I H s)(g : -(2^62)<=lo)(h:lo<2^62)(i : -(2^62)<=c)(j:c<2^62) (q:R (MG lo (c-lo).toNat) H):wpAny (Af X.prog X.w) X.A (pyIter (.ref s.heap.objs.size)) (Xg X a I tg R) E {s with heap:=s.heap.push {cls:=.type "range",data:=.fields (T' [.int lo t,.int c u,.int 1 v])},toks:=d}:=by
 refine wpAny_pyIter_range (IsRange.new ..) (small_one g h i j) ?_;have f:Inv X a I H {s with heap:=s.heap.push {cls:=.type "range",data:=.fields (T' [.int lo t,.int c u,.int 1 v])},toks:=d}:=n.kept λb o e=>Br _ e;refine#[(s.heap.push {cls:=.type "range",data:=.fields (T' [.int lo t,.int c u,.int 1 v])}).objs.size,[(s.heap.push {cls:=.type "range",data:=.fields (T' [.int lo t,.int c u,.int 1 v])}).objs.size],_,_,H,rfl,
  f.kept (t':=d) λb o e=>Br _ e,kY _ lo (c-lo).toNat,?_,λb k=>?_,q]
 ·have l:lo+((0:Nat):Int)*1=lo:=by simp
  have m:(((c-lo).toNat:Nat):Int)-((0:Nat):Int)=Builtin.Range.rangeSize lo c 1:=by rw[rangeSize_one];split<;>lia
  rw[l,m];exact Cc _ rfl
 ·have e:b=(s.heap.push {cls:=.type "range",data:=.fields (T' [.int lo t,.int c u,.int 1 v])}).objs.size:=by simpa using k
  subst e;exact f.fpOk (Bf _)<|f.hok.fresh<|Bf _
def k8(a:TA):TI:=λb H R=>a b H λc d=>∃j:Int,c=[.int j] /\ -(2^62)<=j/\j<2^62/\R (MG 0 j.toNat) d
def k9(a:TA):TI:=λb H R=>a b H λc d=>∃i j:Int,c=[.int i,.int j]/\(-(2^62)<=i/\i<2^62 /\ -(2^62)<=j/\j<2^62)/\R (MG i (j-i).toNat) d
theorem Xl{a:Expr}{d:TA}{p:AD}(f:Gl X "range")(g:X.mg "range"=J)(i:PA X [a] d)(k:AC [a] X.env=[(O',Ap a X.env)]:=by rfl):PI X tg (.Call (.Name "range" p) [a] [] pos) (k8 d):=by
 intro b s l H R e h;refine Call_<|Hr e f g boot_range<|MJ (AT (i pos b s l H _ e h) λw x m=>?_) k rfl;obtain⟨y,z,n,o,c⟩:=m;obtain⟨j,rfl,c,u,q⟩:=c;cases o with
 |cons r v=>
  cases v;obtain⟨t,rfl⟩:=r;exact call_range_1<|Xk n (Int.neg_ofNat_le_ofNat (2^62) 0) (W.kbt_pos 62) c u (by simpa using q)
theorem la{a b:Expr}{k:TA}{p:AD}(l:Gl X "range")(m:X.mg "range"=J)(n:PA X [a,b] k)(o:AC [a,b] X.env=[(O',Ap a X.env),(O',Ap b X.env)]:=by rfl)(c:AC [b] X.env=[(O',Ap b X.env)]:=by rfl):PI X tg (.Call (.Name "range" p) [a,b] [] pos) (k9 k):=by
 intro d s u H R F h;refine Call_<|Hr F l m boot_range<|MJ (AT (n pos d s u H _ F h) λB C v=>?_) (by rw[o,c]) (by rw[c];rfl);obtain⟨E,G,w,x,f⟩:=v;obtain⟨i,j,rfl,⟨f,y,q3,z⟩,q⟩:=f;cases x with
 |cons r g=>
  cases g with
  |cons A g=>
   cases g;obtain⟨t,rfl⟩:=r;obtain⟨e,rfl⟩:=A;exact call_range_2<|Xk w f y q3 z q
def Xm(wi:TI)(g:TG)(tb:TS):TS:=λD a H=>wi a H λj f=>∃W:Nat->Nat->St->Hp->Prop,(∃m,W 0 m a f)/\∀i m a H,W i m a H ->
 (j.stop i H/\D.nx a H)\/(j.go i H/\∃N:St->Hp->Prop,(∀b c,N b c->∃e,e<m/\W (i+1) e b c)/\∀x c,j.yld i H x c->g x a c λd h=>tb {D with nx:=N,ct:=N,bk:=D.nx} d h)
def Kn(a:U Ac)(h:Ak):AQ:=a.filterMap λb=>(h.get? b).map λo=>(b,o)
theorem OL{a:U Ac}{h:Ak}{b:Ac}(c:b∈a)(e:h.get? b=Z o):(b,o)∈Kn a h:=List.mem_filterMap.mpr #[b,c,by rw[e];rfl]
theorem Xn{a:U Ac}{h:Ak}{p:Ac×Obj}(c:p∈Kn a h):p.1∈a/\h.get? p.1=Z p.2:=by
 obtain⟨b,d,e⟩:=List.mem_filterMap.mp c;obtain⟨o,q,e⟩:=B0.mp e;grind
theorem Inv.pinned{a:AQ}{s:Ab}{c:U Ac}(l:Inv X a I H s)(d:∀b∈c,F5 X a H b)(h:∀b∈c,∃o,s.heap.get? b=Z o/\∀v,o.data≠.cell v):Inv X (a++Kn c s.heap) I H s:=l.pins_of λp f=>(Dw.mp f).elim (λz=>l.pin p<|Dk _ z) λz=>by
  obtain⟨g,e⟩:=Xn z;obtain⟨i,j,k,_⟩:=d p.1 g;grind
theorem Inv.unpinned{a pl:AQ}{s:Ab}(c:Inv X (a++pl) I H s):Inv X a I H s:=c.pins_of λp b=>c.pin p<|Dk _<|Ii _ b
theorem ON{z:U Az}{g:TG}{tb:TS}(E:Bz (Af X.prog X.w) X.A X.env X.xe)(hc:X.calm=J')(hi:PI X tg iter wi)(hg:PG X tg g)(j:EC X z tb) (hs:∀x,EQ iter X.env x=AA x:=by intro _;rfl):PS X (.For tg iter z [] pos) (Xm wi g tb):=by
 intro a s I H D R h;refine wpAny_For (AT (hi a s I H _ R h) λv s1 h1=>AT h1 λitv s2 h2=>?_) hs;obtain⟨it,G,tn,F,H2,rfl,I2,T,Q,f2,W,⟨m0,w0⟩,turn⟩:=h2;have k:∀{y:Hp},(∀b∈G,y b=J)->∀b∈G,F5 X a y b:=λhn b j=>#[hn b j,(f2 b j).2];refine codeAny_forLoop_any (λn s'=>∃i l y,Inv X a l y s'/\tn i s'.heap/\(∀b∈G,y b=J)/\W i n l y) ?_ m0 #[0,I,H2,I2,Q,λb j=>(f2 b j).1,w0];rintro n s3 ⟨i,p,K,I3,L,M,w3⟩;rcases turn i n p K w3 with⟨stop,qn⟩|⟨go,N,hN,step⟩
 ·refine OO E<|AT (T.done X rfl rfl rfl hc i a s3 p K X.xe I3 (k M) L stop) λr s4 ⟨P,I4⟩=>?_;subst P;exact wpAny_execs_nil #[p,K,I4,qn]
 ·refine OO E<|AT (T.item X rfl rfl rfl hc i a s3 p K X.xe I3 (k M) L go) λr s4 ⟨u,P,h4⟩=>?_;subst P;refine OO E<|AT h4 λ_ s5 Y=>?_;obtain⟨x,H5,I5,r5,y5,C,fr5⟩:=Y;have I5':=I5.pinned (k fr5)<|T.obj _ _ C;refine OO E<|AT (hg _ s5 p H5 x u _ I5' r5<|step x H5 y5) λ_ s6 Y=>?_;obtain⟨σ6,H6,I6,q6⟩:=Y;refine OO E<|AT (j _ s6 σ6 H6 _ I6 q6) λf s7 B=>?_;have again:∀{c:St} {q:Hp},Inv X (a++Kn G s5.heap) c q s7->N c q->∃m,m<n/\∃i l y,Inv X a l y s7/\tn i s7.heap/\(∀b∈G,y b=J)/\W i m l y:=λ{c q} t n7=>by
   obtain⟨m',hm,w7⟩:=hN c q n7;refine#[m',hm,i+1,c,q,t.unpinned,T.keep _ _ _ C λb j o e=>(t.pin (b,o)<|Dk _<|Dk _<|OL j e).1,λb j=>?_,w7];obtain⟨o,e,d⟩:=T.obj _ _ C b j;exact(t.pin (b,o)<|Dk _<|Dk _<|OL j e).2.1
  cases f with
  |next=>obtain⟨c,q,t,n7⟩:=B;exact again t n7
  |cont=>obtain⟨c,q,t,n7⟩:=B;exact again t n7
  |brk=>obtain⟨c,q,t,B⟩:=B;exact#[c,q,t.unpinned,B]
  |ret v=>obtain⟨x7,c,q,t,r7,B⟩:=B;exact#[x7,c,q,t.unpinned,r7,B]
end
abbrev R2:=V->V->Hp->VK->Prop
def Ca(X:Cx)(f:Aa->Aa->Sem Aa)(r:R2):Prop:=
 ∀(a:AQ) (s:Ab) (b:St) (H:Hp) (x y:V) (v u:Aa) (Q:VK),Inv X a b H s->RelV x v->RelV y u->r x y H Q ->
  wpAny (Af X.prog X.w) X.A (f v u) (EP X a b Q) X.xe s
def RM(X:Cx)(f:Aa->Sem Aa)(r:V->Hp->VK->Prop):Prop:=
 ∀(a:AQ) (s:Ab) (b:St) (H:Hp) (x:V) (v:Aa) (Q:VK),Inv X a b H s->RelV x v->r x H Q ->
  wpAny (Af X.prog X.w) X.A (f v) (EP X a b Q) X.xe s
def ED(X:Cx)(f:Aa)(r:U V->Hp->VK->Prop):Prop:=
 ∀(a:AQ) (s:Ab) (b:St) (H:Hp) (c:U V) (d:U Aa) (Q:VK),Inv X a b H s->An c d->r c H Q ->
  wpAny (Af X.prog X.w) X.A (call f d) (EP X a b Q) X.xe s
def lb(X:Cx)(r:V->Hp->(Bool->Hp->Prop)->Prop):Prop:=
 ∀(a:AQ) (s:Ab) (b:St) (H:Hp) (x:V) (v:Aa) (Q:Bool->Hp->Prop),Inv X a b H s->RelV x v->r x H Q ->
  wpAny (Af X.prog X.w) X.A (truthy v) (TP X a b Q) X.xe s
def Ly(r:R2)(b tb:TE):TE:=λa H Q=>b a H λx c=>tb a c λy d=>r x y d Q
def lc(r:V->Hp->VK->Prop)(a:TE):TE:=λb H Q=>a b H λx c=>r x c Q
def rI(C:Int->Int->Prop)(g:Int->Int->V):R2:=λx y H Q=>∃i j,x=.int i/\y=.int j/\C i j/\Q (g i j) H
def Hu(g:Int->Int->V):R2:=λx y H Q=>∃i j,x=.int i/\y=.int j/\Q (g i j) H
def rU(g:Int->V):V->Hp->VK->Prop:=λx H Q=>∃i,x=.int i/\Q (g i) H
section
variable{a b c:Expr}{tb:TE}
theorem RN(l:PE X a ta)(m:PE X b tb){c:AQ}{s:Ab}{R:V->V->Hp->Prop}(C:Inv X c I H s) (h:ta I H λx j=>tb I j λy d=>R x y d) {Q:AL} {f:Aa->Aa->Sem Aa}
  (n:∀v u i x y d,Inv X c I d i->RelV x v->RelV y u->R x y d->wpAny (Af X.prog X.w) X.A (f v u) Q X.xe i):
  wpAny (Af X.prog X.w) X.A (Ap a X.env) (λv e=>wpAny (Af X.prog X.w) X.A (Ap b X.env) (λu g=>wpAny (Af X.prog X.w) X.A (f v u) Q X.xe g) X.xe e) X.xe s:=by
 refine AT (l c s I H _ C h) λv o k=>?_
 obtain⟨x,j,p,q,r⟩:=k
 refine AT (m c o I j _ p r) λu i k=>?_
 obtain⟨y,d,t,z,B⟩:=k
 exact n v u i x y d t q z B
theorem lf{op:Operator}{r:R2}(d:Ca X (GZ op) r)(e:PE X a ta)(f:PE X b tb):PE X (.BinOp a op b pos) (Ly r ta tb):=by
 intro c s g H Q n h;exact wpAny_BinOp<|RN e f n h λv u i x y j k l m q=>d c i g j x y v u Q k l m q
theorem lg{op:UnaryOp}{r:V->Hp->VK->Prop}(d:RM X (unaryOp op) r)(e:PE X a ta):PE X (.UnaryOp op a pos) (lc r ta):=by
 intro b s c H Q l h;exact UnaryOp_<|AT (e b s c H _ l h) λv f ⟨x,g,i,j,k⟩=>d b f c g x v Q i j k
theorem OP{f:Aa->Aa->Sem Aa}{C:Int->Int->Prop}{g:Int->Int->Int} (rule:∀(i j:Int) (t u:Tok) (s:Ab) (Q:AL) (E:AL),C i j->Q (.int (g i j) s.toks) {s with toks:=s.toks+1}->wpAny (Af X.prog X.w) X.A (f (.int i t) (.int j u)) Q E s):Ca X f (rI C λi j=>.int (g i j)):=by
 intro a s k H x y v u Q l b c h;obtain⟨i,j,rfl,rfl,d,q⟩:=h;obtain⟨t,rfl⟩:=b;obtain⟨e,rfl⟩:=c;exact rule i j t e s _ _ d #[.int<|g i j,H,l.tok _,⟨_,rfl⟩,q]
theorem Xo{f:Aa->Aa->Sem Aa}{g:Int->Int->Int} (rule:∀(i j:Int) (t u:Tok) (s:Ab) (Q:AL) (E:AL),Q (.int (g i j) s.toks) {s with toks:=s.toks+1}->wpAny (Af X.prog X.w) X.A (f (.int i t) (.int j u)) Q E s):Ca X f (Hu λi j=>.int (g i j)):=by
 intro a s e H x y v u Q k b c h;obtain⟨i,j,rfl,rfl,q⟩:=h;obtain⟨t,rfl⟩:=b;obtain⟨d,rfl⟩:=c;exact rule i j t d s _ _ #[.int<|g i j,H,k.tok _,⟨_,rfl⟩,q]
theorem RO{f:Aa->Aa->Sem Aa}{g:Int->Int->Bool} (rule:∀(i j:Int) (t u:Tok) (s:Ab) (Q:AL) (E:AL),Q (.bool (g i j)) s->wpAny (Af X.prog X.w) X.A (f (.int i t) (.int j u)) Q E s):Ca X f (Hu λi j=>.bl (g i j)):=by
 intro a s e H x y v u Q k b c h;obtain⟨i,j,rfl,rfl,q⟩:=h;obtain⟨t,rfl⟩:=b;obtain⟨d,rfl⟩:=c;exact rule i j t d s _ _ #[.bl<|g i j,H,k,rfl,q]
def MK(i j:Int):Prop:=0<j/\j<1073741824
def Lz(i j:Int):Prop:=0<=j/\j<=1000000/\i.natAbs<2^64
def DY(i j:Int):Prop:=(-(2^64)<i/\i<2^64)\/(-(2^64)<j/\j<2^64)
theorem DY.ok{i j:Int}(h:DY i j):IntMulOk i j:=by
 rcases h with⟨a,b⟩|⟨a,b⟩
 ·exact .of_left<|intBits_le_64 a b
 ·exact .of_right<|intBits_le_64 a b
theorem Ko:Ca X (GZ .Add) (Hu λi j=>.int (i+j)):=Xo λ_ _ _ _ _ _ _ q=>add_int q
theorem lh:Ca X (GZ .Sub) (Hu λi j=>.int (i-j)):=Xo λ_ _ _ _ _ _ _ q=>sub_int q
theorem li:Ca X (GZ .Mult) (rI DY λi j=>.int (i*j)):=OP λ_ _ _ _ _ _ _ a q=>mul_int q a.ok
theorem lj:Ca X (GZ .FloorDiv) (rI MK λi j=>.int (i/j)):=OP λi j _ _ _ _ _ a q=>by
 have b:=a.1;have c:=a.2;exact floordiv_int (B2<|Int.ne_of_lt b) (by rw[Int.fdiv_eq_ediv_of_nonneg i<|Int.le_of_lt b];exact q)<|.inl<|PyProof.noPylong_small (by lia)
theorem ll:Ca X (GZ .Mod) (rI (λ_ j=>0<j) λi j=>.int (i%j)):=OP λi j _ _ _ _ _ a q=>by
 have b:=a;exact mod_int' (by lia) (by rw[Int.fmod_eq_emod_of_nonneg i (by lia)];exact q)
theorem lm:Ca X (GZ .Pow) (rI Lz λi j=>.int (i^j.toNat)):=OP λ_ _ _ _ _ _ _ a q=>pow_int_small a.1 a.2.1 a.2.2 q
theorem lq{f:Aa->Sem Aa}{g:Int->Int} (rule:∀(i:Int) (t:Tok) (s:Ab) (Q:AL) (E:AL),Q (.int (g i) s.toks) {s with toks:=s.toks+1}->wpAny (Af X.prog X.w) X.A (f (.int i t)) Q E s):RM X f (rU λi=>.int (g i)):=by
 intro a s c H x v Q d b h;obtain⟨i,rfl,q⟩:=h;obtain⟨t,rfl⟩:=b;exact rule i t s _ _ #[.int<|g i,H,d.tok _,⟨_,rfl⟩,q]
theorem lr:RM X (unaryOp .USub) (rU λi=>.int (-i)):=lq λ_ _ _ _ _ q=>neg_int q
end
section
variable{a b c:Expr}{tb tc:TE}
theorem Xp{a:AQ}{s:Ab}{Q:VK}{k k':Bool}(b:Inv X a I H s)(q:Q (.bl k) H)(e:k=k'):EP X a I Q (.bool k') s:=by
 subst e;exact#[.bl k,H,b,rfl,q]
theorem Xq:Ca X (DC .LtE) (Hu λi j=>.bl (decide (i<=j))):=RO λ_ _ _ _ _ _ _ q=>le_int q
theorem Xr:Ca X (DC .Gt) (Hu λi j=>.bl (decide (j<i))):=RO λ_ _ _ _ _ _ _ q=>gt_int q
theorem lu:Ca X (DC .GtE) (Hu λi j=>.bl (decide (j<=i))):=RO λ_ _ _ _ _ _ _ q=>ge_int q
theorem lw:Ca X (DC .In) (λx y H Q=>∃i j,x=.str i/\y=.str j/\Q (.bl (!(ML j i 0 j.length 1).isEmpty)) H):=by
 intro a s d H x y v u Q f b c h;obtain⟨i,j,rfl,rfl,q⟩:=h;obtain⟨t,rfl⟩:=b;obtain⟨e,rfl⟩:=c;exact in_str<|Xp f q rfl
theorem lx:Ca X (DC .NotIn) (λx y H Q=>∃i j,x=.str i/\y=.str j/\Q (.bl (!(!(ML j i 0 j.length 1).isEmpty))) H):=by
 intro a s d H x y v u Q f b c h;obtain⟨i,j,rfl,rfl,q⟩:=h;obtain⟨t,rfl⟩:=b;obtain⟨e,rfl⟩:=c;exact notIn_str<|Xp f q rfl
theorem Ca.or{f:Aa->Aa->Sem Aa}{r b:R2}(h:Ca X f r)(h':Ca X f b):Ca X f (λx y H Q=>r x y H Q\/b x y H Q):=by
 intro a s c H x y v u Q g d e q;rcases q with q|q
 ·exact h a s c H x y v u Q g d e q
 ·exact h' a s c H x y v u Q g d e q
theorem ly{op:CmpOp}{r:R2}(d:Ca X (DC op) r)(e:PE X a ta)(f:PE X b tb)(g:GV op b=O'):PE X (.Compare a [op] [b] pos) (Ly r ta tb):=by
 intro c s i H Q o h;exact wpAny_Compare1 (RN e f o h λv u j x y k l m n q=>d c j i k x y v u Q l m n q) g
def lz(t:TE):TT:=λa H Q=>t a H λx b=>∃k,x=.bl k/\Q k b
theorem Xs{op:CmpOp}{r:R2}(g:Ca X (DC op) r)(i:PE X a ta)(j:PE X b tb)(l:GV op b=O'):PT X (.Compare a [op] [b] pos) (lz (Ly r ta tb)):=by
 intro d s f H Q K h;refine wpAny_isTrue_Compare1 (AT (i d s f H _ K h) λv m ⟨x,n,o,p,q⟩=>AT (j d m f n _ o q) λu t ⟨y,w,A,B,C⟩=>
  AT (g d t f w x y v u _ A p B C) λc L ⟨z,E,G,F,k,e,q3⟩=>?_) l
 subst e;cases F;exact Ij #[E,G,q3]
def Xt(r c:R2)(ta tb tc:TE):TE:=λa H Q=>ta a H λx d=>tb a d λy e=>r x y e λz b=>∃k,z=.bl k /\
 (if k=J' then tc a b λf g=>c y f g Q else Q (.bl O') b)
theorem lA{op g:CmpOp}{r l:R2}(p:Ca X (DC op) r)(j:Ca X (DC g) l)(q:PE X a ta)(t:PE X b tb)(w:PE X c tc) (A:lastMarks [op,g] [b,c]=O':=by with_unfolding_all rfl):PE X (.Compare a [op,g] [b,c] pos) (Xt r l ta tb tc):=by
 intro f s i H Q R h;refine Compare_chain (AT (q f s i H _ R h) λv B ⟨x,C,E,G,F⟩=>chain_link (AT (t f B i C _ E F) λu L ⟨y,M,N,m,K⟩=>
  AT (p f L i M x y v u _ N G m K) λd T ⟨z,n,o,P,k,e,q3⟩=>?_)) A
 subst e;cases P;refine Ij ?_;cases k with
 |false=>exact ite_ff #[.bl O',n,o,rfl,q3]
 |true=>exact ite_tt<|chain_last<|AT (w f T i n _ o q3) λY s4 ⟨z',H4,I4,r4,q4⟩=>j f s4 i H4 y z' u Y Q I4 m r4 q4
def Xu(K:Ao)(x:V)(H:Hp)(k:Bool):Prop:=
 match x with
 |.non=>k=O'
 |.bl b=>k=b
 |.int i=>k=(i != 0)
 |.str y=>y.length<=Ax/\k=((y.length:Int) != 0)
 |.ref p=>(∃a,BL K H p a/\k=!a.isEmpty)\/(∃a,B3 K H p a/\k=!a.isEmpty)
 |_=>False
theorem Xv{xs:U V}{a:U Aa}(r:An xs a):(!a.toArray.isEmpty)=!xs.isEmpty:=by
 cases r<;>simp
theorem MM:(Ax:Nat)<2^63:=by rw[Il];decide
theorem lB:lb X (λx H Q=>∃k,Xu X.K x H k/\Q k H):=by
 intro m s o H x v Q z d h;obtain⟨k,e,q⟩:=h;have u:=MM;cases x with
 |non=>
  cases d;have a:=e;subst a;exact truthy_none #[H,z,q]
 |bl b=>
  cases d;have a:=e;subst a;exact Ij #[H,z,q]
 |int i=>
  obtain⟨t,rfl⟩:=d;have a:=e;subst a;exact PySem.P.truthy_int #[H,z,q]
 |str y=>
  obtain⟨t,rfl⟩:=d;obtain⟨w,a⟩:y.length<=Ax/\k=((y.length:Int) != 0):=e;subst a;exact PySem.P.truthy_str (by lia) #[H,z.tok _,q]
 |ref p=>
  cases d;have a:=e;rcases a with⟨c,g,a⟩|⟨c,g,a⟩
  ·subst a;obtain⟨j,r,l,n⟩:=z.list g;have f:=r.length;exact wpAny_truthy_list l.isList (by erw[BV];lia) #[H,z.tok _,by rw[Xv r];exact q]
  ·subst a;obtain⟨j,r,l,n⟩:=z.tuple g;have f:=r.length;exact truthy_tuple l (by erw[BV];lia) #[H,z.tok _,by rw[Xv r];exact q]
 |_=>exact(show False from e).elim
theorem lC(d:PE X a ta)(e:∀b,isTrue a X.env b=(do let v <- b;standAt a.pos;Ee [v] (truthy v))):PT X a (λI H Q=>ta I H λx H'=>∃k,Xu X.K x H' k/\Q k H'):=by
 intro c s I H Q m h;exact isTrue_plain (AT (d c s I H _ m h) λv f ⟨x,g,i,j,l⟩=>lB c f I g x v Q i j l) (e _)
theorem Ff:Ca X (GZ .Add) (λx y H Q=>∃i j,x=.str i/\y=.str j/\i.length+j.length<=Ax/\Q (.str (i++j)) H):=by
 intro a s f H x y v u Q k b c h;obtain⟨i,j,rfl,rfl,d,q⟩:=h;obtain⟨t,rfl⟩:=b;obtain⟨e,rfl⟩:=c;exact add_str (λe g=>#[.str<|i++j,H,k.tok _,⟨_,rfl⟩,q]) d
theorem ER{x:V}{us:U Aa}(r:An [x] us):∃u,us=[u]/\RelV x u:=by
 cases r with
 |cons a b=>cases b;exact#[_,rfl,a]
theorem MN{x y:V}{us:U Aa}(r:An [x,y] us):∃u a,us=[u,a]/\RelV x u/\RelV y a:=by
 cases r with
 |cons b c=>
  cases c with
  |cons d e=>cases e;exact#[_,_,rfl,b,d]
theorem lD(c:X.calm=J'):ED X (.builtin "max") (λxs H Q=>∃i j,xs=[.int i,.int j]/\Q (.int (if j>i then j else i)) H):=by
 intro b s d H xs e Q n r h;obtain⟨i,j,rfl,q⟩:=h;obtain⟨u,f,rfl,⟨t,rfl⟩,⟨g,rfl⟩⟩:=MN r;refine max_two_ints (n.ok.hd c) λl m k=>#[_,H,n.kept k,?_,q];by_cases a:j>i
 ·rw[if_pos a,if_pos a];exact#[_,rfl]
 ·rw[if_neg a,if_neg a];exact#[_,rfl]
theorem lE(c:X.calm=J'):ED X (.builtin "min") (λxs H Q=>∃i j,xs=[.int i,.int j]/\Q (.int (if j<i then j else i)) H):=by
 intro b s d H xs e Q n r h;obtain⟨i,j,rfl,q⟩:=h;obtain⟨u,f,rfl,⟨t,rfl⟩,⟨g,rfl⟩⟩:=MN r;refine min_two_ints (n.ok.hd c) λl m k=>#[_,H,n.kept k,?_,q];by_cases a:j<i
 ·rw[if_pos a,if_pos a];exact#[_,rfl]
 ·rw[if_neg a,if_neg a];exact#[_,rfl]
theorem lF:ED X (.type "int") (λxs H Q=>(∃i,xs=[.int i]/\Q (.int i) H)\/∃k,xs=[.bl k]/\Q (.int (if k then 1 else 0)) H):=by
 intro a s c H xs d Q e r h;rcases h with⟨i,rfl,q⟩|⟨k,rfl,q⟩
 ·obtain⟨u,rfl,t,rfl⟩:=ER r;exact call_int_int #[.int i,H,e,#[_,rfl],q]
 ·obtain⟨u,rfl,b⟩:=ER r;cases b;exact call_int_bool #[.int<|if k then 1 else 0,H,e.tok _,⟨_,rfl⟩,q]
def Xw(K:Ao)(x:V)(H:Hp)(n:Nat):Prop:=
 match x with
 |.str y=>y.length<=Ax/\n=y.length
 |.ref p=>(∃a,BL K H p a/\n=a.length)\/∃a,B3 K H p a/\n=a.length
 |_=>False
theorem Xx:ED X (.builtin "len") (λxs H Q=>∃x n,xs=[x]/\Xw X.K x H n/\Q (.int n) H):=by
 intro i s l H xs m Q w r h;obtain⟨x,n,rfl,e,q⟩:=h;obtain⟨u,rfl,j⟩:=ER r;have o:=Il;cases x with
 |str y=>
  obtain⟨t,rfl⟩:=j;obtain⟨v,b⟩:y.length<=Ax/\n=y.length:=e;subst b;exact len_str (by lia) #[.int _,H,w.tok _,#[_,rfl],q]
 |ref p=>
  cases j;have b:=e;rcases b with⟨xs,c,b⟩|⟨xs,c,b⟩
  ·subst b;obtain⟨d,f,g,k⟩:=w.list c;have a:=f.length;exact Calls.call_len_list g.isList (by erw[BV];lia) #[.int xs.length,H,w.tok _,#[_,by erw[BV];rw[a]],q]
  ·subst b;obtain⟨d,f,g,k⟩:=w.tuple c;have a:=f.length;exact len_tuple g (by erw[BV];lia) #[.int xs.length,H,w.tok _,#[_,by erw[BV];rw[a]],q]
 |_=>exact(show False from e).elim
end
structure Fg(h:Ak)(x dx C:Ac)(mA:Bx):Prop where
 obj:h.get? x=Z (Kl C dx)
 ns:h.Ns1 dx mA
 ne:dx≠x
set_option tactic.hygienic true in
theorem lG{h:Ak}{c:Ac}{d:Bx}(n:h.Ns1 c d):∃f,h.get? c=Z f/\∀name,PySem.W.lookIn name f=Z (d name):=by
 obtain⟨o,g,p,i,hd,j,_,k⟩:=n;refine#[o,i,λname=>?_];have e:=k name;unfold nsFind findBy at e;rw[<- Array.find?_toList]at e;unfold PySem.W.lookIn;rw[hd];dsimp only;split
 ·rename_i y q;rw[q]at e;exact congrArg Z e
 ·rename_i q;rw[q]at e;have a:g.toList.any (·.refKey)=O':=by
   rw[List.any_eq_false];intro y l;obtain⟨z,t,b⟩:=j y<|Array.mem_toList_iff.mp l;simp[DictEntry.refKey,b]
  have m:¬ g.toList.any (·.refKey)=J':=by rw[a];exact MA
  rw[if_neg m];exact congrArg Z e
theorem Fg.look{h:Ak}{x b:Ac}{c:Bx}(f:Fg h x b C c):∃a,PySem.W.InstAt h x (Kl C b) C (Z a)/\∀name,PySem.W.lookIn name a=Z (c name):=let⟨a,d,e⟩:=lG f.ns
 #[a,#[f.obj,rfl,rfl,d],e]
section
variable{prog:AM}{w:Ai}{A:Ag}{s:Ab}{K:Ao}{x dx f:Ac}{mA:Bx}{name:Ae}{v:Aa}
theorem lH{a:Bool}{Q:AL}(X:K.In s.heap)(k:Fg s.heap x dx C mA)(c:PySem.W.plainGet K C name=J')(d:PySem.W.hasDictIn K C=J') (e:Jn K (.ref C) name=Z J) (f:mA name=Z v) (b:PySem.W.handedIn v=J') (h:Q v {s with toks:=s.toks+1}):
  wpAny (Af prog w) A (getAttr (.ref x) name a) Q E s:=by
 obtain⟨i,j,g⟩:=k.look
 exact PySem.W.get_value X j (PySem.W.plainGet_of c).1 (PySem.W.findObj_own d e rfl (by rw[g,f])) b h
theorem lI{Q:Aa×U Aa->Ab->Prop}(X:K.In s.heap)(j:Fg s.heap x dx C mA)(a:PySem.W.plainGet K C name=J') (b:Jn K (.ref C) name=Z (Z (.ref f))) (c:PySem.W.isFn K (.ref f)=J') (d:mA name=J) (h:Q (.ref f,[.ref x]) s):
  wpAny (Af prog w) A (getMethod (.ref x) name pl) Q E s:=by
 obtain⟨e,i,g⟩:=j.look
 exact PySem.W.method_fn X i (PySem.W.plainGet_of a).1 (PySem.W.plainGet_of a).2 b (beq_iff_eq.mp c) (by show(PySem.W.lookIn name e).map (·.isSome)=Z O';rw[g,d];rfl) h
theorem lJ{ns:U Ae}(X:K.In s.heap)(r:Fg s.heap x dx C mA)
  (j:Jn K (.ref C) "__setattr__"=Z (Z (.builtin "object.__setattr__"))) (k:PySem.W.plainOver K C=J') (l:PySem.W.takerIn K C name=Z J) (m:PySem.W.hasDictIn K C=J')
  (n:PySem.Within mA ns) (hsz:ns.length<=Ax)
  (h:∀h',Fg h' x dx C (λy=>if y=name then Z v else mA y)->DP dx s.heap h'->Q () {s with heap:=h',toks:=s.toks+2}):
  wpAny (Af prog w) A (setAttr (.ref x) name v) Q E s:=by
 obtain⟨u,a,z⟩:=r.look
 refine PySem.W.set_plain X a j (PySem.W.osa_open X a k l λb=>?_)
 obtain⟨B,o,e⟩:=PySem.W.any_some m
 have p:=r.obj
 refine Al (AN (Al (Al (wpAny_loadPart p (Al (PySem.W.Looks.here (PySem.W.looks_clsIn X o) ?_))))))
 rw[e]
 refine AN (Al (AN (Al ?_)))
 refine wpAny_nsSet1 r.ns λh' c d=>?_
 obtain⟨G,q,t,f,g,i⟩:=c.count (PySem.Within.cons name v n)
 refine Al (wpAny_lookBehind f (by rw[g];exact pastItsLine_dict (BZ i (by rw[Cg];exact Nat.add_le_add_right hsz 1))) ?_)
 exact AN (h _ #[(d.2 _ (B2 r.ne)).trans r.obj,c,r.ne] d)
theorem lK{vs:U Aa}{a:U (Ae×Aa)}(X:K.In s.heap)(b:PySem.W.makesIn K C=J') (c:Jn K (.ref C) "__init__"=Z (Z (.ref f))) (e:PySem.W.typeIn K (.ref f)=Z (.type "function")) (h:codeAny (Af prog w) (A.under (.builtin "type.__call__" #[.ref C::vs,a])) (.call (.ref f) #[.ref (s.heap.objs.size+1)::vs,a]) (PySem.W.InitBack (s.heap.objs.size+1) R) {s with heap:=(s.heap.push Jo).push (Kl C s.heap.objs.size)}):codeAny (Af prog w) A (.call (.ref C) #[vs,a]) R s:=by
 obtain⟨i,g,d,t,os⟩:=s;exact PySem.W.make_core (PySem.W.makes_of X b) (PySem.W.looks_findIn X c) (λself=>PySem.W.bind_fn X self e) (.inl rfl) h
end
noncomputable def E4(f:Ae)(v:V):U (Ae×V)->U (Ae×V)
 |[]=>[(f,v)]
 |(g,x)::r=>if g=f then(g,v)::r else(g,x)::E4 f v r
theorem Xy(f g:Ae)(v:V):∀fs:U (Ae×V),(E4 f v fs).lookup g=if g=f then Z v else fs.lookup g
 |[]=>by
  show List.lookup g [(f,v)]=_
  grind
 |(k,x)::r=>by
  have a:=Xy f g v r;grind [E4]
theorem RP(f:Ae)(v:V):∀fs:U (Ae×V),f∈(E4 f v fs).map (·.1)/\∀g,g∈fs.map (·.1)->g∈(E4 f v fs).map (·.1)
 |[]=>#[by simp[E4],λg h=>by simp at h]
 |(k,x)::r=>by
  obtain⟨a,i2⟩:=RP f v r;grind [E4]
theorem Xz(f:Ae)(v:V):∀fs:U (Ae×V),(E4 f v fs).length<=fs.length+1
 |[]=>by simp[E4]
 |(k,x)::r=>by
  have a:=Xz f v r;grind [E4]
theorem Cy.some_of{v:V}{o:O Aa}(r:Cy (Z v) o):∃u,o=Z u/\RelV v u:=by
 cases o with
 |none=>exact(show False from r).elim
 |some u=>exact#[u,rfl,r]
theorem Cy.none_of{o:O Aa}(r:Cy J o):o=J:=by
 cases o with
 |none=>rfl
 |some u=>exact(show False from r).elim
theorem lL{v:V}(r:RelV v u):PySem.W.handedIn u=J':=by
 cases v with
 |non=>cases(show u=GP from r);rfl
 |bl b=>cases(show u=Value.bool b from r);rfl
 |int i=>obtain⟨t,e⟩:=(show ∃t,u=Value.int i t from r);cases e;rfl
 |str x=>obtain⟨t,e⟩:=(show ∃t,u=Value.str x t from r);cases e;rfl
 |ref a=>cases(show u=Cj a from r);rfl
 |ty n=>cases(show u=Value.type n from r);rfl
section
variable{P:AM}{w:Ai}{h:Ak}{dx:Ac}{fs:U (Ae×V)}
theorem RQ(hok:Cb P w H h)(e:Rd H a (.ins C dx fs)):∃b,Fg h a dx C b/\(∀f,Cy (fs.lookup f) (b f))/\PySem.Within b (fs.map (·.1))/\fs.length<=1000/\H dx=Z (.own a):=by
 obtain⟨d,z,ne,ob,b,n,r,q⟩:=(show AY P w H h a (.ins C dx fs)from e.ok hok);exact#[b,#[ob,n,ne],r,q,z,d]
end
structure ES(K:Ao)(C:Ac):Prop where
 pg:PySem.W.plainGet K C Str.empty=J'
 hd:PySem.W.hasDictIn K C=J'
 po:PySem.W.plainOver K C=J'
 sa:Jn K (.ref C) "__setattr__"=Z (Z (.builtin "object.__setattr__"))
theorem ES.get{K:Ao}(c:ES K C)(f:Ae):PySem.W.plainGet K C f=J':=c.pg
def BF(K:Ao)(C:Ac)(f:Ae):Prop:=Jn K (.ref C) f=Z J
theorem BF.taker{K:Ao}{f:Ae}(n:BF K C f):PySem.W.takerIn K C f=Z J:=by
 unfold PySem.W.takerIn;rw[show Jn K (.ref C) f=Z J from n];rfl
structure Jp(K:Ao)(C:Ac)(m:Ae)(f:Ac):Prop where
 at_:Jn K (.ref C) m=Z (Z (.ref f))
 fn:PySem.W.isFn K (.ref f)=J'
 kp:Im K (.ref f)=J'
section
variable{s:Ab}{dx:Ac}{fs:U (Ae×V)}{f:Ae}{v:V}{A:Ag}
theorem lM{b:Bool}{Q:AL}(k:Inv X pins I H s)(e:Rd H a (.ins C dx fs))(c:ES X.K C)(n:BF X.K C f)(l:fs.lookup f=Z v) (h:∀u s',Inv X pins I H s'->RelV v u->Q u s'):wpAny (Af X.prog X.w) A (getAttr (.ref a) f b) Q E s:=by
 obtain⟨g,j,r,_,_,_⟩:=RQ k.hok e;obtain⟨u,i,d⟩:=Cy.some_of (by rw[<- l];exact r f);exact lH k.kIn j (c.get f) c.hd n i (lL d)<|h u _ (k.tok _) d
theorem RS{m:Ae}{g:Ac}{Q:Aa×U Aa->Ab->Prop}(i:Inv X pins I H s)(e:Rd H a (.ins C dx fs))(c:ES X.K C)(k:Jp X.K C m g)(l:fs.lookup m=J) (h:Q (.ref g,[.ref a]) s):wpAny (Af X.prog X.w) A (getMethod (.ref a) m pl) Q E s:=by
 obtain⟨b,f,r,_,_,_⟩:=RQ i.hok e;have d:b m=J:=by grind [Cy.none_of]
 exact lI i.kIn f (c.get m) k.at_ k.fn d h
theorem lN{y:V}(M:Inv X pins I H s)(e:H a=Z (.ins C dx fs))(c:ES X.K C)(n:BF X.K C f)(F:fs.length<1000)(l:RelV y u) (h:∀s',Inv X pins I (AG H a (.ins C dx (E4 f y fs))) s'->Q () s'):wpAny (Af X.prog X.w) A (setAttr (.ref a) f u) Q E s:=by
 obtain⟨i,L,r,j,_,k⟩:=RQ M.hok<|.inl e;have m:(fs.map (·.1)).length<=Ax:=by rw[Bi,Il];lia
 refine lJ M.kIn L c.sa c.po n.taker c.hd j m λp d t=>h _ ?_;have hd:∃o,p.get? dx=Z o:=let⟨o,_,_,v,_⟩:=d.ns;#[o,v];refine M.write (x:=a) (e:=dx) (by rw[e];exact G3) (.inr k) (λb q B z=>(t.2 b B).trans z) hd ?_;refine#[by rw[Zm L.ne];exact k,?_,L.ne,d.obj,_,d.ns,λg=>?_,λg G=>?_]
 ·have:=Xz f y fs;lia
 ·show Cy ((E4 f y fs).lookup g)<|if g=f then Z u else i g
  rw[Xy];by_cases q:g=f
  ·rw[if_pos q,if_pos q];exact l
  ·rw[if_neg q,if_neg q];exact r g
 ·by_cases q:g=f
  ·rw[q];exact(RP f y fs).1
  ·refine(RP f y fs).2 g<|j g λz=>G ?_;show(if g=f then Z u else i g)=J
   rw[if_neg q];exact z
theorem Inv.made(i:Inv X pins I H s):Inv X pins I (AG (AG H s.heap.objs.size (.own (s.heap.objs.size+1))) (s.heap.objs.size+1) (.ins C s.heap.objs.size [])) {s with heap:=(s.heap.push Jo).push (Kl C s.heap.objs.size)}:=by
 have c:(s.heap.push Jo).get? s.heap.objs.size=Z Jo:=Cc s.heap rfl;have d:((s.heap.push Jo).push<|Kl C s.heap.objs.size).get? (s.heap.objs.size+1)=Z (Kl C s.heap.objs.size):=by
  have:=Cc (s.heap.push Jo) (o:=Kl C s.heap.objs.size) rfl;simp_all
 have f:(s.heap.push Jo).Ns s.heap.objs.size (λ_=>J):=#[Jo,(T' []),_,c,rfl,(λe g=>absurd g (by simp)),λ_=>rfl];have h:=i.laid (a:=s.heap.objs.size) (o:=.own<|s.heap.objs.size+1) (h':=s.heap.push Jo) (t':=s.toks) (λb u q=>Br _ q) (Bf _) #[_,c];refine h.laid (a:=s.heap.objs.size+1) (o:=.ins C s.heap.objs.size []) (t':=s.toks) (λb u q=>Br _ q) (Nat.le_of_eq<|LA _ _) ?_;have ne:s.heap.objs.size≠s.heap.objs.size+1:=Nat.ne_add_one s.heap.objs.size;refine#[by rw[Zm ne,ZH],FD _,ne,d,λ_=>J,(Heap.Ns1.of_empty f).at λo q=>Br _ q,λ_=>G3,λy j=>absurd rfl j]
theorem lO{prog:AM}{w:Ai}{env:Env}{e:Expr}{f:Ae}{s:Ab}{Q:AL}(b:F6 e f env (Ap e env)=Ap e env) (h:wpAny (Af prog w) A (Ap e env) (λo a=>wpAny (Af prog w) A (getAttr o f J') Q E a) E s):wpAny (Af prog w) A (Ap (.Attribute e f pos) env) Q E s:=Attribute_any_ h (by rw[arm_eval_Attribute,b])
end
def lP(K:Ao)(d:TE)(f:Ae):TE:=λe H Q=>d e H λx b=>∃a C g c v,x=.ref a/\Rd b a (.ins C g c)/\ES K C/\BF K C f/\c.lookup f=Z v/\Q v b
def lQ(K:Ao)(g h:TE)(f:Ae):TS:=λD b H=>h b H λy i=>g b i λx d=>∃a C e c,x=.ref a/\d a=Z (.ins C e c)/\ES K C/\BF K C f/\c.length<1000 /\
 D.nx b (AG d a (.ins C e (E4 f y c)))
section
variable{o e value:Expr}{f:Ae}{pos':AD}{tv:TE}
theorem XA(d:PE X e ta)(g:F6 e f X.env (Ap e X.env)=Ap e X.env):PE X (.Attribute e f pos) (lP X.K ta f):=by
 intro b s i H Q E h;refine lO g<|AT (d b s i H _ E h) λu w j=>?_;obtain⟨x,k,m,o,a,C,y,z,v,rfl,p,c,n,l,q⟩:=j;obtain rfl:u=Cj a:=o;exact lM m p c n l λA B r t=>#[v,k,r,t,q]
theorem lR(e:PE X o ta)(g:PE X value tv)(i:Ef value (Z (.Attribute o f pos')) pos.line X.env=AA O'):PS X (.Assign [.Attribute o f pos'] value pos) (lQ X.K ta tv f):=by
 intro b s d H D N h;refine plainObj_wpAny_Assign_Attribute (AT (g b s d H _ N h) λu j ⟨y,k,m,p,q⟩=>AT (e b j d k _ m q) λr E t=>?_) i;obtain⟨x,G,v,w,a,C,F,L,rfl,z,c,n,l,A⟩:=t;obtain rfl:r=Cj a:=w;exact lN v z c n l p λM B=>#[d,_,B,A]
end
structure AI(k:Nat)(A:Ag):Prop where
 hd:A.handled=J
 dp:A.depth+3*k+5<recursionLimit
 un:A.units+16*k+200<Aq
theorem AI.mono{k:Nat}{A:Ag}(r:AI k A)(h:j<=k):AI j A:=#[r.hd,by have:=r.dp;lia,by have:=r.un;lia]
theorem AI.deeper{k:Nat}{A:Ag}(r:AI (k+1) A)(env:Env):AI k (A.deeper env):=#[r.hd,by have:=r.dp;show A.depth+1+3*k+5<_;lia,by have:=r.un;show A.units+3+16*k+200<_;lia]
theorem AI.in1{k:Nat}{A:Ag}(r:AI (k+1) A):AI k A.in1:=#[r.hd,by have:=r.dp;show A.depth+3*k+5<_;lia,by have:=r.un;show A.units+1+16*k+200<_;lia]
theorem lT{A:Ag}{us:U Aa}{a:U (Ae×Aa)}:(A.under (.builtin "type.__call__" #[.ref C::us,a])).depth=A.depth+1:=by
 rfl
theorem lU{A:Ag}{us:U Aa}{a:U (Ae×Aa)}:(A.under (.builtin "type.__call__" #[.ref C::us,a])).units=A.units+1:=by
 rfl
theorem AI.make{k:Nat}{A:Ag}(r:AI (k+1) A)(C:Ac)(us:U Aa)(a:U (Ae×Aa)):AI k (A.under (.builtin "type.__call__" #[.ref C::us,a])):=#[r.hd,by have:=r.dp;rw[lT];lia,by have:=r.un;rw[lU];lia]
theorem AI.depth{k:Nat}{A:Ag}(r:AI k A):A.depth<recursionLimit:=by have:=r.dp;lia
theorem AI.units{k:Nat}{A:Ag}(r:AI k A):A.units+64<Aq:=by have:=r.un;lia
def MO:TA:=λ_ H Q=>Q [] H
def XB(b:TE)(tr:TA):TA:=λa H Q=>b a H λx c=>tr a c λd e=>Q (x::d) e
section
variable{e:Expr}{t:TA}
theorem A8:PA X [] MO:=λ_ _ _ _ H Q a h=>Calls.spliced_nil #[[],H,a,.nil,h]
theorem Z3(c:PE X e te)(d:PA X es t)(f:AC (e::es) X.env=(O',Ap e X.env)::AC es X.env:=by rfl):PA X (e::es) (XB te t):=by
 intro pos a s b H Q w h;rw[f];exact Calls.spliced_cons<|AT (c a s b H _ w h) λu g ⟨x,i,j,k,l⟩=>AT (d pos a g b i _ j l) λr v ⟨m,n,o,p,q⟩=>#[x::m,n,o,.cons k p,q]
def lV(t:TA):TE:=λc H Q=>t c H λa b=>a.length<=Ax/\∀p,b p=J->Q (.ref p) (AG b p (.tup a))
def lW(t:TA):TE:=λc H Q=>t c H λa b=>a.length<=Ax/\∀p,b p=J->Q (.ref p) (AG b p (.lst a))
theorem lX {g} (h:PA X es t):PE X (.Tuple es g pos) (lV t):=by
 intro a s i H Q n j;refine wpAny_Tuple_spliced<|AT (h pos a s i H _ n j) λk c ⟨l,d,f,r,z,q⟩=>#[by rw[<- r.length];exact z,?_];have m:=f.hok.fresh<|Bf _;exact⟨.ref c.heap.objs.size,AG d c.heap.objs.size<|.tup l,f.laid (t':=c.toks) (λb u e=>Br _ e) (Bf _) (⟨z,k,r,⟨_,Cc _ rfl,rfl,_,rfl⟩⟩),rfl,q _ m⟩
theorem XC(h:PA X es t):PE X (.List es pos) (lW t):=by
 intro a s g H Q m i;refine wpAny_List_spliced<|AT (h pos a s g H _ m i) λj c ⟨k,d,f,r,z,q⟩=>#[by rw[<- r.length];exact z,?_];have l:=f.hok.fresh<|Bf _;exact⟨.ref c.heap.objs.size,AG d c.heap.objs.size<|.lst k,f.laid (t':=c.toks) (λb u e=>Br _ e) (Bf _) (⟨z,j,0,r,Cc _ rfl⟩),rfl,q _ l⟩
end
abbrev Sp:=U V->Hp->VK->XK->Prop
variable{sp:Sp}
abbrev DZ:=U Env->Hp->Ab->XK->AL
variable{CX:DZ}
structure CJ(P:AM)(w:Ai)(K:Ao)(mg:Bx)(base:Ak)(A:Ag)(outer:List Env)(s:Ab)(H:Hp):Prop where
 frames:A.frames=Z outer
 mod:Mod K mg base
 bs:∀b o,base.get? b=Z o->s.heap.get? b=Z o/\H b=J
 bsz:base.objs.size<=s.heap.objs.size
 funs:s.heap.FunFrames base outer
 frf:∀b∈Ck outer,H b=J
 hok:Cb P w H s.heap
 bare:AllBare s.gens
def CE(outer:U Env)(P:AM)(w:Ai)(H:Hp)(s:Ab)(Q:VK)(u:Aa)(s':Ab):Prop:=
 ∃v a,s'.os=s.os/\AllBare s'.gens/\Un (Ck outer) [] H a s.heap s'.heap/\Cb P w a s'.heap/\RelV v u/\Q v a
def CR(CX:DZ)(outer:U Env)(P:AM)(w:Ai)(H:Hp)(s:Ab)(Q:VK)(E:XK)(r:Result)(s':Ab):Prop:=
 match r with
 |.ok (.ret u)=>CE outer P w H s Q u s'
 |.ok _=>False
 |.error e=>CX outer H s E e s'
structure AR(P:AM)(w:Ai)(K:Ao)(mg:Bx)(base:Ak)(CX:DZ)(k:Nat)(f:Ac)(fd:Cd)(ps:List Ae)(sp:Sp):Prop where
 len:∀vs H Q E,sp vs H Q E->vs.length=ps.length
 run:∀(A:Ag) (outer:List Env) (s:Ab) (H:Hp) (args:Args) (us:List Aa) (vs:List V) (Q:VK) (E:XK),AI k A->CJ P w K mg base A outer s H->BindsTo s fd args (ps.zip us)->An vs us->sp vs H Q E ->
  codeAny (Af P w) A (.call (.ref f) args) (CR CX outer P w H s Q E) s
theorem AR.imp{P:AM}{w:Ai}{K:Ao}{mg:Bx}{base:Ak}{k:Nat}{f:Ac}{fd:Cd}{b:U Ae}{a:Sp}(F:AR P w K mg base CX k f fd b sp) (h:∀vs H Q E,a vs H Q E->sp vs H Q E):AR P w K mg base CX k f fd b a:=#[λvs H Q E q=>F.len vs H Q E<|h _ _ _ _ q,λA outer s H args c vs Q E d e g i j=>F.run A outer s H args c vs Q E d e g i<|h _ _ _ _ j]
theorem CJ.make{P:AM}{w:Ai}{K:Ao}{mg:Bx}{base:Ak}{A:Ag}{outer:U Env}{s:Ab}(e:CJ P w K mg base A outer s H)(C:Ac)(us:U Aa)(a:U (Ae×Aa)):CJ P w K mg base (A.under (.builtin "type.__call__" #[.ref C::us,a])) outer s H:=#[by(simpa[Around.under,Code.envs,Code.isFrame,pushEnvs]using e.frames),e.mod,e.bs,e.bsz,e.funs,e.frf,e.hok,e.bare]
theorem CJ.in1{P:AM}{w:Ai}{K:Ao}{mg:Bx}{base:Ak}{A:Ag}{outer:U Env}{s:Ab}(e:CJ P w K mg base A outer s H):CJ P w K mg base A.in1 outer s H:=#[e.frames,e.mod,e.bs,e.bsz,e.funs,e.frf,e.hok,e.bare]
section
variable{s:Ab}
theorem Inv.env0(a:Inv X pins I H s):CJ X.prog X.w X.K X.mg X.base X.A X.stack s H:=#[a.ok.frames,a.ok.mod,a.bs,BZ a.ok.bsz a.sz,a.stack,a.stkFree,a.hok,a.bare]
theorem Inv.after{Q:VK}(f:Inv X pins I H s)(h:CE X.stack X.prog X.w H s Q u s'):EP X pins I Q u s':=by
 obtain⟨v,c,os,bare,un,hok,r,q⟩:=h;obtain⟨e,g,d,t,a⟩:=s';obtain rfl:a=s.os:=os;exact#[v,c,f.call (h':=e) (g':=g) (d':=d) (t':=t) un hok bare (λb z=>absurd z (by simp)),r,q]
end
def OQ(sp:Sp)(a:U V)(E:XK)(t:TA):TE:=λb H Q=>t b H λc d=>sp (c++a) d Q E
def Kp(C:Ac)(m:Ae)(sp:Sp)(b:U V)(E:XK)(f:TE)(t:TA):TE:=λc H Q=>f c H λx d=>∃a g e,x=.ref a/\Rd d a (.ins C g e)/\e.lookup m=J /\
 t c d λh i=>sp (x::(h++b)) i Q E
def lY(C:Ac)(sp:Sp)(b:U V)(E:XK)(t:TA):TE:=λd H Q=>t d H λe c=>∀x a,c x=J->c a=J->x=a+1 ->
 sp (.ref x::(e++b)) (AG (AG c a (.own x)) x (.ins C a [])) (λv f=>v=.non/\Q (.ref x) f) E
def Binds(K:Ao)(fd:Cd)(b:U Ae)(c:U Aa):Prop:=
 ∀(s:Ab) (a:U Aa),K.In s.heap->(a++c).length=b.length->BindsTo s fd #[a,[]] (b.zip (a++c))
theorem Binds.all{K:Ao}{fd:Cd}{a:U Ae}(h:∀us:U Aa,us.length=a.length->bindArgs fd #[us,[]]=AA (a.zip us)):Binds K fd a []:=λs us _ b=>by
 rw[D0]at b ⊢;exact .of_eq<|h us b
def Fh(CX:DZ)(X:Cx)(E:XK):Prop:=∀(a:AQ)(c:St)(H:Hp)(s:Ab)(e:Aa)(b:Ab),Inv X a c H s->CX X.stack H s E e b->X.xe e b
section
variable{k:Nat}{f:Ac}{fd:Cd}{dvs:U V}{ds:U Aa}{E:XK}{x m:Ae}{p:AD}{e o:Expr}{t:TA}
theorem RU{a:AQ}{s:Ab}{Q:VK}{us:U Aa}(F:AR X.prog X.w X.K X.mg X.base CX k f fd ps sp)(d:AI k X.A)(g:Binds X.K fd ps ds)(hd:An dvs ds)(i:Fh CX X E) (n:Inv X a I H s) (r:An vs us) (h:sp (vs++dvs) H Q E):wpAny (Af X.prog X.w) X.A (call (.ref f) us) (EP X a I Q) X.xe s:=by
 have c:=r.append hd;have j:(us++ds).length=ps.length:=by rw[<- c.length];exact F.len _ _ _ _ h
 refine wpAny_call<|LB (F.run X.A X.stack s H ⟨us,[]⟩ (us++ds) (vs++dvs) Q E d n.env0 (g s us n.kIn j) c h) λr l b=>?_;cases r with|error e=>exact i a I H s e l n b|ok m=>
  cases m with
  |ret u=>exact n.after b
  |next=>exact BM b
  |brk=>exact BM b
  |cont=>exact BM b
theorem OR(F:AR X.prog X.w X.K X.mg X.base CX k f fd ps sp)(i:AI k X.A)(j:Gl X x)(l:X.mg x=Z (.ref f))(m:Im X.K (.ref f)=J')(n:Binds X.K fd ps ds)(hd:An dvs ds)(o:Fh CX X E) (u:PA X (e::es) t) (b:Cs x:=by ext) (v:AC (e::es) X.env=(O',Ap e X.env)::AC es X.env:=by rfl) (c:(Au pos (AC es X.env)).any (·.1)=O':=by rfl):PE X (.Call (.Name x p) (e::es) [] pos) (OQ sp dvs E t):=by
 intro a s y H Q d h;refine MP<|MD d j l ?_ b;exact RV (h₀:=X.base) d.ok.mod.kin m (AT (u pos a s y H _ d h) λz B ⟨C,G,g,r,q⟩=>#[g.kIn,RU F i n hd o g r q]) v c
theorem XD(y:PE X o ta)(c:ES X.K C)(j:Jp X.K C m f)(F:AR X.prog X.w X.K X.mg X.base CX k f fd ps sp)(L:AI k X.A)(M:Binds X.K fd ps ds)(hd:An dvs ds)(N:Fh CX X E)(P:PA X (e::es) t) (d:AC (e::es) X.env=(O',Ap e X.env)::AC es X.env:=by rfl) (g:(Au pos (AC es X.env)).any (·.1)=O':=by rfl) (T:Ap (.Call (.Attribute o m apos) (e::es) [] pos) X.env=(do
   let n <- Ap o X.env;standAt apos.atName;let(f,i) <- Ee [n] (getMethod n m pl);callWith pos f i (Au pos (AC (e::es) X.env)) (F7 pos (F8 [] X.env))):=by rfl):PE X (.Call (.Attribute o m apos) (e::es) [] pos) (Kp C m sp dvs E ta t):=by
 intro b s p H Q S h;refine PySem.W.methodCall_KW (AT (y b s p H _ S h) λu R Y=>?_) T;obtain⟨x,H1,v,rx,a,dx,fs,rfl,ea,l,q⟩:=Y;obtain rfl:u=Cj a:=rx;refine RS v ea c j l ?_;exact RV (first:=[.ref a]) (h₀:=X.base) S.ok.mod.kin j.kp (AT (P pos b R p H1 _ v q) λz s2 ⟨B,H2,G,r,q2⟩=>#[G.kIn,RU (us:=.ref a::z) (vs:=.ref a::B) F L M hd N G (.cons rfl r) q2]) d g
theorem XE(j:PE X o ta)(c:ES X.K C)(g:Jp X.K C m f)(F:AR X.prog X.w X.K X.mg X.base CX k f fd ps sp)(n:AI k X.A)(p:Binds X.K fd ps ds)(hd:An dvs ds)(r:Fh CX X E) (t:Ap (.Call (.Attribute o m apos) [] [] pos) X.env=(do
   let i <- Ap o X.env;standAt apos.atName;let(f,d) <- Ee [i] (getMethod i m pl);callWith pos f d (Au pos (AC [] X.env)) (F7 pos (F8 [] X.env))):=by rfl):PE X (.Call (.Attribute o m apos) [] [] pos) (Kp C m sp dvs E ta MO):=by
 intro b s v H Q P h;refine PySem.W.methodCall_KW (AT (j b s v H _ P h) λu G y=>?_) t;obtain⟨x,N,e,z,a,L,M,rfl,B,l,q⟩:=y;obtain rfl:u=Cj a:=z;exact RS e B c g l<|PySem.W.callWith_K0 (first:=[.ref a]) e.kIn g.kp (RU (us:=[.ref a]) (vs:=[.ref a]) F n p hd r e (.cons rfl .nil) q)
structure Mk(K:Ao)(C f:Ac):Prop where
 makes:PySem.W.makesIn K C=J'
 init:Jn K (.ref C) "__init__"=Z (Z (.ref f))
 fn:PySem.W.isFn K (.ref f)=J'
 kp:Im K (.ref C)=J'
theorem lZ{a:AQ}{s:Ab}{Q:VK}{us:U Aa}(M:Mk X.K C f)(F:AR X.prog X.w X.K X.mg X.base CX k f fd ps sp)(j:AI (k+1) X.A)(l:Binds X.K fd ps ds)(hd:An dvs ds)
  (m:Fh CX X E) (B:Inv X a I H s) (r:An vs us)
  (h:∀x c,H x=J->H c=J->x=c+1->sp (.ref x::(vs++dvs)) (AG (AG H c (.own x)) x (.ins C c [])) (λv n=>v=.non/\Q (.ref x) n) E):
  wpAny (Af X.prog X.w) X.A (call (.ref C) us) (EP X a I Q) X.xe s:=by
 have g:=h (s.heap.objs.size+1) s.heap.objs.size (B.hok.fresh (Nat.le_succ _)) (B.hok.fresh (Bf _)) rfl
 have d:=Inv.made (C:=C) B
 have i:An (V.ref (s.heap.objs.size+1)::(vs++dvs)) (Cj (s.heap.objs.size+1)::(us++ds)):=.cons rfl (r.append hd)
 have o:(Cj (s.heap.objs.size+1)::us++ds).length=ps.length:=by
  have e:=i.length
  rw[F.len _ _ _ _ g]at e
  exact e.symm
 refine wpAny_call (lK B.kIn M.makes M.init (beq_iff_eq.mp M.fn) (LB (F.run _ X.stack _ _ #[Cj (s.heap.objs.size+1)::us,[]] (Cj (s.heap.objs.size+1)::(us++ds)) _ _ E (j.make C us [])
  (d.env0.make C us []) (l _ (Cj (s.heap.objs.size+1)::us) d.kIn o) i g) λr p b=>?_))
 cases r with
 |error e=>exact m a I _ _ e p d b
 |ok q=>
  cases q with
  |ret u=>
   obtain⟨v,t,y,z,rfl,q3⟩:=d.after b
   exact#[z,#[V.ref (s.heap.objs.size+1),t,y,rfl,q3]]
  |next=>exact BM b
  |brk=>exact BM b
  |cont=>exact BM b
theorem l5(M:Mk X.K C f)(F:AR X.prog X.w X.K X.mg X.base CX k f fd ps sp)(i:AI (k+1) X.A)(j:Gl X x)(l:X.mg x=Z (.ref C))(m:Binds X.K fd ps ds)(hd:An dvs ds)(n:Fh CX X E) (o:PA X (e::es) t) (b:Cs x:=by ext) (u:AC (e::es) X.env=(O',Ap e X.env)::AC es X.env:=by rfl) (c:(Au pos (AC es X.env)).any (·.1)=O':=by rfl):PE X (.Call (.Name x p) (e::es) [] pos) (lY C sp dvs E t):=by
 intro a s v H Q d h;refine MP<|MD d j l ?_ b;exact RV (h₀:=X.base) d.ok.mod.kin M.kp (AT (o pos a s v H _ d h) λy z ⟨B,G,g,r,q⟩=>#[g.kIn,lZ M F i m hd n g r q]) u c
end
def PK(X:Cx)(b:U D1)(t:TA):Prop:=
 ∀(c:AD) (a:AQ) (s:Ab) (d:St) (H:Hp) (Q:U V->Hp->Prop),Inv X a d H s->t d H Q->wpAny (Af X.prog X.w) X.A (evalAll ((F7 c (F8 b X.env)).map (·.2))) (AP X a d Q) X.xe s
section
variable{k:Nat}{f:Ac}{x m:Ae}{p kpos:AD}{e o:Expr}{kws:U D1}{t:TA}{nm:O Ae}
theorem l6:PK X [] MO:=λ_ _ _ _ H Q a h=>wpAny_evalAll_nil #[[],H,a,.nil,h]
theorem l7(c:PE X e te)(d:PK X kws t):PK X (#[nm,e,kpos]::kws) (XB te t):=by
 intro pos a s b H Q v h;exact wpAny_evalAll_cons<|Al<|AT (c a s b H _ v h) λu f ⟨x,g,i,j,k⟩=>Al<|wpAny_standAt<|AN<|AT (d pos a f b g _ i k) λq r ⟨l,m,n,o,p⟩=>#[x::l,m,n,.cons j o,p]
end
structure EE(N P:List Ae)(sc:Scope):Prop where
 kind:sc.kind=.function
 co:sc.isCoroutine=O'
 gen:sc.isGenerator=O'
 nd:N.Nodup
 pre:N.take P.length=P
 par:∀x∈P,sc.names.lookup x=Z .local\/sc.names.lookup x=Z .cell
 nofree:∀y∈sc.names,y.2≠.free
theorem XF{kindOf:Ae->O G4}{x:Ae}:∀{a:U (Ae×Aa)}{m:Bx},(∀v,(x,v)∉a)->bindL kindOf a m x=m x
 |[],_,_=>rfl
 |(n,v)::r,m,h=>by
  unfold bindL;rw[XF λw b=>h w<|Be _ b];split
  ·grind [Ba]
  ·rfl
theorem XG{kindOf:Ae->O G4}{x:Ae}:∀{a:U (Ae×Aa)}{m:Bx},(∀v,(x,v)∉a)->bindC kindOf a m x=m x
 |[],_,_=>rfl
 |(n,v)::r,m,h=>by
  unfold bindC;rw[XG λw b=>h w<|Be _ b];split
  ·rfl
  ·grind [Ba]
theorem XH{kindOf:Ae->O G4}{x:Ae}{v:Aa}:∀{P:U Ae}{vs:U Aa}{i:Nat}{m:Bx},P.Nodup->P[i]?=Z x->vs[i]?=Z v->kindOf x=Z .local->bindL kindOf (P.zip vs) m x=Z v
 |[],_,_,_,_,h,_,_=>by simp at h
 |_::_,[],_,_,_,_,h,_=>by simp at h
 |p::P,w::vs,0,m,nd,a,b,c=>by
  simp at a b;subst a;subst b;show bindL kindOf ((p,w)::P.zip vs) m p=_
  unfold bindL;rw[XF λv d=>(E5.mp nd).1 (OS d).1,if_pos c];simp
 |p::P,w::vs,i+1,m,nd,a,b,c=>by
  unfold bindL;exact XH (E5.mp nd).2 (by simpa using a) (by simpa using b) c
theorem XJ{kindOf:Ae->O G4}{x:Ae}{v:Aa}:∀{P:U Ae}{vs:U Aa}{i:Nat}{m:Bx},P.Nodup->P[i]?=Z x->vs[i]?=Z v->kindOf x≠Z .local->bindC kindOf (P.zip vs) m x=Z v
 |[],_,_,_,_,h,_,_=>by simp at h
 |_::_,[],_,_,_,_,h,_=>by simp at h
 |p::P,w::vs,0,m,nd,a,b,c=>by
  simp at a b;subst a;subst b;show bindC kindOf ((p,w)::P.zip vs) m p=_
  unfold bindC;rw[XG λv d=>(E5.mp nd).1 (OS d).1,if_neg c];simp
 |p::P,w::vs,i+1,m,nd,a,b,c=>by
  unfold bindC;exact XJ (E5.mp nd).2 (by simpa using a) (by simpa using b) c
def FE(N:U Ae)(vs:U V):St:=vs.map Z++Dx (N.length-vs.length) J
noncomputable def Df(CX:DZ)(P:AM)(w:Ai)(K:Ao)(mg:Bx)(base:Ak)(N:U Ae)(a:Ae)(scope:Scope)(f:Ac)(c:Aa)(A:Ag)(outer:U Env)(s:Ab)(H:Hp)(E:XK):Cx where
 prog:=P
 w:=w
 K:=K
 mg:=mg
 base:=base
 A:=A.deeper (A3 a scope s.heap.objs.size f c)
 N:=N
 s₀:=s
 H₀:=H
 env:=A3 a scope s.heap.objs.size f c
 outer:=outer
 stack:=A3 a scope s.heap.objs.size f c::outer
 ex:=[]
 calm:=J'
 fn:=λ_=>J'
 pn:=[]
 xe:=λe d=>wpAny (Af P w) (A.deeper (A3 a scope s.heap.objs.size f c)) (leaving (A3 a scope s.heap.objs.size f c) e) (λ_ b=>CX outer H s E e b) (λg b=>CX outer H s E g b) d
theorem XM{a:Scope}{n:Nat}{x:Ae}(h:a.names.lookup x=Z .cell):∃c,(cellsFrom n a.names []).lookup x=Z c:=by
 have q:=PySem.W.cellsFrom_some a.names n []<|.inl h;grind [Option.isSome_iff_exists]
theorem l8{P:AM}{w:Ai}{K:Ao}{mg:Bx}{base:Ak}{N l:U Ae}{d:Ae}{f:Ac}{G:Aa}{A:Ag}{outer:U Env}{s F:Ab}{E:XK}{us:U Aa} (S:EE N l scope) (hd:A.handled=J) (j:CJ P w K mg base A outer s H) (R:vs.length=l.length) (r:An vs us) (x:InCallC s s.heap.objs.size (bindL (A3 d scope s.heap.objs.size f G).kindOf (l.zip us) λ_=>J) (cellsFrom (s.heap.objs.size+1) scope.names []) (bindC (A3 d scope s.heap.objs.size f G).kindOf (l.zip us) λ_=>J) F):Inv (Df CX P w K mg base N d scope f G A outer s H E) [] (FE N vs) H F:=by
 have Q:l.length<=N.length:=by have:=congrArg Kq S.pre;rw[List.length_take]at this;lia
 obtain⟨X,Y,rfl,L⟩:=x.done;have m:∀b:Ac,b∉(Df CX P w K mg base N d scope f G A outer s H E).ex:=λb z=>absurd (show b∈([]:U Ac)from z) (by simp);refine#[#[j.mod,S.kind,rfl,rfl,Bf _,λy z c X g=>?_,λy o=>?_,λy c _ h=>?_,λ_=>hd,Around.frames_deeper j.frames,.inr #[rfl,rfl],λb z=>absurd z<|m b,j.bs,j.bsz,λb _ _=>m b,λb z=>absurd z<|m b,j.funs,j.frf],
  rfl,j.bare,Un.kept L,#[_,x.toInCall.ns,λi y v X g h3=>?_],λy c h=>#[_,x.cell y c h],j.hok.fresh<|Bf _,λy c h=>?_,λp t=>absurd (show p∈([]:AQ)from t) (by simp),j.hok.kept L,?_]
 ·exact name_of_addr x.apart (LC X)<|LC g
 ·have o:=o;rcases o with o|o
  ·exact XM o
  ·exact absurd rfl<|S.nofree _<|LC o
 ·exact Lw<|x.above y c<|LC h
 ·have B:i<vs.length:=by
   unfold FE at g;by_cases B:i<vs.length
   ·exact B
   ·rw[RW (by simpa using B)]at g;rw[Jq]at g;split at g<;>cases g
  have T:vs[i]?=Z v:=by
   unfold FE at g;rw[MQ (by simpa using B),Dy]at g;cases e:vs[i]? with
   |none=>rw[e]at g;cases g
   |some a=>rw[e]at g;cases g;rfl
  obtain⟨u,M,W⟩:=r.get T;have t:l[i]?=Z y:=by
   rw[<- S.pre,List.getElem?_take_of_lt<|Jr B R];exact X
  have C:l.Nodup:=by rw[<- S.pre];exact S.nd.sublist<|List.take_sublist _ _
  refine#[u,W,?_];rcases S.par y (LF t)with k|k
  ·exact .inl #[k,XH C t M k]
  ·obtain⟨c,e⟩:=XM (n:=s.heap.objs.size+1) k;refine .inr #[.inl k,c,e,?_];have q:=x.cell y c e;rw[XJ C t M (by show scope.names.lookup y≠_;rw[k];decide)]at q;exact q
 ·exact j.hok.fresh<|Lw<|x.above y c<|LC h
 ·unfold FE;show _=N.length
  rw[FG,Bi,LH];lia
theorem XN{P:AM}{w:Ai}{K:Ao}{mg:Bx}{base:Ak}{k:Nat}{f:Ac}{name a:Ae}{d:Arguments}{g:U Az}{X Y m pm c ct oc:Aa}{an od:O Ac} {C:Array (O Aa)} {N B:U Ae} (lk:K.lookup f=Z #[oc,od,.func (Js name a d g scope X Y m pm an c ct),C]) (G:PySem.W.codeIn K c a=J') (S:EE N B scope) (len:∀vs H Q E,sp vs H Q E->vs.length=B.length) (i:∀(A:Ag) (outer:U Env) (s:Ab) (H:Hp) (vs:U V) (Q:VK) (E:XK),AI k (A.deeper (A3 a scope s.heap.objs.size f c))->sp vs H Q E->∃t,EC (Df CX P w K mg base N a scope f c A outer s H E) g t/\t {nx:=λ_ H'=>Q .non H',rt:=Q} (FE N vs) H):AR P w K mg base CX (k+1) f (Js name a d g scope X Y m pm an c ct) B sp:=by
 refine#[len,λA outer s H args us vs Q E L p hb r z=>?_];have hl:=len _ _ _ _ z;have KX:=p.mod.kin.keeps λb o e=>(p.bs b o e).1;have M:s.heap.NoLimit:=p.mod.nolimit.keeps λb o e=>(p.bs b o e).1;have j:∀y∈B.zip us,scope.names.lookup y.1=Z .local\/(scope.names.lookup y.1=Z .cell/\((cellsFrom (s.heap.objs.size+1) scope.names []).lookup y.1).isSome=J'):=λ⟨n,v⟩ hy=>by
  rcases S.par n (OS hy).1 with q|q
  ·exact .inl q
  ·exact .inr #[q,PySem.W.cellsFrom_some _ _ _<|.inl q]
 refine codeAny_call_function L.depth (KX _ _ lk) rfl S.co S.gen rfl (PySem.W.codeRec_of KX G)<|hb _ _ _ _ ?_;refine wpAny_newFunctionEnv_cells S.kind j λenv he s1 x=>?_;subst he;refine#[M.keeps x.toInCall.keep,codeAny_func ?_];obtain⟨t,ht,hq⟩:=i A outer s H vs Q E (L.deeper _) z;have zA:Inv (Df CX P w K mg base N a scope f c A outer s H E) [] (FE N vs) H s1:=l8 S L.hd p hl r x;refine EN (ht [] s1 (FE N vs) H _ zA hq) (λfl R l=>?_) λe R l=>l;have fin:∀{h:St} {H':Hp} {v:V} {u:Aa},Inv (Df CX P w K mg base N a scope f c A outer s H E) [] h H' R->RelV v u->Q v H'->CE outer P w H s Q u R:=
  λ{h H' v u} F T q=>#[v,H',F.os,F.bare,F.base,F.hok,T,q]
 cases fl with
 |ret u=>
  obtain⟨v,h,H',F,T,q⟩:=l;exact fin F T q
 |next=>
  obtain⟨h,H',F,q⟩:=l;exact fin (v:=V.non) (u:=GP) F rfl q
 |brk=>
  obtain⟨_,_,_,q⟩:=l;exact BM q
 |cont=>
  obtain⟨_,_,_,q⟩:=l;exact BM q
section
variable{x:Ae}{p:AD}{e:Expr}{t:TA}{id T:String}{r:U V->Hp->VK->Prop}
def OT(r:U V->Hp->VK->Prop)(t:TA):TE:=λa H Q=>t a H λb c=>r b c Q
theorem XO(f:ED X (.builtin id) r)(g:Gl X x)(i:X.mg x=J)(j:Ec x=Z (.builtin id))(k:PA X (e::es) t)(l:x≠"__name__":=by ext)(b:Cs x:=by ext) (m:AC (e::es) X.env=(O',Ap e X.env)::AC es X.env:=by rfl) (c:(Au pos (AC es X.env)).any (·.1)=O':=by rfl):PE X (.Call (.Name x p) (e::es) [] pos) (OT r t):=by
 intro a s d H Q z h;exact MP<|Hr z g i j (PyProof.Rows.callWith_builtin1 (AT (k pos a s d H _ z h) λn o ⟨q,u,v,w,y⟩=>f a o d u q n Q v w y) m c) l b
theorem XP(f:ED X (.type T) r)(g:Gl X x)(i:X.mg x=J)(j:Ec x=Z (.type T))(k:PA X (e::es) t)(l:x≠"__name__":=by ext)(b:Cs x:=by ext) (m:AC (e::es) X.env=(O',Ap e X.env)::AC es X.env:=by rfl) (c:(Au pos (AC es X.env)).any (·.1)=O':=by rfl):PE X (.Call (.Name x p) (e::es) [] pos) (OT r t):=by
 intro a s d H Q z h;exact MP<|Hr z g i j (MJ (AT (k pos a s d H _ z h) λn o ⟨q,u,v,w,y⟩=>f a o d u q n Q v w y) m c) l b
end
end L2
variable{H H' H0:L2.Hp}{X Y:L2.Cx}{I:L2.St}{vs ys:U L2.V}{us:U (U L2.At×Ac×Aa)}{CX:L2.DZ}{ta te:L2.TE}{sp:L2.Sp}{D':L2.Ends}{wi:L2.TI}
namespace HT
open PySem PyProof.Rows
theorem rcLt_int(A:Ag)(s:Ab)(a:Int)(t:Tok)(c:Int)(u:Tok)(prog:AM)(w:Ai)(E:AL)(Q:AL)(h:Q (.bool (decide (a<c))) s):wpAny (Af prog w) A (richCompare .Lt (.int a t) (.int c u)) Q E s:=(PyProof.Rows.lt_int h:wpAny (Af prog w) A (DC .Lt (.int a t)<|.int c u) Q E s)
section
variable{prog:AM}{w:Ai}{A:Ag}{s:Ab}
noncomputable def sIx(n d:Nat):O Int->Nat
 |none=>d
 |some v=>if v<0 then(v+(n:Int)).toNat else min v.toNat n
theorem ZEY(n d:Nat)(hd:d<=n)(o:O Int):sIx n d o<=n:=by
 cases o with|none=>exact hd|some v=>
  show(if v<0 then(v+(n:Int)).toNat else min v.toNat n)<=n
  grind
theorem XQ(v:Int)(n d:Nat):(if v<0 then max (v+(n:Int)) 0 else min v (n:Int))=((sIx n d (Z v):Nat):Int):=by
 show(if v<0 then max (v+(n:Int)) 0 else min v (n:Int))=(((if v<0 then(v+(n:Int)).toNat else min v.toNat n):Nat):Int)
 grind
theorem l9(lo a:O Int)(n:Nat):XR lo a 1 (n:Int)=(((sIx n 0 lo:Nat):Int),((sIx n n a:Nat):Int)):=by
 have b:¬ ((1:Int)<0):=by lia
 unfold XR;refine Prod.ext ?_ ?_
 ·cases lo with
  |none=>rfl
  |some v=>exact XQ v n 0
 ·cases a with
  |none=>rfl
  |some v=>exact XQ v n n
theorem ma(i j:Nat):RX (i:Int) (j:Int) 1=j-i:=by
 unfold RX;grind
theorem XU{v:Aa}{o:O Int}{Q:O Int->Ab->Prop}(p:IsPart v o)(h:Q o s):wpAny (Af prog w) A (Builtin.Slice.slicePartIndex v) Q E s:=by
 cases p with
 |none=>exact slicePart_none h
 |int i t=>exact slicePart_int h
theorem mf{f:Ac}{d e:Aa}{lo a:O Int}{n:Nat}{Q:Int×Int×Nat->Ab->Prop}(g:s.heap.IsSliceOf f d e .none)(pl:IsPart d lo)(i:IsPart e a) (h:Q (((sIx n 0 lo:Nat):Int),1,sIx n n a-sIx n 0 lo) s):wpAny (Af prog w) A (Builtin.Slice.sliceApplied (.ref f) (AA (n:Int))) Q E s:=by
 obtain⟨os,b,j,c⟩:=id g;refine Al<|Al<|Ev b c rfl<|Al<|Ev b c rfl<|Al<|Ev b c (x:=.none) rfl (AN ?_);refine Al<|slicePart_none ?_;refine Al<|XU pl<|Al<|XU i<|Al<|AN ?_;show wpAny _ _ (match XR lo a 1 (n:Int)with|(lo,a)=>AA (lo,(1:Int),RX lo a 1)) _ _ s
 rw[l9 lo a n];show wpAny _ _ (AA (((sIx n 0 lo:Nat):Int),(1:Int),RX ((sIx n 0 lo:Nat):Int) ((sIx n n a:Nat):Int) 1)) _ _ s
 rw[ma];exact AN h
theorem mj(xs:Array Aa)(i k:Nat):((Bq k).filterMap λ(m:Nat)=>xs[((i:Int)+(m:Int)*1).toNat]?).toArray=((xs.toList.drop i).take k).toArray:=by
 have e:(λ(m:Nat)=>xs[((i:Int)+(m:Int)*1).toNat]?)=λm=>xs[i+m]?:=by
  grind
 have:=pick_run xs i k;have a:((λx=>xs[x]?)∘λx=>i+x)=λm=>xs[i+m]?:=rfl;simp_all
theorem getItem_tuple_cut{t e:Ac}{k l:Aa}{lo a:O Int}{Q:AL}(c:IsTup s.heap t items)(n:s.heap.IsSliceOf e k l .none)(pl:IsPart k lo)(q:IsPart l a) (r:sIx items.size 0 lo=0/\sIx items.size items.size a=items.size->Q (.ref t) s) (h:¬ (sIx items.size 0 lo=0/\sIx items.size items.size a=items.size)->Q (.ref s.heap.objs.size) {s with heap:=s.heap.push {cls:=.type "tuple",data:=.seq ((items.toList.drop (sIx items.size 0 lo)).take (sIx items.size items.size a-sIx items.size 0 lo)).toArray} }) (hsz:items.size<=Ax):wpAny (Af prog w) A (getItem (.ref t) (.ref e)) Q E s:=by
 have b:sizeOk (.seq ((items.toList.drop<|sIx items.size 0 lo).take<|sIx items.size items.size a-sIx items.size 0 lo).toArray):=
  BZ ((List.take_sublist _ _).trans<|List.drop_sublist _ _).length_le hsz
 obtain⟨os,f,g,u⟩:=id n;have i:s.TypeIs (.ref e) "slice":=#[os,f,g];unfold getItem;try with_reducible refine FC ?_
 refine Al<|wpAny_sequenceKey c.typeIs (by ext) ?_;refine Al (LI c.typeIs PyProof.Rows.slot_tuple_getitem
  (Kr PyProof.Rows.slot_tuple_getitem c.typeIs entry_tuple_getitem ?_<|args_tuple_getitem _ _))
 show wpAny _ _ (Builtin.Tuple.tupleItemsOf (.ref t) >>= _) _ _ s
 refine Al<|tupleItemsOf_ c ?_;refine Al<|LJ i ?_;refine Al<|mf n pl q ?_;show wpAny _ _ (if(((sIx items.size 0 lo:Nat):Int)==0&&(1:Int)==1&&(sIx items.size items.size a-sIx items.size 0 lo)==items.size)=J' then _ else _) _ _ s
 by_cases p:sIx items.size 0 lo=0/\sIx items.size items.size a=items.size
 ·have d:((((sIx items.size 0 lo:Nat):Int)==0&&(1:Int)==1&&(sIx items.size items.size a-sIx items.size 0 lo)==items.size)=J'):=by
   simp_all
  rw[if_pos d];refine Al<|Al<|LJ c.typeIs<|AN ?_;exact Al<|Ju<|AN ⟨_,rfl,AN<|r p⟩
 ·have j:¬ ((((sIx items.size 0 lo:Nat):Int)==0&&(1:Int)==1&&(sIx items.size items.size a-sIx items.size 0 lo)==items.size)=J'):=by
   simp_all
  rw[if_neg j,mj];exact Al (m:=Builtin.Tuple.tupleExact _) (Jv (AN #[_,rfl,AN<|h p]) b)
end
end HT
namespace L2
open PySem PySem.Spec PyProof.Rows
abbrev TO:=St->Hp->(O Int->Hp->Prop)->Prop
def PO(X:Cx)(e:O Expr)(t:TO):Prop:=
 ∀(a:AQ) (s:Ab) (b:St) (H:Hp) (Q:O Int->Hp->Prop),Inv X a b H s->t b H Q ->
  wpAny (Af X.prog X.w) X.A (evalPart e X.env) (λu d=>∃o c,Inv X a b c d/\IsPart u o/\Q o c) X.xe s
def mk:TO:=λ_ H Q=>Q J H
def ml(t:TE):TO:=λa H Q=>t a H λx b=>∃i,x=.int i/\Q (Z i) b
theorem XV{ns:U Int}:∀{us:U Aa},An (ns.map V.int) us->IntsAre us ns:=by
 induction ns with|nil=>intro us r;rw[C1]at r;cases r;exact .nil|cons n ns a=>
  intro us r;cases r with
  |cons b c=>
   obtain⟨t,rfl⟩:=b;exact .cons n t<|a c
section
variable{e:Expr}{lo hi:O Expr}{tl th:TO}
theorem mm:PO X J mk:=by
 intro a s b H Q c h;exact AN #[J,H,c,.none,h]
theorem mo(h:PE X e te):PO X (Z e) (ml te):=by
 intro a s b H Q m c;refine AT (h a s b H _ m c) λu l d=>?_;obtain⟨x,f,g,j,k⟩:=d;obtain⟨i,rfl,q⟩:=k;obtain⟨t,rfl⟩:=j;exact#[Z i,f,g,.int i t,q]
def Jw(X:Cx)(r:V->O Int->O Int->Hp->VK->Prop):Prop:=
 ∀(a:AQ) (s:Ab) (b:St) (H:Hp) (x:V) (v c d:Aa) (lo hi:O Int) (e:Ac) (Q:VK),Inv X a b H s->RelV x v->s.heap.IsSliceOf e c d .none->IsPart c lo->IsPart d hi->r x lo hi H Q ->
  ∃T id,typeLookup (.type T) "__getitem__"=AA (Z (.builtin id))/\s.TypeIs v T/\wpAny (Af X.prog X.w) X.A (getItem v (.ref e)) (EP X a b Q) X.xe s
theorem Jw.or{r b:V->O Int->O Int->Hp->VK->Prop}(h:Jw X r)(h':Jw X b):Jw X (λx lo hi H Q=>r x lo hi H Q\/b x lo hi H Q):=by
 intro a s c H x v d e lo hi f Q l g i j k q;rcases q with q|q
 ·exact h a s c H x v d e lo hi f Q l g i j k q
 ·exact h' a s c H x v d e lo hi f Q l g i j k q
def mq(r:V->O Int->O Int->Hp->VK->Prop)(te:TE)(tl th:TO):TE:=λa H Q=>te a H λx b=>tl a b λl c=>th a c λu d=>r x l u d Q
theorem mr{r:V->O Int->O Int->Hp->VK->Prop}(k:Jw X r)(m:PE X e te)(n:PO X lo tl)(o:PO X hi th):PE X (.Subscript e (.Slice lo hi J p2) pos) (mq r te tl th):=by
 intro a s d H Q R h;refine Subscript_<|AT (m a s d H _ R h) λv p f=>?_;obtain⟨x,t,w,y,z⟩:=f;refine wpAny_Slice<|AT (n a p d t _ w z) λg A ⟨l,B,C,E,G⟩=>AT (o a A d B _ C G) λi c f=>?_;obtain⟨u,j,F,L,q3⟩:=f;refine AN ?_;have M:Inv X a d j {c with heap:=c.heap.push {cls:=.type "slice",data:=.fields (T' [g,i,.none])} }:=F.kept (t':=c.toks) λb ob q=>Br _ q;obtain⟨T,id,N,K,P⟩:=k a {c with heap:=c.heap.push {cls:=.type "slice",data:=.fields (T' [g,i,.none])} } d j x v g i l u c.heap.objs.size Q M y (Heap.IsSliceOf.new ..) E L q3;exact tail_any K N P (by with_unfolding_all rfl)
def Io(xs:U V)(lo hi:O Int):U V:=(xs.drop (HT.sIx xs.length 0 lo)).take (HT.sIx xs.length xs.length hi-HT.sIx xs.length 0 lo)
theorem XW(xs:U V)(lo hi:O Int):(Io xs lo hi).length<=xs.length:=((List.take_sublist _ _).trans<|List.drop_sublist _ _).length_le
end
noncomputable def D2(n:Nat)(i:Int):O Nat:=if 0<=i then(if i<n then Z i.toNat else J)else if -(n:Int)<=i then Z (i+n).toNat else J
def atI{a:Type}(xs:U a)(i:Int):O a:=(D2 xs.length i).bind λj=>xs[j]?
theorem XY{n:Nat}{i:Int}(h:D2 n i=Z j):seqIndex? i n=Z j/\j<n /\ -(n:Int)<=i/\i<n:=by
 unfold D2 at h;by_cases b:0<=i
 ·rw[if_pos b]at h;by_cases a:i<n
  ·rw[if_pos a]at h;have e:=GX h;exact#[by rw[seqIndex_of b a,e],by lia,by lia,a]
  ·simp[if_neg a]at h
 ·rw[if_neg b]at h;by_cases a : -(n:Int)<=i
  ·rw[if_pos a]at h;have e:=GX h;exact#[by rw[seqIndex_neg (OU b) a,e],by lia,a,by lia]
  ·simp[if_neg a]at h
theorem RY{a:Type}{xs:U a}{i:Int}{v:a}(h:atI xs i=Z v):∃j,seqIndex? i xs.length=Z j/\xs[j]?=Z v/\j<xs.length /\ -(xs.length:Int)<=i/\i<xs.length:=by
 unfold atI at h;cases e:D2 xs.length i with|none=>simp[e]at h|some j=>
  rw[e]at h;obtain⟨b,c,d,f⟩:=XY e;exact#[j,b,h,c,d,f]
theorem ZU{a:Type}{xs:U a}{v:a}(h:xs[j]?=Z v):atI xs (j:Int)=Z v:=by
 have b:=(C8.mp h).1;have e:D2 xs.length (j:Int)=Z j:=by
  unfold D2;rw[if_pos (by lia),if_pos (by lia)];simp
 unfold atI;rw[e];exact h
theorem XZ{a:Type}(xs:U a)(v:a):atI (xs++[v]) (-1)=Z v:=by
 have b:(xs++[v]).length=xs.length+1:=by simp
 have e:D2 (xs++[v]).length (-1)=Z xs.length:=by
  unfold D2;grind
 unfold atI;simp_all
def MR(b:Expr):Prop:=∀o i,subscripted b O' o i=operate [o,i] (getItem o i)
def G5(X:Cx)(r:R2):Prop:=
 ∀(b slice:Expr) (a:AQ) (s:Ab) (c:St) (H:Hp) (x y:V) (v u:Aa) (Q:VK),Inv X a c H s->RelV x v->RelV y u->r x y H Q ->
  subscripted slice O' v u=operate [v,u] (getItem v u)->wpAny (Af X.prog X.w) X.A (subscriptTail b slice v u) (EP X a c Q) X.xe s
def Ks(X:Cx)(id:String)(r:V->U V->Hp->VK->Prop):Prop:=
 ∀(a:AQ) (s:Ab) (b:St) (H:Hp) (x:V) (c:U V) (v:Aa) (d:U Aa) (Q:VK),Inv X a b H s->RelV x v->An c d->r x c H Q ->
  wpAny (Af X.prog X.w) X.A (call (.builtin id) (v::d)) (EP X a b Q) X.xe s
section
variable{a b:Expr}{tb:TE}
theorem G5.or{r c:R2}(h:G5 X r)(h':G5 X c):G5 X (λx y H Q=>r x y H Q\/c x y H Q):=by
 intro a slice b s d H x y v u Q i e f q g;rcases q with q|q
 ·exact h a slice b s d H x y v u Q i e f q g
 ·exact h' a slice b s d H x y v u Q i e f q g
theorem ms{r:R2}(d:G5 X r)(e:PE X a ta)(f:PE X b tb)(g:MR b):PE X (.Subscript a b pos) (Ly r ta tb):=by
 intro c s i H Q o h;exact Subscript_<|RN e f o h λv u j x y k l m n q=>d a b c j i k x y v u Q l m n q<|g _ _
def X0(K:Ao):R2:=λx y H Q=>∃p a i v,x=.ref p/\y=.int i/\BL K H p a/\atI a i=Z v/\Q v H
def X1(K:Ao):R2:=λx y H Q=>∃p a i v,x=.ref p/\y=.int i/\B3 K H p a/\atI a i=Z v/\Q v H
def X2:R2:=λx y H Q=>∃z i c,x=.str z/\y=.int i/\z.length<=Ax/\atI z.cps.toList i=Z c/\Q (.str #[(T' [c])]) H
theorem Ip:G5 X (X0 X.K):=by
 intro d slice a s l H x y v u Q R o A h m;obtain⟨p,N,i,z,rfl,rfl,B,C,q⟩:=h;cases o;obtain⟨t,rfl⟩:=A;obtain⟨e,r,f,M⟩:=R.list B;obtain⟨j,b,E,T,G,F⟩:=RY C;obtain⟨w,n,g⟩:=r.get E;have L:=r.length;have P:=MM;have fin:EP X a l Q w s:=#[z,H,R,g,q];by_cases c:0<=i
 ·have k:i.toNat=j:=by
   rw[seqIndex_of c F]at b;exact GX b
  exact item_listR f.isList c (by lia) (by rw[k];simpa using n) fin m
 ·have k:(i+(e.toArray.size:Int)).toNat=j:=by
   rw[seqIndex_neg (OU c) G]at b;rw[BV,<- L];exact GX b
  exact subscriptTail_builtinR f.isList.typeIs slot_list_getitem.lookup
   (wpAny_getItem_list_neg f.isList (OU c) (by rw[BV]<;>lia) (by lia) (by rw[k];simpa using n) #[rfl,fin]) m
theorem Kt:G5 X (X1 X.K):=by
 intro b slice a s d H x y v u Q P f g h k;obtain⟨p,G,i,z,rfl,rfl,l,m,q⟩:=h;cases f;obtain⟨t,rfl⟩:=g;obtain⟨n,r,e,E⟩:=P.tuple l;obtain⟨j,o,A,L,M,N⟩:=RY m;obtain⟨w,B,c⟩:=r.get A;have C:=r.length;have F:=MM;have fin:EP X a d Q w s:=#[z,H,P,c,q];exact subscriptTail_builtinR e.typeIs slot_tuple_getitem.lookup
  (getItem_tuple e (by lia) (by lia) (by rw[BV,<- C];exact o) (by simpa using B) #[rfl,fin]) k
theorem mu:G5 X X2:=by
 intro a slice b s p H x y v u Q C e f h g;obtain⟨z,i,c,rfl,rfl,r,k,q⟩:=h;obtain⟨t,rfl⟩:=e;obtain⟨w,rfl⟩:=f;obtain⟨j,d,l,A,m,n⟩:=RY k;have o:z.cps.toList.length=z.length:=by simp[Str.length]
 rw[o]at d m n;have B:=MM;exact tail_any (typeIs_str s z t) slot_str_getitem.lookup (getItem_str (by
  grind) (by rw[d];simpa using l) #[.str #[(T' [c])],H,C.tok _,#[_,rfl],q]) g
def X3(K:Ao):R2:=λx y H Q=>X0 K x y H Q\/X1 K x y H Q\/X2 x y H Q
theorem mv:G5 X (X3 X.K):=Ip.or<|Kt.or mu
theorem mw(a:U Aa)(n j:Nat)(u:Aa):FH (·.setIfInBounds j u) {cls:=.type "list",data:=.seq a.toArray n}={cls:=.type "list",data:=.seq (a.set j u).toArray n}:=by
 simp[FH]
theorem Inv.lst{b:AQ}{s:Ab}{p:Ac}{xs:U V}(c:Inv X b I H s)(h:H p=Z (.lst xs)):∃(a:U Aa) (n:Nat),An xs a/\s.heap.get? p=Z {cls:=.type "list",data:=.seq a.toArray n}/\xs.length<=Ax:=by
 obtain⟨z,a,n,r,e⟩:=c.hok p _ h;exact#[a,n,r,e,z]
theorem Inv.lstUpd{a:AQ}{s:Ab}{p:Ac}{xs:U V}{c its':U Aa}{n d:Nat}{f:Obj->Obj}(k:Inv X a I H s)(h:H p=Z (.lst xs)) (i:s.heap.get? p=Z {cls:=.type "list",data:=.seq c.toArray n}) (g:f {cls:=.type "list",data:=.seq c.toArray n}={cls:=.type "list",data:=.seq its'.toArray d}) (r:An ys its') (hz:ys.length<=Ax) (t:Nat):Inv X a I (AG H p (.lst ys)) {s with heap:=s.heap.update p f,toks:=t}:=by
 have e:(s.heap.update p f).get? p=Z {cls:=.type "list",data:=.seq its'.toArray d}:=by
  rw[LK f i (by rw[g]<;>rfl),g]
 refine k.write (by rw[h];trivial) (.inl rfl) (λb u j q=>(LL _ _<|B2 j).trans q) ⟨_,e⟩ ?_;exact⟨hz,its',d,r,e⟩
def my:V->V->V->Hp->(Hp->Prop)->Prop:=λo i v H Q=>∃p a k j,o=.ref p/\i=.int k/\H p=Z (.lst a)/\D2 a.length k=Z j/\Q (AG H p (.lst (a.set j v)))
theorem mz:RJ X my:=by
 intro a s y H o i v F L u Q K z A B h;obtain⟨p,C,k,j,rfl,rfl,l,E,q⟩:=h;cases z;obtain⟨t,rfl⟩:=A;obtain⟨b,n,r,e,G⟩:=K.lst l;obtain⟨c,M,m,w⟩:=XY E;have f:=r.length;have N:=MM;have x:Inv X a y (AG H p<|.lst<|C.set j v) {s with heap:=s.heap.update p (FH (·.setIfInBounds j u))}:=
  K.lstUpd l e (mw b n j u) (r.set B j) (by rw[OV];exact G) s.toks
 by_cases d:0<=k
 ·have g:k.toNat=j:=by
   rw[seqIndex_of d w]at c;exact GX c
  exact PySem.W.ki_setAt e d (by lia) (by rw[BV,<- f];exact w) (by rw[g];exact#[_,x,q])
 ·have g:(k+(b.toArray.size:Int)).toNat=j:=by
   rw[seqIndex_neg (OU d) m]at c;rw[BV,<- f];exact GX c
  exact PySem.W.ki_setBack e (OU d) (by rw[BV,<- f];exact m) (by lia) (by rw[g];exact#[_,x,q])
theorem mB(lo a:O Int)(n:Nat):(Iq lo a J n).1=((HT.sIx n 0 lo:Nat):Int)/\(Iq lo a J n).2.1=((HT.sIx n n a:Nat):Int)/\(Iq lo a J n).2.2=1:=by
 refine#[?_,?_,rfl]
 ·cases lo with|none=>simp[Iq,HT.sIx]|some i=>
   erw[Iq,HT.sIx,Option.getD_none,show(1:Int)>0 by ext,if_true];grind
 ·cases a with|none=>simp[Iq,HT.sIx]|some i=>
   erw[Iq,HT.sIx,Option.getD_none,show(1:Int)>0 by ext,if_true];grind
theorem mC(a:U Aa)(lo b:O Int):slicePick a.toArray lo b J=((a.drop (HT.sIx a.length 0 lo)).take (HT.sIx a.length a.length b-HT.sIx a.length 0 lo)).toArray:=by
 obtain⟨c,d,e⟩:=mB lo b a.toArray.size;unfold slicePick;rw[c,d,e];erw[sliceRange_one,pick_run,BV]<;>rfl
def mD(K:Ao):V->O Int->O Int->Hp->VK->Prop:=λx lo c H Q=>∃a b,x=.ref a/\BL K H a b/\∀p,H p=J->Q (.ref p) (AG H p (.lst (Io b lo c)))
theorem Ir:Jw X (mD X.K):=by
 intro f s t H x v u w lo e y Q z i j k l h;obtain⟨a,c,rfl,m,q⟩:=h;cases i;obtain⟨n,r,g,p⟩:=z.list m;have d:=r.length;refine#["list",_,slot_list_getitem.lookup,g.isList.typeIs,?_];refine wpAny_getItem_list_slice g.isList j k l .none (by simp) ?_ (by rw[BV]<;>lia);rw[mC,<- d];exact#[.ref s.heap.objs.size,_,z.laid (t':=s.toks) (o:=.lst<|Io c lo e) (λb ob q=>Br _ q) (Bf _) (#[BZ (XW c lo e) p,_,0,(r.drop<|HT.sIx c.length 0 lo).take<|HT.sIx c.length c.length e-HT.sIx c.length 0 lo,Cc _ rfl]),rfl,q _<|z.hok.fresh<|Bf _]
def X4:V->Bool
 |.non=>J'
 |.bl _=>J'
 |.int _=>J'
 |.str _=>J'
 |_=>O'
noncomputable def mE:V->V->Bool
 |.non,.non=>J'
 |.bl a,.bl b=>a==b
 |.bl a,.int b=>(if a then 1 else 0)==b
 |.int a,.bl b=>a==(if b then 1 else 0)
 |.int a,.int b=>a==b
 |.str a,.str b=>a==b
 |_,_=>O'
theorem mF:ED X (.type "list") (λxs H Q=>∃p ys,xs=[.ref p]/\(BL X.K H p ys\/B3 X.K H p ys)/\∀l,H l=J->Q (.ref l) (AG H l (.lst ys))):=by
 intro g s y H xs A Q B r h;obtain⟨p,ys,rfl,i,q⟩:=h;obtain⟨u,rfl,z⟩:=ER r;cases z;have fin:∀(a:U Aa),An ys a->ys.length<=Ax->∀(c:Ak) (d:Nat),(∀b x,s.heap.get? b=Z x->c.get? b=Z x) ->
   c.get? s.heap.objs.size=Z {cls:=.type "list",dict:=J,data:=.seq a.toArray d,slots:=(T' [])}->EP X g y Q (.ref s.heap.objs.size) {s with heap:=c}:=λa f j c d kp e=>
  #[.ref s.heap.objs.size,_,B.laid (t':=s.toks) kp (Bf _) (show AY X.prog X.w _ c _ (.lst ys)from#[j,a,d,f,e]),rfl,q _<|B.hok.fresh<|Bf _]
 rcases i with i|i
 ·obtain⟨a,f,m,j⟩:=B.list i;have k:=f.length;obtain⟨o,t,v,n,hd⟩:=m.isList;exact call_list_seq p (.inl rfl) t v hd (λc d kp e=>fin a f j c d kp e) (by erw[BV]<;>lia)
 ·obtain⟨a,f,m,j⟩:=B.tuple i;have k:=f.length;obtain⟨o,t,v,n,hd⟩:=m;exact call_list_seq p (.inr rfl) t v hd (λc d kp e=>fin a f j c d kp e) (by erw[BV]<;>lia)
theorem mG:ED X (.type "tuple") (λxs H Q=>∃p ys,xs=[.ref p]/\((BL X.K H p ys/\∀l,H l=J->Q (.ref l) (AG H l (.tup ys)))\/(B3 X.K H p ys/\Q (.ref p) H))):=by
 intro a s j H xs y Q v r h;obtain⟨p,ys,rfl,h⟩:=h;obtain⟨u,rfl,t⟩:=ER r;cases t;rcases h with⟨f,q⟩|⟨f,q⟩
 ·obtain⟨c,g,i,k⟩:=v.list f;have m:=g.length;refine call_tuple_list i.isList (λd kp=>?_) (by erw[BV]<;>lia);have n:=v.kept (t':=s.toks) kp;have x:Inv X a j (AG H d.objs.size<|.tup ys) {s with heap:=d.push {cls:=.type "tuple",data:=.seq c.toArray} }:=
   n.laid (t':=s.toks) (λb o e=>Br _ e) (Bf _) (show AY X.prog X.w _ _ _ (.tup ys)from#[k,c,g,IsTup.new _ _])
  exact#[.ref d.objs.size,_,x,rfl,q _<|n.hok.fresh<|Bf _]
 ·obtain⟨c,g,i,k⟩:=v.tuple f;exact call_tuple_same i #[.ref p,H,v,rfl,q]
def OW(K:Ao)(T:String)(x:V)(H:Hp):Prop:=match x with
 |.str _=>T="str"
 |.int _=>T="int"
 |.ref p=>(T="list"/\∃a,BL K H p a)\/(T="tuple"/\∃o,K.lookup p=Z o/\o.cls=.type "tuple"/\o.dict=J) \/
   (T="dict"/\(∃b c,Rd H p (.dct b c)))
 |_=>False
theorem mH{b:AQ}{s:Ab}{T:String}{x:V}{v:Aa}(m:Inv X b I H s)(r:RelV x v)(ty:OW X.K T x H):s.TypeIs v T/\∀a,v=.ref a->∃ob,s.heap.get? a=Z ob/\ob.dict=J:=by
 cases x with
 |str z=>
  obtain⟨t,rfl⟩:=r;cases(show T="str" from ty);exact#[typeIs_str s z t,λ_ e=>nomatch e]
 |int i=>
  obtain⟨t,rfl⟩:=r;cases(show T="int" from ty);exact#[typeIs_int s i t,λ_ e=>nomatch e]
 |ref p=>
  cases r;rcases ty with⟨rfl,l,g⟩|⟨rfl,o,d,h,hd⟩|⟨rfl,_,_,d⟩
  ·obtain⟨j,_,f,_⟩:=m.list g;refine#[f.isList.typeIs,λa e=>?_];cases e;obtain⟨o,n,e,c,hd,_⟩:=f;exact#[o,e,hd]
  ·refine#[#[o,m.kIn p o d,h],λa e=>?_];cases e;exact#[o,m.kIn _ o d,hd]
  ·obtain⟨_,_,_,o,_,_,e,ex,_⟩:=d.ok m.hok;refine#[#[o,e,ex.1],λa k=>?_];cases k;exact#[o,e,ex.2.1]
 |_=>exact BM ty
def mI(K:Ao)(T:String)(r:V->U V->Hp->VK->Prop)(c:TE)(t:TA):TE:=λa H Q=>c a H λx b=>OW K T x b/\t a b λd e=>r x d e Q
variable{o e:Expr}{to:TE}{t:TA}{name:Ae}{T id:String}{r:V->U V->Hp->VK->Prop}
theorem Hv(m:PlainAttrs T)(slot:Slot T name id)(g:typeOf (.builtin id)=AA (.type "method_descriptor"))(n:Ks X id r)(p:PE X o to)(q:PA X (e::es) t) (c:F6 o name X.env (Ap o X.env)=Ap o X.env:=by rfl) (f:((Au cpos (AC (e::es) X.env)).all (λx=>!x.1)&&(F7 cpos (F8 [] X.env)).all (λx=>x.1.isSome) && decide ((e::es).length+([]:U D1).length+(if([]:U D1).isEmpty then 0 else 1)<30))=J':=by rfl) (d:(apos.endLine==cpos.line)=J':=by rfl) (u:AC (e::es) X.env=(O',Ap e X.env)::AC es X.env:=by rfl) (b:(Au cpos (AC es X.env)).any (·.1)=O':=by rfl):PE X (.Call (.Attribute o name apos) (e::es) [] cpos) (mI X.K T r to t):=by
 intro a s i H Q R h;refine wpAny_Call_method_late c f d rfl<|AT (p a s i H _ R h) λv w y=>?_;obtain⟨x,z,j,k,ty,A⟩:=y;obtain⟨B,C⟩:=mH j k ty;refine#[T,id,m,slot,g,B,C,?_];have l:=q cpos a w i z _ j A;rw[u]at l ⊢;refine Calls.callWith_builtin (by show(O'||(Au cpos<|AC es X.env).any (·.1))=O';rw[b]<;>rfl)<|Calls.evalArgs_plain ?_;exact AT l λE G ⟨F,L,M,N,P⟩=>n a G i L x F v E Q M k N P
end
def RZ(X:Cx)(id:String)(r:V->U V->Hp->VK->Prop):Prop:=
 ∀(a:AQ) (s:Ab) (b:St) (H:Hp) (x:V) (c:U V) (v:Aa) (d:U Aa) (Q:VK),Inv X a b H s->RelV x v->An c d->r x c H Q ->
  wpAny (Af X.prog X.w) X.A (call (.builtin id) (v::d)) (EP X a b Q) X.xe s
theorem An.one{x:V}{us:U Aa}(h:An [x] us):∃u,us=[u]/\RelV x u:=by
 cases h with
 |cons r t=>cases t;exact#[_,rfl,r]
theorem An.two{x y:V}{us:U Aa}(h:An [x,y] us):∃u v,us=[u,v]/\RelV x u/\RelV y v:=by
 cases h with
 |cons r t=>
  cases t with
  |cons q t=>cases t;exact#[_,_,rfl,r,q]
theorem An.eraseIdx:∀{xs:U V}{us:U Aa}(i:Nat),An xs us->An (xs.eraseIdx i) (us.eraseIdx i)
 |_,_,_,.nil=>.nil
 |_,_,0,.cons _ t=>t
 |_,_,i+1,.cons r t=>.cons r<|An.eraseIdx i t
theorem X5{a:Type}:∀(l:U a)(i:Nat),(l.eraseIdx i).length<=l.length
 |[],_=>Bf _
 |_::_,0=>Nat.le_succ _
 |_::r,i+1=>Nat.succ_le_succ<|X5 r i
section
variable{s:Ab}{l b:Ac}{xs:U V}
theorem Inv.lset{a its':U Aa}{n:Nat}{f:Array Aa->Array Aa}(j:Inv X pins I H s)(b:H l=Z (.lst xs)) (e:s.heap.get? l=Z {cls:=.type "list",data:=.seq a.toArray n}) (c:f a.toArray=its'.toArray) (d:An ys its') (hz:ys.length<=Ax):Inv X pins I (AG H l (.lst ys)) {s with heap:=s.heap.update l (FH f),toks:=t' }:=by
 have q:=PySem.IsL.update e f;rw[c]at q;refine j.write (by rw[b];exact trivial) (.inl rfl) (λi u g h=>(LL s.heap (FH f)<|B2 g).trans h) ⟨_,q⟩ ?_;exact⟨hz,its',_,d,q⟩
theorem Inv.lnew{a:U Aa}(c:Inv X pins I H s)(b:An ys a)(hz:ys.length<=Ax):Inv X pins I (AG H s.heap.objs.size (.lst ys)) {s with heap:=s.heap.push {cls:=.type "list",data:=.seq a.toArray},toks:=t' }:=c.laid (λ_ _ q=>Br _ q) (Bf _) #[hz,a,0,b,Cc _ rfl]
theorem Inv.fresh(a:Inv X pins I H s):H s.heap.objs.size=J:=a.hok.fresh<|Bf _
theorem Inv.lstM(c:Inv X pins I H s)(b:H l=Z (.lst xs)):xs.length<=Ax/\∃(a:U Aa)(n:Nat),An xs a/\xs.length=a.length/\s.heap.get? l=Z {cls:=.type "list",data:=.seq a.toArray n}:=by
 obtain⟨z,a,n,r,e⟩:=c.hok l _ b;exact#[z,a,n,r,r.length,e]
theorem mJ{n:Nat}(h:n<=Ax):Builtin.List.listTooLong n=O':=by
 exact decide_eq_false<|Nat.not_lt.mpr h
end
section
def mK:V->U V->Hp->VK->Prop:=λx b H Q=>∃l a y,x=.ref l/\b=[y]/\H l=Z (.lst a)/\a.length<Ax/\Q .non (AG H l (.lst (a++[y])))
theorem R0:RZ X "list.append" mK:=by
 intro b s j H x k v m Q d f g h;obtain⟨l,o,y,rfl,rfl,c,p,q⟩:=h;cases f;obtain⟨u,rfl,i⟩:=g.one;obtain⟨z,a,n,r,t,e⟩:=d.lstM c;refine call_meets F.slot_list_append #[_,e,rfl] F.entry_list_append (F.args_list_append_2 _ _) (PySem.list_append l a.toArray n u (by rw[BV];lia)) #[e,?_];refine#[.non,_,d.lset (its':=a++[u]) c e (by simp) (r.append<|.cons i .nil) ?_,rfl,q];rw[FG,List.length_singleton];lia
def mL:V->U V->Hp->VK->Prop:=λx d H Q=>∃l b a c,x=.ref l/\d=[.ref b]/\H l=Z (.lst a)/\H b=Z (.lst c)/\a.length+c.length<=Ax/\Q .non (AG H l (.lst (a++c)))
theorem mM:RZ X "list.extend" mL:=by
 intro g s B H x C v E Q K k m h;obtain⟨l,b,G,j,rfl,rfl,i,o,p,q⟩:=h;cases k;obtain⟨u,rfl,t⟩:=m.one;cases t;obtain⟨z,c,n,r,L,e⟩:=K.lstM i;obtain⟨M,a,n2,w,y,A⟩:=K.lstM o
 have d:c.toArray.size+a.toArray.size<=Ax:=by rw[BV,BV];lia
 have f:¬ (!c.toArray.isEmpty&&Builtin.List.listTooLong (c.toArray.size+a.toArray.size))=J':=by
  rw[mJ d,Bool.and_false]
  exact MA
 refine call_meets F.slot_list_extend #[_,e,rfl] F.entry_list_extend (F.args_list_extend_2 _ _)
  (AutoSeq1.list_extend_list_list_0 l c.toArray n b a.toArray n2 f (by rw[BV];exact Sa d) (Ku d)) #[e,A,?_]
 refine#[.non,_,K.lset (its':=c++a) i e (by simp) (r.append w) ?_,rfl,q]
 rw[FG]
 exact W.kdl_size p
end
section
set_option maxRecDepth 100000 in
end
end L2
namespace Att
open PySem PySem.W PySem.Calls PyProof.Rows
theorem mO{P:Params}{h:Ak}:∀(ns:U Int)(vs:U Aa),WellAll P h vs (ns.map WData.int)->IntsAre vs ns:=by
 intro ns;induction ns with
 |nil=>
  intro vs w;cases w;exact .nil
 |cons n ns c=>
  intro vs w;cases w with
  |cons a b=>
   cases a;exact .cons _ _<|c _ b
theorem mP{l:OpenLaw}{n:Nat}(t:l.most=Z n){P:Params}{h:Ak}{args:U WData}{Zj:U Aa} (b:l.row.toRowW.claim.pre args=J') (f:WellAll P h Zj args):∃a vs ns,Zj=[Cj a]/\args=[WData.list (ns.map WData.int)]/\h.get? a=Z {cls:=.type "list",data:=.seq vs.toArray}/\IntsAre vs ns/\ns.length<=n:=by
 have g:=(pre_splitW b).1;have j:l.pre.holds [] {args:=args}=J':=(pre_splitW b).2;obtain⟨d,r,rfl,k,m⟩:=hasAllW_cons g;obtain rfl:=hasAllW_nil m;obtain⟨u,rfl,o⟩:=hasW_list k;obtain⟨ns,rfl⟩:=items_int o;have c:ns.length<=n:=by
  have i:(WTm.not<|.lt (.lit<|.int (n:Int))<|.len<|.arg 0).holds [] {args:=[.list<|ns.map .int]}=J':=by
   have i:=(holds_andW j).1;grind
  have v:=condW_of i<|w_not<|w_lt w_lit<|w_len_list<|w_arg rfl;simp_all
 cases f with
 |cons p q=>
  cases q;cases p with
  |list s e=>exact#[_,_,ns,rfl,rfl,s,mO ns _ e,c]
theorem mQ(l:OpenLaw)(args:U WData):l.row.toRowW.claim.post args (.bool J') args=J':=postW_of (show WShape.has [] (.bool J') .bool=J' by rfl) (show(WTm.eq .res<|.lit<|.bool J').value [] {args:=args,res:=Z<|.bool J',after:=args}=Z (.bool<|true==J')from w_eq_bool (w_res rfl) w_lit) rfl
theorem attach_call{l:OpenLaw}{n:Nat}{q:AM}{c:U Ae}{y:(Bx)->Ak->Prop}{z:Ai->Ak->Prop}{d:DefRec} (C:l.most=Z n) (p:d.params.defaults=[]) (call:∀(w:Ai) (s₀ b:Ab) (mg s:Bx) (h:Ac) (o:Obj) (t m e:Aa) (a:Ac) (vs:U Aa) (ns:U Int),Ground q c [] y w s₀ mg s b.heap->z w b.heap ->
   b.heap.get? h=Z o->o.data=.func (docDef d.name d.params d.body d.scope t m e)->b.heap.CodeRec m d.name->mg d.name=Z (.ref h) ->
   b.heap.get? a=Z {cls:=.type "list",data:=.seq vs.toArray}->IntsAre vs ns->ns.length<=n->b.gens=(T' []) ->
   codeAny (Af l.prog w) callerA (.call (.ref h) #[[.ref a],[]]) (λr s'=>r=.ok (.ret (.bool J'))/\OldK b.heap s'.heap/\s'.os=b.os/\AllBare s'.gens) b):
  WalkO q c y z l.row.toRowW d [] (λf vs=>PySem.call f vs):=by
 intro w s₀ b mg s G Y h o t m e E H R hd u A v F args Zj as i B L x M
 obtain rfl:E=.none:=Dflts.none A p
 obtain rfl:H=.none:=Dflts.noKw A
 obtain⟨a,vs,ns,rfl,rfl,j,g,k⟩:=mP C i x
 refine enter_call (LB (call w s₀ b mg s h o t m e a vs ns G Y R (fd_plain hd) u v j g k F) λr s' N=>?_)
 obtain⟨rfl,K,Q,T⟩:=N
 exact#[.inl #[.bool J',.bool J',[],rfl,λ_=>rfl,.bool J',mQ l _,λ_=>#[List.Pairwise.nil,λ_ P=>(nomatch P)]],K,Q,T]
end Att
namespace L2
open PySem PySem.Spec PyProof.Rows
theorem mR{vs:U Aa}{ns:U Int}(h:IntsAre vs ns):An (ns.map V.int) vs:=by
 induction h with
 |nil=>exact .nil
 |cons n t _ a=>exact .cons #[t,rfl] a
def Sc(H:Hp):Prop:=∀b,H b=J\/∃o a,H b=Z (.frz o (.lst a))
theorem mS{P:AM}{w:Ai}{K:Ao}{mg E:Bx}{k:Nat}{G:Ac}{fd:Cd}{x:Ae}{c:Ab}{vs:U Aa}{ns:U Int}
  (Q:K.In c.heap) (j:c.heap.Ns BU mg) (f:c.heap.Ns builtinsNs E) (X:∀x:Ae,x≠"__name__"->E x=Ec x) (l:c.heap.NoLimit) (hg:c.gens=(T' []))
  (R:c.heap.get? a=Z {cls:=.type "list",data:=.seq vs.toArray}) (T:IntsAre vs ns) (W:ns.length<=Ax) (hr:AI k callerA)
  (F:∀base:Ak,K.In base->base.Ns BU mg->AR P w K mg base CX k G fd [x] sp) (i:∀(s:Ab) (u:Aa),BindsTo s fd #[[u],[]] [(x,u)])
  (L:∀H:Hp,Sc H->BL K H a (ns.map V.int)->sp [.ref a] H (λv _=>v=.bl J') λ_ _ _=>False)
  (M:∀H e s',CX [] H c (λ_ _ _=>False) e s'->False):
  codeAny (Af P w) callerA (.call (.ref G) #[[.ref a],[]]) (λr s'=>r=.ok (.ret (.bool J'))/\OldK c.heap s'.heap/\s'.os=c.os/\AllBare s'.gens) c:=by
 have Y:=mR T
 have p:=T.length
 have core:∀H:Hp,Sc H->BL K H a (ns.map V.int)->Cb P w H c.heap->(∀b,H b≠J->b=a)->(H a≠J->K.lookup a=J) ->
   codeAny (Af P w) callerA (.call (.ref G) #[[.ref a],[]]) (λr s'=>r=.ok (.ret (.bool J'))/\OldK c.heap s'.heap/\s'.os=c.os/\AllBare s'.gens) c:=by
  intro H hO hS hok hA hK
  have base_of:∀{b:Ac} {o:Obj},c.heap.get? b=Z o->H b=J->(Ih c.heap H).get? b=Z o:=λe n=>j5 e n
  have N:∀{b:Ac} {o:Obj} {B:Array GR} {C:Nat},c.heap.get? b=Z o->o.data=.dict B C->H b=J:=λ{b o B C} e d=>by
   grind
  have g:∀{b:Ac} {m:Bx},c.heap.Ns b m->(Ih c.heap H).Ns b m:=λ{b m} ⟨o,B,C,e,d,r⟩=>#[o,B,C,base_of e (N e d),d,r]
  have t:K.In (Ih c.heap H):=λb o e=>base_of (Q b o e) (by
   cases q:H b with
   |none=>rfl
   |some u=>
    have e':b=a:=hA b (by rw[q];simp)
    subst e'
    rw[hK (by rw[q];simp)]at e;cases e)
  have hM:Mod K mg (Ih c.heap H):=#[t,g j,#[E,g f,X],let⟨mc,h1,h2⟩:=l;#[mc,g h1,h2]]
  have e0:CJ P w K mg (Ih c.heap H) callerA [] c H:=#[rfl,hM,λb o e=>j6 e,Nat.le_of_eq (j4 _ _),trivial,λb f=>absurd (show b∈([]:U Ac)from f) (by simp),hok,.of_eq hg]
  refine LB ((F _ t (g j)).run callerA [] c H #[[.ref a],[]] [.ref a] [.ref a] _ _ hr e0 (i c (.ref a)) (.cons rfl .nil) (L H hO hS)) λr s' h=>?_
  cases r with
  |error e=>exact(M H e s' h).elim
  |ok fl=>
   cases fl with
   |next=>exact BM h
   |brk=>exact BM h
   |cont=>exact BM h
   |ret u=>
    obtain⟨v,H',os,bare,un,y,r',q⟩:=h
    have q':v=.bl J':=q
    subst q'
    obtain rfl:u=Value.bool J':=r'
    refine#[rfl,OldK.of_keep λb o e=>?_,os,bare]
    cases q:H b with
    |none=>exact un.keep b o e q (by intro z;exact absurd (show b∈([]:U Ac)from z) (by simp)) (by simp)
    |some u=>
     rcases hO b with z|⟨ob,xs,z⟩
     ·simp[q]at z
     ·have z2:=un.frzs b ob _ z
      obtain⟨e1,_⟩:=hok b _ z
      obtain⟨e2,_⟩:=y b _ z2
      rw[e]at e1;cases e1
      exact e2
 cases S:K.lookup a with
 |some o=>
  have e:=Q a o S
  rw[R]at e
  cases e
  refine core (λ_=>J) (λ_=>.inl rfl) (.inr #[_,vs.toArray,_,S,rfl,rfl,rfl,by rw[BV,p];exact W,by simpa using Y]) (λb u z=>by have A:(J:O HO)=Z u:=z;cases A) (λb z=>absurd rfl z) λz=>absurd rfl z
 |none=>
  refine core (λb=>if b=a then Z (.frz {cls:=.type "list",data:=.seq vs.toArray} (.lst (ns.map V.int)))else J) (λb=>?_) (.inl (.inr #[{cls:=.type "list",data:=.seq vs.toArray},if_pos rfl])) (λb u z=>?_) (λb z=>?_) λ_=>S
  ·by_cases f:b=a
   ·exact .inr #[_,_,if_pos f]
   ·exact .inl (if_neg f)
  ·by_cases f:b=a
   ·have A:=(if_pos f).symm.trans z
    cases A
    subst f
    exact#[R,by rw[Bi];exact W,vs,_,Y,R]
   ·have A:=(if_neg f).symm.trans z
    cases A
  ·by_cases f:b=a
   ·exact f
   ·exact absurd (if_neg f) z
theorem walk_of{l:PySem.W.OpenLaw}{n k:Nat}{q:AM}{i:U Ae}{X:(Bx)->Ak->Prop}{C:Ai->Ak->Prop}{d:DefRec}{K:Params->Ao}{CX:Ai->DZ}{sp:Ai->Sp}{x:Ae} (P:l.most=Z n) (t:n<=Ax) (y:d.params.defaults=[]) (L:AI k callerA) (M:∀(w:Ai) (h:Ak),C w h->(K w.params).In h) (F:∀(w:Ai) (mg:Bx) (r:Ac) (h:Ak),(K w.params).In h->h.Ns BU mg->mg d.name=Z (.ref r)->∃fd:Cd,(∀(s:Ab) (u:Aa),BindsTo s fd #[[u],[]] [(x,u)])/\∀base:Ak,(K w.params).In base->base.Ns BU mg->AR l.prog w (K w.params) mg base (CX w) k r fd [x] (sp w)) (z:∀(w:Ai) (H:Hp) (a:Ac) (ns:U Int),ns.length<=n->Sc H->BL (K w.params) H a (ns.map V.int)->sp w [.ref a] H (λv _=>v=.bl J') λ_ _ _=>False) (A:∀(w:Ai) (H:Hp) (s:Ab) (e:Aa) (s':Ab),CX w [] H s (λ_ _ _=>False) e s'->False):PySem.W.WalkO q i X C l.row.toRowW d [] (λf vs=>PySem.call f vs):=by
 refine Att.attach_call P y λw s₀ m mg mb r o pm cd N a vs ns G Y ho hd R B p j c Q=>?_;have E:=M w _ Y;obtain⟨fd,S,hF⟩:=F w mg r _ E G.T.g B;exact mS E G.T.g G.T.b G.T.builtins G.T.nolimit Q p j (BZ c t) L hF S (λH hO hS=>z w H a ns c hO hS) λH e s'=>A w H m e s'
noncomputable def Jx(s:Az)(j:Nat):Az:=match s with
 |.ClassDef _ _ _ a _ _ _ _ _ _ _=>a.getD j (.Pass #[0,0,0,0])
 |_=>.Pass #[0,0,0,0]
noncomputable def Hw(s:Az):Arguments:=match s with
 |.FunctionDef _ a _ _ _ _ _ _ _ _=>a
 |_=>{posonlyargs:=[],args:=[],vararg:=J,kwonlyargs:=[],kw_defaults:=[],kwarg:=J,defaults:=[]}
def ZI(s:Az):U Az:=match s with
 |.FunctionDef _ _ b _ _ _ _ _ _ _=>b
 |_=>[]
def Zf(s:Az):Scope:=match s with
 |.FunctionDef _ _ _ _ _ _ a _ _ _=>a
 |_=>{kind:=.function,names:=[],isGenerator:=O',isCoroutine:=O'}
abbrev Bm:DZ:=λ_ _ _ _ _ _=>False
abbrev E0:XK:=λ_ _ _=>False
theorem Iu:Fh Bm X E0:=λ_ _ _ _ _ _ _ h=>h.elim
structure Jy(K:Ao)(x qual:Ae)(st:Az)(f:Ac)(fd:Cd):Prop where
 ex:∃(oc:Aa) (od:Option Ac) (kV doc pm:Aa) (an:Option Ac) (cdv ct:Aa) (osl:Array (Option Aa)),
  fd=Js x qual (Hw st) (ZI st) (Zf st) .none kV doc pm an cdv ct/\K.lookup f=Z #[oc,od,.func fd,osl]/\PySem.W.codeIn K cdv qual=J'
 kp:Im K (.ref f)=J'
section
variable{P:AM}{w:Ai}{K:Ao}{mg:Bx}{base:Ak}
theorem Jy.ok{x a:Ae}{st:Az}{f:Ac}{fd:Cd}{N d:U Ae}{k:Nat}(F:Jy K x a st f fd)(S:EE N d (Zf st))(len:∀vs H Q E,sp vs H Q E->vs.length=d.length) (c:∀(b:Aa) (A:Ag) (outer:U Env) (s:Ab) (H:Hp) (vs:U V) (Q:VK) (E:XK),AI k (A.deeper (A3 a (Zf st) s.heap.objs.size f b))->sp vs H Q E->∃t,EC (Df Bm P w K mg base N a (Zf st) f b A outer s H E).nox (ZI st) t/\t {nx:=λ_ H'=>Q .non H',rt:=Q} (FE N vs) H):AR P w K mg base Bm (k+1) f fd d sp:=by
 obtain⟨n,o,p,i,r,u,b,ct,j,rfl,l,e⟩:=F.ex;refine XN l e S len λA outer s H vs Q E m g=>?_;obtain⟨t,h,q⟩:=c b A outer s H vs Q E m g;exact#[t,h.nox,q]
theorem X6{x a:Ae}{st:Az}{f:Ac}{j:Aa}{m g:O Ac}{e:Array (O Aa)}{h d i b ct:Aa}(l:K.lookup f=Z #[j,m,.func (Js x a (Hw st) (ZI st) (Zf st) .none h d i g b ct),e]) (c:PySem.W.codeIn K b a=J') (k:Im K (.ref f)=J'):Jy K x a st f (Js x a (Hw st) (ZI st) (Zf st) .none h d i g b ct):=#[#[j,m,h,d,i,g,b,ct,e,rfl,l,c],k]
end
theorem mT{n:Nat}(h:n<=1000):n<Ax:=Kv h (by ext)
section
theorem pv(i:Nat){x:Ae}(b:X.N[i]?=Z x:=by rfl)(c:Lv X.env.scope x:=by first|exact Or.inl rfl|exact Or.inr (Or.inl rfl)|exact Or.inr (Or.inr rfl))(hd:Cs x:=by ext) (a:(x==("__classdict__":Ae))=O':=by ext):PE X (.Name x pos) (RC i):=RD b c hd a
end
def Ah(H H':Hp):Prop:=∀b o,H b=Z o->H' b=Z o
theorem Ah.refl(H:Hp):Ah H H:=λ_ _ h=>h
theorem Ah.trans{d e:Hp}(a:Ah H d)(b:Ah d e):Ah H e:=λc o h=>b c o<|a c o h
theorem Ah.free(e:Ah H H'){l:Ac}(h:H' l=Option.none):H l=Option.none:=by
 cases q:H l with|none=>rfl|some o=>
  simp[e l o q]at h
theorem Ah.seq{K:Ao}{xs:U V}(e:Ah H H')(h:BL K H a xs):BL K H' a xs:=by
 rcases h with(h|⟨o,h⟩)|h
 ·exact .inl<|.inl<|e _ _ h
 ·exact .inl<|.inr ⟨o,e _ _ h⟩
 ·exact .inr h
structure NV(X:Cx)(i:Nat)(x:Ae):Prop where
 n:X.N[i]?=Z x
 v:Lv X.env.scope x
 d:Cs x
 c:(x==("__classdict__":Ae))=O'
theorem EF{i:Nat}{x:Ae}(n:X.N[i]?=Z x:=by rfl)(v:Lv X.env.scope x:=by first|exact Or.inl rfl|exact Or.inr (Or.inl rfl)|exact Or.inr (Or.inr rfl))(d:Cs x:=by ext)(c:(x==("__classdict__":Ae))=O':=by ext):NV X i x:=#[n,v,d,c]
theorem Gy{i:Nat}{x:Ae}(h:NV X i x):PE X (.Name x pos) (RC i):=RD h.n h.v h.d h.c
noncomputable def Fi(env:Env):U (Ae×G4)->U (Ae×Ac)->U (Ae×Ac)
 |[],a=>a
 |(n,k)::r,a=>if k=Iv then Fi env r ((n,(env.cells.lookup n).getD 0)::a)else Fi env r a
theorem X7{env:Env}(h:∀x∈scope.names,x.2=.free->∃c,env.cells.lookup x.1=Z c):closureFor scope env=AA (Fi env scope.names []):=by
 have all:∀(l:U (Ae×G4)) (b:U (Ae×Ac)),(∀x∈l,x.2=.free->∃c,env.cells.lookup x.1=Z c) ->
   (forIn l b (λ(x:Ae×G4) (b:U (Ae×Ac))=>if(x.2==Iv)=J' then(do let a <- cellOf env x.1;AA<|ForInStep.yield<|(x.1,a)::b)else AA (ForInStep.yield b)):Sem (U<|Ae×Ac))=AA (Fi env l b):=by
  intro l;induction l with|nil=>intro b _;rfl|cons x l j=>
   intro b f;obtain⟨n,k⟩:=x;rw[List.forIn_cons];have g:=λb=>j b<|λy m=>f y<|Be _ m;by_cases d:k=.free
   ·subst d;obtain⟨c,i⟩:=f (n,.free) Ba rfl;have e:cellOf env n=AA c:=by unfold cellOf;erw[i]
    erw[beq_self_eq_true,if_true,e,pure_bind,g,Fi,i,Option.getD_some]
   ·have o:(k==Iv)=O':=by simpa using d
    erw[o,F9,if_false,pure_bind,g,Fi,d]
 have:=all scope.names [] h;erw[closureFor];rw[<- bind_pure (AA (Fi env scope.names []):Sem _),<- this]
theorem Sd{env:Env}:∀(l:U (Ae×G4))(a:U (Ae×Ac)),(∀x∈l,x.2=.free->∃c,env.cells.lookup x.1=Z c)->(∀p∈a,env.cells.lookup p.1=Z p.2)->∀p∈Fi env l a,env.cells.lookup p.1=Z p.2
 |[],a,_,h=>h
 |(n,k)::r,a,b,h=>by
  have d:∀x∈r,x.2=.free->∃c,env.cells.lookup x.1=Z c:=λy f=>b y<|Be _ f;by_cases e:k=.free
  ·subst e;obtain⟨c,g⟩:=b (n,.free) Ba rfl;refine Sd r _ d λp i=>?_;grind [Bo,Option.getD_some]
  ·erw[Fi,e,if_false];exact Sd r a d h
theorem Se{env:Env}:∀(l:U (Ae×G4))(a:U (Ae×Ac))(x:Ae),((x,Iv)∈l\/∃c,(x,c)∈a)->∃c,(x,c)∈Fi env l a
 |[],a,x,h=>by
  rcases h with h|h
  ·cases h
  ·exact h
 |(n,k)::r,a,x,h=>by
  by_cases b:k=.free
  ·subst b;refine Se r _ x ?_;grind [Bo,Ba,Be]
  ·erw[Fi,b,if_false];refine Se r a x ?_;rcases h with h|h
   ·rcases Bo.mp h with e|h
    ·cases e;exact absurd rfl b
    ·exact .inl h
   ·exact .inr h
theorem X8{a:Type}:∀{l:U (Ae×a)}{x:Ae}{c:a},(x,c)∈l->∃d,l.lookup x=Z d
 |[],_,_,h=>by cases h
 |(n,b)::r,x,c,h=>by
  rw[List.lookup_cons];cases e:x==n with|true=>exact#[b,rfl]|false=>
   rcases Bo.mp h with z|h
   ·cases z;simp at e
   ·exact X8 h
structure Iw(own outs:List Ae)(sc osc:Scope):Prop where
 kind:sc.kind=.function
 nocell:∀x∈sc.names,x.2≠.cell
 free:∀x∈sc.names,x.2=.free->osc.names.lookup x.1=Z .cell\/osc.names.lookup x.1=Z .free
 loc:∀x∈sc.names,x.2=.local->sc.names.lookup x.1=Z .local
 out:∀x∈outs,sc.names.lookup x=Z .free
 nd:(own++outs).Nodup
theorem C2{env:Env}:∀{names:U (Ae×G4)}{x:Ae},names.lookup x=Z .free->((names.map λ(n,k)=>if(k==Iv&&env.scope.kind==.function&&env.kindOf n==Z .cell)then(n,NameKind.cell)else(n,k)).lookup x=Z .cell \/(names.map λ(n,k)=>if(k==Iv&&env.scope.kind==.function&&env.kindOf n==Z .cell)then(n,NameKind.cell)else(n,k)).lookup x=Z .free)
 |[],_,h=>by simp at h
 |(n,k)::r,x,h=>by
  have a:=@C2 env r x;grind
theorem Cm{env:Env}:∀{names:U (Ae×G4)}{x:Ae}{k:G4},k=.cell\/k=.free->(∀y∈names,y.2≠.cell)->(names.map λ(n,k)=>if(k==Iv&&env.scope.kind==.function&&env.kindOf n==Z .cell)then(n,NameKind.cell)else(n,k)).lookup x=Z k->(x,Iv)∈names
 |[],_,_,_,_,h=>by simp at h
 |(n,j)::r,x,k,a,b,h=>by
  have d:=@Cm env r x k a λy c=>b y<|Be _ c;grind
def Dp(X:Cx)(own a:U Ae)(scope:Scope)(C:Ac)(c:Ab)(d:Hp)(e:U Ac)(b:AQ):Cx where
 prog:=X.prog
 w:=X.w
 K:=X.K
 mg:=X.mg
 base:=X.base
 A:=X.A
 N:=own++a
 s₀:=c
 H₀:=d
 env:=compEnvC scope (Fi X.env scope.names []) C X.env
 outer:=X.stack
 stack:=X.stack
 ex:=e
 fn:=λ_=>O'
 calm:=X.calm
 pn:=X.pn++b
 xe:=λ_ _=>False
def G7(X:Cx)(b:U Expr)(e:TT):Prop:=
 ∀(a:AQ) (s:Ab) (d:St) (H:Hp) (Q:Bool->Hp->Prop),Inv X a d H s->e d H Q ->
  wpAny (Af X.prog X.w) X.A (forIn b J' λc r=>if r=J' then do let ok <- isTrue c X.env (Ap c X.env);AA (ForInStep.yield ok)else AA (ForInStep.yield r)) (TP X a d Q) X.xe s
def mU:TT:=λ_ H Q=>Q J' H
theorem mV:G7 X [] mU:=λ_ _ _ H _ a h=>wpAny_tests_nil #[H,a,h]
theorem mW{c:Expr}{b:TT}(h:PT X c b):G7 X [c] b:=λa s d H Q e q=>wpAny_tests_one<|h a s d H Q e q
def E6(k:Nat)(oix:U Nat)(I:St):St:=Dx k J++oix.map λj=>(I[j]?).join
def Sf(k:Nat)(oix:U Nat)(g:TG)(l:TT)(m:TE)(r:It)(I:St)(H:Hp)(Q:VK):Prop:=
 ∃(n:Nat) (W:Nat->U V->Hp->Prop),W 0 [] H/\∀i c d,W i c d ->
  (r.stop i d/\c.length<=Ax/\∀p,d p=J->Q (.ref p) (AG d p (.lst c))) \/
  (r.go i d/\i<n/\c.length<Ax/\∃N:U V->Hp->Prop,(∀e f,N e f->W (i+1) e f)/\∀x h,r.yld i d x h->g x (E6 k oix I) h λa o=>a.drop k=(E6 k oix I).drop k /\
   l a o λb j=>if b=J' then m a j λy q=>N (c++[y]) q else N c j)
def OX(k:Nat)(oix:U Nat)(wi:TI)(g:TG)(b:TT)(c:TE):TE:=λa H Q=>wi a H λe d=>Sf k oix g b c e a d Q
def Fj(a:U Aa)(n:Nat):Obj:={cls:=.type "list",data:=.seq a.toArray n}
theorem Cb.track{P:AM}{w:Ai}{h:Ak}{o:HO}(x:Cb P w H h)(d:H a=J)(new:AY P w (AG H a o) h a o):Cb P w (AG H a o) h:=λb u e=>by
 by_cases f:b=a
 ·grind [ZH]
 ·rw[Zm f]at e;exact(x b u e).stay (λc v _ q=>q) (λc q=>by rw[Zm<|ZW q d];exact q) λc g q=>by rw[Zm<|ZW q d];exact q
theorem X9{f:AQ}{zA:Hp}{a:Ab}{P:It}{L:U Ac}{it:Ac}
  {own zB:U Ae} {oix:U Nat} {g:TG} {tt:TT} {Q:VK}
  (S:Iw own zB scope X.env.scope) (hox:oix.map (λj=>X.N[j]?)=zB.map Z) (hc:X.calm=J')
  (hg:∀C a zA L f,PG (Dp X own zB scope C a zA L f) tg g)
  (ht:∀C a zA L f,G7 (Dp X own zB scope C a zA L f) ifs tt)
  (he:∀C a zA L f,PE (Dp X own zB scope C a zA L f) elt te)
  (B:Inv X f I zA a) (T:Ht X.prog X.w X.K tg P L it tn) (st:tn 0 a.heap) (f2:∀b∈L,F5 X f zA b)
  (h:Sf own.length oix g tt te P I zA Q)
  (hRR:∀(C:Ac) (s':Ab) (m:Bx) (H':Hp),s'.heap.Ns C m->Inv X f I H' s'->H' C=J->C≠X.env.locals->X.s₀.heap.objs.size<=C ->
   (∀x c,X.env.cells.lookup x=Z c->c≠C)->(∀p∈X.pn++f,p.1≠C)->Q (.ref a.heap.objs.size) H'->RR (.ref a.heap.objs.size) C (.ok .next) s'):
  wpAny (Af X.prog X.w) X.A (newList []) (λacc s₃=>wpAny (Af X.prog X.w) X.A (newFunctionEnv scope X.env.globals (Fi X.env scope.names []) [] X.env.qual J .none (Z X.env)) (λcenv s₄=>
   codeAny (Af X.prog X.w) X.A (.compStart (.ListComp elt [#[tg,iter,ifs,0]] scope pos) 0 (.ref it) acc {cenv with scope:=relabel scope X.env}) (RR acc cenv.locals) s₄) E s₃) E a:=by
 obtain⟨n,W,w0,turn⟩:=h
 refine Jv (wpAny_newFunctionEnv S.nocell (by intro y hy;simp at hy) (λh₁ R M=>?_) S.kind)
 generalize hP:a.heap.push {cls:=.type "list",dict:=J,data:=.seq ([]:U Aa).toArray}=t at R M ⊢
 have hC:t.objs.size=a.heap.objs.size+1:=by rw[<- hP,LA]
 generalize hCC:t.objs.size=C at R M hC ⊢
 have hDC:a.heap.objs.size≠C:=by rw[hC];exact B9 (Nat.lt_succ_self _)
 have H:a.heap.objs.size<C:=by rw[hC];exact Nat.lt_succ_self _
 have old:∀b o,a.heap.get? b=Z o->h₁.get? b=Z o:=λb o e=>
  M.extBut b o (B9 (Ix (BC e) H)) (Br _ (hP ▸ Br _ e))
 have hacc:h₁.get? a.heap.objs.size=Z (Fj [] 0):=M.extBut _ _ hDC (Br _ (hP ▸ Cc _ rfl))
 have hcells:∀x∈scope.names,x.2=.free->∃c,X.env.cells.lookup x.1=Z c:=λx hx hf=>B.ok.has x.1 (S.free x hx hf)
 have clX:∀x c,(Fi X.env scope.names []).lookup x=Z c->X.env.cells.lookup x=Z c:=λx c e=>
  Sd scope.names [] hcells (λp t=>by cases t) (x,c) (LC e)
 have clHas:∀x,(x,Iv)∈scope.names->∃c,(Fi X.env scope.names []).lookup x=Z c:=λx hx=>by
  obtain⟨c,hc⟩:=Se (env:=X.env) scope.names [] x (.inl hx)
  exact X8 hc
 have fpLt:∀b∈L,b<a.heap.objs.size:=λb G=>by
  obtain⟨o,e,_⟩:=T.obj 0 _ st b G
  exact BC e
 have cLt:∀x c,X.env.cells.lookup x=Z c->c<a.heap.objs.size:=λx c e=>by
  obtain⟨v,q⟩:=B.cell x c e
  exact q.lt
 have fpStk:∀b∈L,b∉Ck X.stack:=λb G z=>by
  rcases Bo.mp (B.stkSub b z)with e|z
  ·exact(f2 b G).2.1 e
  ·exact(f2 b G).2.2.1 z
 have pinLt:∀p∈X.pn++f,p.1<a.heap.objs.size:=λp t=>BC (B.pin p t).1
 have pinStk:∀p∈X.pn++f,p.1∉Ck X.stack:=λp t z=>by
  rcases Bo.mp (B.stkSub _ z)with e|z
  ·exact(B.pin p t).2.2.1 e
  ·exact(B.pin p t).2.2.2.1 z
 have fsLt:∀b∈Ck X.stack,b<a.heap.objs.size:=λb G=>by
  obtain⟨_,o,ho,_⟩:=B.stack.mem G
  exact BC ho
 let Y:Cx:=Dp X own zB scope C a zA L f
 have okY:Y.Ok:={
  mod:=B.ok.mod
  kind:=S.kind
  glob:=B.ok.glob
  blt:=B.ok.blt
  above:=Lw H
  inj:=λx y c h1 h2=>B.ok.inj x y c (clX x c h1) (clX y c h2)
  has:=λx hx=>by
   refine clHas x ?_
   rcases hx with hx|hx
   ·exact Cm (env:=X.env) (.inl rfl) S.nocell hx
   ·exact Cm (env:=X.env) (.inr rfl) S.nocell hx
  cab:=λx c hf _=>absurd (show O'=J' from hf) MA
  hd:=B.ok.hd
  frames:=B.ok.frames
  stk:=.inl rfl
  exf:=λb G=>#[B9 (Ix (fpLt b G) H),λx c e=>(f2 b G).2.2.2.2.1 x c (clX x c e)]
  bs:=B.bs
  bsz:=BZ B.ok.bsz B.sz
  noex:=λb o e G=>by
   rcases(f2 b G).2.2.2.1 with z|z
   ·exact B.ok.noex b o e z
   ·exact absurd (B6 (BC e) (BZ B.ok.bsz z)) (Hq _)
  exfs:=fpStk
  funs:=B.stack
  frf:=B.stkFree}
 have lenS:(E6 own.length oix I).length=Y.N.length:=by
  have e:=congrArg Kq hox
  erw[Bi]at e
  show(Dx own.length J++oix.map _).length=(own++zB).length
  rw[FG,FG,LH,Bi,e]
 have I4:Inv Y [(a.heap.objs.size,Fj [] 0)] (E6 own.length oix I) zA {a with heap:=h₁}:={
  ok:=okY
  os:=rfl
  bare:=B.bare
  base:=Un.kept old
  loc:=by
   refine#[_,R,λi x v e1 e2 e3=>?_]
   have hi:own.length<=i:=by
    apply Kw
    intro hlt
    unfold E6 at e2
    rw[MQ (by rw[LH];exact hlt),Jq]at e2
    rw[if_pos hlt]at e2
    cases e2
   unfold E6 at e2
   rw[RW (by rw[LH];exact hi),LH,Dy]at e2
   have e1':zB[i-own.length]?=Z x:=by
    have e1:(own++zB)[i]?=Z x:=e1
    rwa[RW hi]at e1
   cases ej:oix[i-own.length]? with
   |none=>rw[ej]at e2;cases e2
   |some j=>
    rw[ej]at e2
    have e2':(I[j]?).join=Z v:=GX e2
    have e2'':I[j]?=Z (Z v):=by
     cases eI:I[j]? with
     |none=>rw[eI]at e2';cases e2'
     |some z=>rw[eI]at e2';exact congrArg Z e2'
    have eN:X.N[j]?=Z x:=by
     have q:=congrArg (λl=>l[i-own.length]?) hox
     erw[Dy,ej,e1',Jz]at q
     exact GX q
    have hfree:scope.names.lookup x=Z .free:=S.out x (LF e1')
    have hmem:(x,Iv)∈scope.names:=LC hfree
    have hk:X.env.scope.names.lookup x=Z .cell\/X.env.scope.names.lookup x=Z .free:=S.free (x,.free) hmem rfl
    obtain⟨m,hn,hl⟩:=B.loc
    obtain⟨u,r,l⟩:=hl j x v eN e2'' (by rcases hk with hk|hk;exact .inr (.inl hk);exact .inr (.inr hk))
    refine#[u,r,.inr #[C2 (env:=X.env) hfree,?_]]
    obtain⟨c,ec⟩:=clHas x hmem
    refine#[c,ec,?_]
    have ec':=clX x c ec
    rcases l with⟨k,_⟩|⟨_,c',e',o,ho,hd⟩
    ·rcases hk with hk|hk
     ·exact absurd (k.symm.trans hk) (by ext)
     ·exact absurd (k.symm.trans hk) (by ext)
    ·rw[ec']at e'
     cases e'
     exact#[o,old _ _ ho,hd]
  cell:=λx c e=>by
   obtain⟨v,o,ho,hd⟩:=B.cell x c (clX x c e)
   exact#[v,o,old _ _ ho,hd]
  free:=B.hok.fresh (Lw H)
  freeC:=λx c e=>B.freeC x c (clX x c e)
  pin:=λp t=>by
   rcases Dw.mp t with t|t
   ·obtain⟨e,n,_,_,d⟩:=B.pin p t
    exact#[old _ _ e,n,B9 (Ix (pinLt p t) H),pinStk p t,d]
   ·have e:p=(a.heap.objs.size,Fj [] 0):=by simpa using t
    subst e
    refine#[hacc,B.hok.fresh (Bf _),hDC,λz=>absurd (fsLt _ z) (Hq _),λv z=>?_]
    have z':Data.seq _ _=Data.cell v:=z
    cases z'
  hok:=B.hok.kept old
  len:=lenS}
 have fpY:∀{H':Hp} {s:U Aa} {k:Nat},(∀b∈L,H' b=J)->∀b∈L,F5 Y [(a.heap.objs.size,Fj s k)] H' b:=λ{H' s k} hn b G=>by
  refine#[hn b G,B9 (Ix (fpLt b G) H),fpStk b G,.inl G,λx c e=>(f2 b G).2.2.2.2.1 x c (clX x c e),λp t=>?_]
  rcases Dw.mp t with t|t
  ·exact(f2 b G).2.2.2.2.2 p t
  ·have e:p=(a.heap.objs.size,Fj s k):=by simpa using t
   subst e
   exact Hs (fpLt b G)
 have fin:∀(i:Nat) (ys:U V) (s:U Aa) (k:Nat) (H':Hp) (s':Ab),Inv Y [(a.heap.objs.size,Fj s k)] (E6 own.length oix I) H' s'->An ys s->ys.length<=Ax ->
   Q (.ref a.heap.objs.size) (AG H' a.heap.objs.size (.lst ys))->RR (.ref a.heap.objs.size) C (.ok .next) s':=λi ys s k H' s' I' rv hz q=>by
  obtain⟨m,hn,_⟩:=I'.loc
  obtain⟨eD,nD,_⟩:=I'.pin (a.heap.objs.size,Fj s k) (Dk _ (by simp))
  have un:Un (Ck X.stack) L zA H' a.heap s'.heap:=I'.base
  have neD:∀b o,a.heap.get? b=Z o->b≠a.heap.objs.size:=λb o e=>B9 (BC e)
  have neH:∀b o,zA b=Z o->b≠a.heap.objs.size:=λb o e=>B9 (B.hok.lt e)
  have un':Un (Ck X.stack) L zA (AG H' a.heap.objs.size (.lst ys)) a.heap s'.heap:=
   #[un.keep,un.slot,λb o e n hx=>by rw[Zm (neD b o e)];exact un.free b o e n hx,un.there,λb xs e=>by rw[Zm (neH b _ e)];exact un.tups b xs e,
    λb o u e=>by rw[Zm (neH b _ e)];exact un.frzs b o u e,λb ps e=>by rw[Zm (neH b _ e)];exact un.tbls b ps e]
  have hok':Cb X.prog X.w (AG H' a.heap.objs.size (.lst ys)) s'.heap:=Cb.track I'.hok nD #[hz,s,k,rv,eD]
  have IX:Inv X f I (AG H' a.heap.objs.size (.lst ys)) s':=B.call' (ch:=L) I'.os un' hok' I'.bare λb G=>#[(f2 b G).2.2.2.1,(f2 b G).2.1,(f2 b G).2.2.2.2.1,(f2 b G).2.2.2.2.2]
  refine hRR C s' m _ hn IX ?_ ?_ ?_ ?_ ?_ q
  ·rw[Zm (B2 hDC)];exact I'.free
  ·exact Hs (Ix B.lt H)
  ·exact BZ B.sz (Lw H)
  ·exact λx c e=>B9 (Ix (cLt x c e) H)
  ·exact λp t=>B9 (Ix (pinLt p t) H)
 have loop:codeAny (Af X.prog X.w) X.A (.compLoop (.ListComp elt [#[tg,iter,ifs,0]] scope pos) 0 (.ref it) (.ref a.heap.objs.size) Y.env) (RR (.ref a.heap.objs.size) C) {a with heap:=h₁}:=by
  refine codeAny_loop rfl (λk s'=>∃(i:Nat) (ys:U V) (s:U Aa) (c:Nat) (H':Hp),Inv Y [(a.heap.objs.size,Fj s c)] (E6 own.length oix I) H' s'/\An ys s/\tn i s'.heap/\(∀b∈L,H' b=J)/\W i ys H'/\k=n-i) (λk s' hI=>?_) n
   #[0,[],[],0,zA,I4,.nil,T.keep 0 _ _ st λb _ o e=>old b o e,λb G=>(f2 b G).1,w0,rfl]
  refine wpAny_noted ?_
  obtain⟨i,ys,s,c,H',I',rv,st',fr',w',ek⟩:=hI
  rcases turn i ys H' w' with⟨stop,hz,q⟩|⟨go,hin,hz,N,hN,step⟩
  ·refine Al (wpAny_standAt (Al (AT (T.done Y rfl rfl rfl hc i _ s' _ H' _ I' (fpY fr') st' stop) λr s1 ⟨hr,I1⟩=>?_)))
   subst hr
   obtain⟨_,nD,_⟩:=I1.pin (a.heap.objs.size,Fj s c) (Dk _ (by simp))
   exact AN (fin i ys s c H' s1 I1 rv hz (q _ nD))
  ·refine Al (wpAny_standAt (Al (AT (T.item Y rfl rfl rfl hc i _ s' _ H' _ I' (fpY fr') st' go) λr s1 ⟨u,hr,h1⟩=>?_)))
   subst hr
   refine Al (AT h1 λ_ s5 z9=>?_)
   obtain⟨x,H5,I5,r5,y5,st5,fr5⟩:=z9
   have I5':=I5.pinned (fpY fr5) (T.obj _ _ st5)
   refine Al (wpAny_noRaise (AT (hg C a zA L f _ s5 _ H5 x u _ I5' r5 (step x H5 y5)) λ_ s6 z9=>?_))
   obtain⟨σ6,H6,I6,dr6,q6⟩:=z9
   refine Al (wpAny_noRaise (AT (ht C a zA L f _ s6 σ6 H6 _ I6 q6) λok s7 ⟨H7,I7,q7⟩=>?_))
   have back:∀{H8:Hp} {s8:Ab} {its8:U Aa} {c8:Nat},Inv Y ([(a.heap.objs.size,Fj its8 c8)]++Kn L s5.heap) σ6 H8 s8 ->
     Inv Y [(a.heap.objs.size,Fj its8 c8)] (E6 own.length oix I) H8 s8/\tn (i+1) s8.heap/\∀b∈L,H8 b=J:=λ{H8 s8 its8 c8} I8=>by
    refine#[I8.unpinned.weak ?_ λj v e=>?_,T.keep _ _ _ st5 λb G o e=>(I8.pin (b,o) (Dk _ (Dk _ (OL G e)))).1,λb G=>?_]
    ·exact lenS.trans I8.len.symm
    ·have hj:own.length<=j:=by
      apply Kw
      intro hlt
      unfold E6 at e
      rw[MQ (by rw[LH];exact hlt),Jq]at e
      rw[if_pos hlt]at e
      cases e
     have e':=congrArg (λl=>l[j-own.length]?) dr6
     erw[List.getElem?_drop]at e'
     rw[show own.length+(j-own.length)=j by exact Nat.add_sub_of_le hj]at e'
     exact e'.trans e
    ·obtain⟨o,e,d⟩:=T.obj _ _ st5 b G
     exact(I8.pin (b,o) (Dk _ (Dk _ (OL G e)))).2.1
   cases ok with
   |false=>
    obtain⟨I8,st8,fr8⟩:=back I7
    exact AN #[rfl,n-(i+1),by lia,i+1,ys,s,c,H7,I8,rv,st8,fr8,hN _ _ q7,rfl]
   |true=>
    refine Al (Al (wpAny_noRaise (AT (he C a zA L f _ s7 σ6 H7 _ I7 q7) λy s8 z9=>?_)))
    obtain⟨z,H8,I8,r8,w8⟩:=z9
    obtain⟨eD,nD,neL,nF,dD⟩:=I8.pin (a.heap.objs.size,Fj s c) (Dk _ (Ii _ (by simp)))
    have hl:=rv.length
    refine Al (call_meets F.slot_list_append #[_,eD,rfl] F.entry_list_append (F.args_list_append_2 _ _) (PySem.list_append _ s.toArray c y (by rw[BV];lia)) #[eD,?_])
    obtain⟨n',q⟩:∃n',(s8.heap.update a.heap.objs.size (FH (·.push y))).get? a.heap.objs.size=Z (Fj (s++[y]) n'):=by
     have q:=PySem.IsL.update eD (·.push y)
     rw[show s.toArray.push y=(s++[y]).toArray by simp]at q
     exact#[_,q]
    have I9:Inv Y (Kn L s5.heap) σ6 H8 {s8 with heap:=s8.heap.update a.heap.objs.size (FH (·.push y))}:=
     (I8.pins_of λp t=>I8.pin p (Dk _ (Dk _ t))).turned (t':=s8.toks) (it:=a.heap.objs.size) (λb o G e=>(LL _ _ (B2 G)).trans e) nD hDC (.inr (Bf _))
      (λx c' e=>B9 (cLt x c' (clX x c' e))) λp t=>by
       rcases Dw.mp t with t|t
       ·exact B9 (pinLt p t)
       ·exact B9 (fpLt _ (Xn t).1)
    have I10:Inv Y ([(a.heap.objs.size,Fj (s++[y]) n')]++Kn L s5.heap) σ6 H8 {s8 with heap:=s8.heap.update a.heap.objs.size (FH (·.push y))}:=I9.pins_of λp t=>by
     rcases Dw.mp t with t|t
     ·have e:p=(a.heap.objs.size,Fj (s++[y]) n'):=by simpa using t
      subst e
      exact#[q,nD,neL,nF,λv z=>by
       have z':Data.seq _ _=Data.cell v:=z
       cases z']
     ·exact I9.pin p (Dk _ t)
    obtain⟨I11,st11,fr11⟩:=back I10
    exact AN (AN #[rfl,n-(i+1),by lia,i+1,ys++[z],s++[y],_,H8,I11,rv.append (.cons r8 .nil),st11,fr11,hN _ _ w8,rfl])
 exact codeAny_compStart_list loop (T.self _ 0 _ _ _ (T.keep 0 _ _ st λb _ o e=>old b o e) loop)
section
variable{oix:U Nat}{g:TG}{tt:TT}
theorem Ya(own c:U Ae)(oix:U Nat)(S:Iw own c scope X.env.scope)(t:oix.map (λj=>X.N[j]?)=c.map Z)(L:X.calm=J')(M:PI X tg iter wi) (w:∀C l i k a,PG (Dp X own c scope C l i k a) tg g) (A:∀C l i k a,G7 (Dp X own c scope C l i k a) ifs tt) (Y:∀C l i k a,PE (Dp X own c scope C l i k a) elt te) (hs:∀x,EQ iter X.env x=AA x:=by intro _;rfl):PE X (.ListComp elt [#[tg,iter,ifs,0]] scope pos) (OX own.length oix wi g tt te):=by
 intro a s z H Q F h;rw[eval_ListComp];refine wpAny_comprehension_free rfl hs (X7 λx hx hf=>F.ok.has x.1<|S.free x hx hf) S.kind S.loc (AT (M a s z H _ F h) λxv B n=>AT n λitv E p=>?_);obtain⟨it,k,tn,v,i,rfl,I2,T,u,f2,d⟩:=p;refine X9 S t L w A Y I2 T u f2 d ?_;intro C s' m H' hn I' hC hL h0 f r q;exact#[m,hn,λG y=>#[.ref _,H',I'.turned (h':=G) (t':=s'.toks) (λb o hb e=>y.extBut b o hb e) hC hL (.inr h0) f r,rfl,q]]
theorem Sg(own d:U Ae)(oix:U Nat){i:Nat}{x:Ae}{f k:AD}(S:Iw own d scope X.env.scope)(M:oix.map (λj=>X.N[j]?)=d.map Z)(hc:X.calm=J') (hN:X.N.Nodup) (K:X.N[i]?=Z x) (hx:X.env.scope.names.lookup x=Z .local) (hi:PI X tg iter wi) (hg:∀C u r t c,PG (Dp X own d scope C u r t c) tg g) (ht:∀C u r t c,G7 (Dp X own d scope C u r t c) ifs tt) (he:∀C u r t c,PE (Dp X own d scope C u r t c) elt te) (P:Ef (.ListComp elt [#[tg,iter,ifs,0]] scope pos) (Z (.Name x f)) k.line X.env=AA J':=by rfl) (hs:∀x,EQ iter X.env x=AA x:=by intro _;rfl):PS X (.Assign [.Name x f] (.ListComp elt [#[tg,iter,ifs,0]] scope pos) k) (Lx (OX own.length oix wi g tt te) (Km i)):=by
 intro c s I H D Q h;rw[exec_Assign_Name_used _ _ _ _ P];refine Al<|wpAny_standAt<|Al ?_;refine Al (EN (wpAny_comprehension_free rfl hs (X7 λy hy hf=>Q.ok.has y.1<|S.free y hy hf) S.kind S.loc
  (AT (hi c s I H _ Q h) λxv s₁ B=>AT B λitv E G=>?_)) (λ_ z hq=>AN<|AN hq) λ_ _ e=>e)
 obtain⟨it,t,tn,F,r,rfl,I2,T,Y,f2,l⟩:=G;refine X9 (RR:=λacc C=>compPost (Af X.prog X.w) X.A X.xe (Z<|assign (.Name x f) X.env) (λ_ z=>SP X c D .next z) acc C) S M hc hg ht he I2 T Y f2 l ?_;intro C z m H' hn I' hC hL h0 n L q;refine wpAny_assign_Name<|W6 (v:=.ref E.heap.objs.size) I' hN K (.inl hx) rfl (λs'' I'' p=>?_) (.inr hx);obtain⟨a,p,ha⟩:=p;have hCa:C≠a:=by
  grind
 exact#[m,hn.sameBut p hCa,λh' hs'=>#[_,H',I''.turned (h':=h') (t':=s''.toks) (it:=C) (λb o hb e=>hs'.extBut b o hb e) hC hL (.inr h0) n L,q]]
end
def Yb(x:Ae):It:=#[λi _=>i<x.cps.size,λi H v a=>a=H/\∃c,x.cps[i]?=Z c/\v=.str #[(T' [c])],λi _=>x.cps.size<=i]
theorem Yc{P:AM}{w:Ai}{K:Ao}{u:Expr}{b:Bool}(it:Ac)(x:Ae)(t:Tok):Ht P w K u (Yb x) [it] it (λi h=>h.IsStrIter it (bif b then "str_ascii_iterator" else "str_iterator") x t i):=by
 refine MH (n:=bif b then "str_ascii_iterator" else "str_iterator") (by cases b<;>decide) (λi h st=>?_) (λi h g st k=>?_) (λX i m s z H E Q A p B st=>?_) λ_ _ _ _ _ st h=>by
  cases b
  ·exact wpAny_pyIter_striter_wide st h
  ·exact wpAny_pyIter_striter_ascii st h
 ·obtain⟨o,e,c,d⟩:=st;exact#[o,_,e,c,d]
 ·obtain⟨o,e,r⟩:=st;exact#[o,k o e,r]
 ·constructor<;>intro a q
  ·have a:i<x.cps.size:=a;have f:=λt g j (v:DP it s.heap g)=>q (.str #[(T' [x.cps[i]])] t) (.str #[(T' [x.cps[i]])]) g (s.toks+1) j (λb o y e=>(v.2 b y).trans e) #[_,rfl] #[rfl,_,by simp[a],rfl];cases b
   ·exact wpAny_pyNext_wide_item st (c:=x.cps[i]) (by simp[a]) (f _)
   ·exact wpAny_pyNext_ascii_item st (c:=x.cps[i]) (by simp[a]) (f _)
  ·have a:x.cps.size<=i:=a;cases b
   ·exact wpAny_pyNext_wide_end p st (by simp[a]) λg l=>q g s.toks l
   ·exact wpAny_pyNext_ascii_end p st (by simp[a]) λg l=>q g s.toks l
section
def mX(a:TE):TI:=λb H R=>a b H λv c=>∃x,v=.str x/\R (Yb x) c
theorem mY{l:Expr}{g:TE}(k:PE X l g):PI X tg l (mX g):=by
 intro a s m H R w h;refine AT (k a s m H _ w h) λv c n=>?_;obtain⟨y,f,d,p,r⟩:=n;obtain⟨x,rfl,q⟩:=r;obtain⟨t,rfl⟩:=p;have i:∀{o:Obj} (b:Ac),b∈[c.heap.objs.size]->F5 X a f b:=λ{o} b u=>by
  have e:b=c.heap.objs.size:=by simpa using u
  subst e;exact d.fpOk (Bf _)<|d.hok.fresh<|Bf _
 cases j:x.cps.all (·<128)
 ·exact wpAny_pyIter_wide j #[c.heap.objs.size,[c.heap.objs.size],_,_,f,rfl,d.kept (t':=c.toks) λb o e=>Br _ e,Yc (b:=O') _ x t,#[_,Cc _ rfl,rfl,rfl],i (o:=default),q]
 ·exact wpAny_pyIter_ascii j #[c.heap.objs.size,[c.heap.objs.size],_,_,f,rfl,d.kept (t':=c.toks) λb o e=>Br _ e,Yc (b:=J') _ x t,#[_,Cc _ rfl,rfl,rfl],i (o:=default),q]
end
section
def mZ:V->O Int->O Int->Hp->VK->Prop:=λx lo a H Q=>∃z,x=.str z/\z.length<=Ax/\Q (.str (Txt.slice z lo a)) H
theorem m3:Jw X mZ:=by
 intro e s o H x v p r lo w y Q A m a n f h;obtain⟨z,rfl,b,q⟩:=h;obtain⟨t,rfl⟩:=m;refine#["str",_,PySem.F.slot_str_getitem.lookup,typeIs_str s z t,?_];cases n with
 |none=>
  cases f with
  |none=>exact Sh (l:=J) (u:=J) (st:=J) a rfl (post_val_or_str #[BZ (Txt.slice_le z _ _) b,λc k=>#[.str<|Txt.slice z J J,H,A.tok _,⟨_,rfl⟩,q]])
  |int j d=>exact Sh (l:=J) (u:=Z (j,d)) (st:=J) a rfl (post_val_or_str #[BZ (Txt.slice_le z _ _) b,λc k=>#[.str<|Txt.slice z J<|some j,H,A.tok _,⟨_,rfl⟩,q]])
 |int i g=>
  cases f with
  |none=>exact Sh (l:=Z (i,g)) (u:=J) (st:=J) a rfl (post_val_or_str #[BZ (Txt.slice_le z _ _) b,λc k=>#[.str<|Txt.slice z (Z i) J,H,A.tok _,⟨_,rfl⟩,q]])
  |int j d=>exact Sh (l:=Z (i,g)) (u:=Z (j,d)) (st:=J) a rfl (post_val_or_str #[BZ (Txt.slice_le z _ _) b,λc k=>#[.str<|Txt.slice z (Z i)<|some j,H,A.tok _,⟨_,rfl⟩,q]])
def Yd:V->U V->Hp->VK->Prop:=λx a H Q=>∃z y,x=.str z/\a=[.str y]/\Q (.int (Txt.find z y)) H
theorem m4:Ks X "str.find" Yd:=by
 intro a s d H x e v f Q i b c h;obtain⟨z,y,rfl,rfl,q⟩:=h;obtain⟨t,rfl⟩:=b;obtain⟨u,rfl,g,rfl⟩:=ER c;exact SC.find #[.int _,H,i.tok _,#[_,rfl],q]
theorem m5{zs:U Ae}:∀{us:U Aa},An (zs.map V.str) us->StrsAre us zs:=by
 induction zs with|nil=>intro us r;rw[C1]at r;cases r;exact .nil|cons n ns a=>
  intro us r;rw[AS]at r;cases r with
  |cons b c=>
   obtain⟨t,rfl⟩:=b;exact .cons n t<|a c
def Ye(K:Ao):V->U V->Hp->VK->Prop:=λx c H Q=>∃z a b,x=.str z/\c=[.ref a]/\BL K H a (b.map V.str)/\(b.map (·.length)).sum+b.length*z.length<=16777216/\Q (.str (Txt.join z b)) H
theorem m6:Ks X "str.join" (Ye X.K):=by
 intro d s m H x n v o Q c e f h;obtain⟨z,a,p,rfl,rfl,g,i,q⟩:=h;obtain⟨t,rfl⟩:=e;obtain⟨u,rfl,j⟩:=ER f;cases j;obtain⟨b,r,l,_⟩:=c.list g;exact join_list l.isList (m5 r) i λw k=>#[.str _,H,c.tok _,#[_,rfl],q]
end
theorem m7{bs:U Bool}:∀{us:U Aa},An (bs.map V.bl) us->LSm.BoolsAre us bs:=by
 induction bs with|nil=>intro us r;rw[C1]at r;cases r;exact .nil|cons n ns a=>
  intro us r;rw[AS]at r;cases r with
  |cons b c=>
   have e:=b;subst e;exact .cons n<|a c
section
theorem Yf{b:Bool}(n:X.calm=J'):ED X (.builtin (bif b then "all" else "any")) (λxs H Q=>∃(a:Ac)(bs:U Bool),xs=[.ref a]/\BL X.K H a (bs.map V.bl)/\Q (.bl (bif b then bs.all id else bs.any id)) H):=by
 intro j s E H xs G Q R r h;obtain⟨a,bs,rfl,o,q⟩:=h;obtain⟨u,rfl,p⟩:=ER r;cases p;obtain⟨c,t,w,F⟩:=R.list o;have k:=m7 t;have d:=w.isList;have g:a<s.heap.objs.size:=by obtain⟨_,e,_⟩:=d;exact BC e
 obtain⟨f,l⟩:∃f:Nat->Bool,f=λi=>(bs[i]?).getD b:=#[_,rfl];have x:c.toArray.size=bs.length:=by rw[BV,k.length]
 have y:=LSm.range_all bs;have z:=LSm.range_any bs;cases b;all_goals
  first|refine call_all_walk (OJ d ?_)|refine call_any_walk (OJ d ?_)
  refine#[s.heap.objs.size,[s.heap.objs.size,a],[s.heap.objs.size],c.toArray.size,_,_,f,rfl,Walks.list (A:=X.A.in1) (R.ok.hd n) _ a (B9 g) c.toArray,
   #[#[_,Cc _ rfl,rfl,rfl],d.push _],λi v L M N B m=>?_,λP T C=>#[.bl _,H,R.kept<|LSm.kept_iter C,rfl,?_]]
  ·obtain⟨b,e,rfl⟩:=k.get i v (by simpa using B);erw[l,e,Option.getD_some]at m;exact Ij m
  ·rw[x,l];first|rw[y]|rw[z]
   exact q
end
section
open PySem.SeqAt
inductive FJ(A:Ag)(s:Ab):List Aa->List Aa->Bool->Prop where
 |nn:FJ A s [] [] O'
 |nc {w ws}:FJ A s [] (w::ws) J'
 |cn {v vs}:FJ A s (v::vs) [] O'
 |eq {v w vs ws b}:EqAt A s v w J'->FJ A s vs ws b->FJ A s (v::vs) (w::ws) b
 |ne {v w vs ws b}:EqAt A s v w O'->(∀(prog:AM) (wo:Ai) (E Q:AL),Q (.bool b) s->wpAny (Af prog wo) A (richCompare .Lt v w) Q E s)->FJ A s (v::vs) (w::ws) b
end
section
open PySem.SeqAt
open PySem.AutoSeq1 (wpAny_loadPart')
open PySem.MeetsSeq PySem.MeetsSeq2 PySem.MeetsSeq3
theorem na(l b:Ac)(items a:Array Aa)(n n2:Nat)(dd p:O Ac)(P q:Array (O Aa))(r:Bool):Meets (Fk.«tuple.__lt__» #[[.ref l,.ref b],[]]) (λA R s=>s.heap.get? l=Z {cls:=.type "tuple",dict:=dd,data:=.seq items n,slots:=P}/\s.heap.get? b=Z {cls:=.type "tuple",dict:=p,data:=.seq a n2,slots:=q}/\FJ A.in1 s items.toList a.toList r/\R (.ok (.ret (.bool r))) s):=.of_wp λprog w A R s h=>by
  obtain⟨G,g,d,H,os⟩:=s;obtain⟨F,L,t,h⟩:=h;have N:=AutoSeq1.sub_tuple_tuple;wp_walk using ET F,ET L,wpAny_forIn_list _ (λAH b u=>b.1=J/\u=#[G,g,d,H,os]/\∃(m o:U Aa),AH=m.zip o /\
   FJ A.in1 #[G,g,d,H,os] m o r/\m.length+a.size=o.length+items.size) _
  case turn=>
   rintro⟨y,x⟩ AH b u ⟨j,rfl,m,o,e,f,c⟩;cases f with
   |nn=>simp[List.zip_nil_left]at e
   |nc=>simp[List.zip_nil_left]at e
   |cn=>simp[List.zip_nil_right]at e
   |eq v z=>
    rw[Kx]at e;injection e with k i
    injection k with B C
    subst B C;erw[Cg]at c;refine Al<|v prog w _ _ ?_;wp_walk;exact⟨rfl,rfl,_,_,i,z,by lia⟩
   |ne v z=>
    rw[Kx]at e;injection e with k i
    injection k with B C
    subst B C;refine Al<|v prog w _ _ ?_;have E:=z prog w;wp_walk using E;exact#[_,rfl,by simpa using h]
  case fin=>
   rintro⟨K,Q⟩ u ⟨j,rfl,m,o,e,f,c⟩;simp only at j;subst j;have M:r=decide (items.size<a.size):=by
    cases f with
    |nn=>
     erw[EG]at c;exact(decide_eq_false (by lia)).symm
    |nc=>
     erw[EG,Cg]at c;exact(decide_eq_true (by lia)).symm
    |cn=>
     erw[EG,Cg]at c;exact(decide_eq_false (by lia)).symm
    |eq _ _=>simp[Kx]at e
    |ne _ _=>simp[Kx]at e
   rw[M]at h;wp_walk;exact#[_,rfl,by simpa[Builtin.Tuple.tupleCompareSizes]using h]
  case h=>
   exact#[rfl,rfl,items.toList,a.toList,rfl,t,by simp;exact Nat.add_comm items.size a.size]
theorem nb(l b:Ac)(items c:Array Aa)(n n2:Nat)(dd y:O Ac)(E z:Array (O Aa))(r:Bool)(k:Nat):∀i:Nat,items.size-i=k->Meets (Fk.«list.__eq__.loop» #[[.ref l,.ref b,AV i,AV 0],[]]) (λA R s=>s.heap.get? l=Z {cls:=.type "list",dict:=dd,data:=.seq items n,slots:=E}/\s.heap.get? b=Z {cls:=.type "list",dict:=y,data:=.seq c n2,slots:=z}/\FJ A.in1 s (items.toList.drop i) (c.toList.drop i) r/\(i<=items.size/\i<=c.size)/\R (.ok (.ret (.bool r))) s):=by
 induction k with
 |zero=>
  intro i B prog w A R s h;obtain⟨G,g,d,H,os⟩:=s;obtain⟨o,p,e,⟨K,F⟩,h⟩:=h;wp_walk using ET o,ET p;have j:items[((i:Nat):Int).toNat]?=J:=by simp;exact Nat.le_of_sub_eq_zero B
  have hd:items.toList.drop i=[]:=MS (by simp;lia);rw[hd]at e;rw[j];have q:r=decide (items.size<c.size):=by
   cases x:c.toList.drop i with
   |nil=>
    rw[x]at e;have:=congrArg Kq x;simp at this;cases e;exact(decide_eq_false (by lia)).symm
   |cons a t=>
    rw[x]at e;have:=congrArg Kq x;simp at this;cases e;exact(decide_eq_true (by lia)).symm
  rw[q]at h;wp_walk using ET o,ET p;exact h
 |succ k L=>
  intro i B prog w A R s h;obtain⟨G,g,d,H,os⟩:=s;obtain⟨o,p,e,⟨K,F⟩,h⟩:=h;wp_walk using ET o,ET p;have u:i<items.size:=LM B;have j:items[((i:Nat):Int).toNat]?=Z items[i]:=by simp[u]
  have hd:items.toList.drop i=items[i]::items.toList.drop (i+1):=by rw[MU (by simpa using u)];simp
  have M:((i:Int)+1)=((i+1:Nat):Int):=by push_cast;rfl
  rw[hd]at e;rw[j];by_cases f:i<c.size
  ·have m:c[((i:Nat):Int).toNat]?=Z c[i]:=by simp[f]
   have v:c.toList.drop i=c[i]::c.toList.drop (i+1):=by rw[MU (by simpa using f)];simp
   rw[v]at e;rw[m];cases e with
   |eq e q=>
    refine Al<|e prog w _ _ ?_;wp_walk;rw[M];exact⟨LN plain_eq_loop _,JC entry_eq_loop (by
     rw[Around.under_plainId plain_eq_loop _];exact L (i+1) (by lia) prog w A R _ ⟨o,p,q,⟨u,f⟩,h⟩)⟩
   |ne e q=>
    refine Al<|e prog w _ _ ?_;wp_walk using ET o,ET p;rw[j,m];have C:=q prog w;wp_walk using C;exact h
  ·have m:c[((i:Nat):Int).toNat]?=J:=by simp;exact Kw f
   have v:c.toList.drop i=[]:=MS (by simp;lia);rw[v]at e;rw[m];have q:r=decide (items.size<c.size):=by
    cases e;exact(decide_eq_false (by lia)).symm
   rw[q]at h;wp_walk using ET o,ET p;exact h
theorem Yg(l b:Ac)(items a:Array Aa)(n n2:Nat)(dd c:O Ac)(f e:Array (O Aa))(r:Bool):Meets (Fk.«list.__lt__» #[[.ref l,.ref b],[]]) (λA R s=>s.heap.get? l=Z {cls:=.type "list",dict:=dd,data:=.seq items n,slots:=f}/\s.heap.get? b=Z {cls:=.type "list",dict:=c,data:=.seq a n2,slots:=e}/\FJ A.in1 s items.toList a.toList r/\R (.ok (.ret (.bool r))) s):=by
 intro prog w A R s h;obtain⟨m,g,d,o,os⟩:=s;obtain⟨i,j,k,h⟩:=h;have p:=AutoSeq1.sub_list_list;wp_walk using ET i,ET j;exact#[LN plain_eq_loop _,JC entry_eq_loop (by
  rw[Around.under_plainId plain_eq_loop _];exact nb l b items a n n2 dd c f e r _ 0 rfl prog w A R _ #[i,j,k,#[FD _,FD _],h])]
end
section
variable{prog:AM}{w:Ai}{A:Ag}{s:Ab}
theorem ng{l b:Ac}{a:Array Aa}{r:Bool}{Q:AL}(m:IsTup s.heap l items)(o:IsTup s.heap b a)(p:FJ A.in1 s items.toList a.toList r) (q:A.units<Aq) (h:Q (.bool r) s):wpAny (Af prog w) A (richCompare .Lt (.ref l) (.ref b)) Q E s:=by
 obtain⟨⟨cls,t,data,u⟩,i,j,n,hd⟩:=id m;obtain⟨⟨k,f,data2,g⟩,c,d,n2,e⟩:=id o;simp only at j hd d e
 subst j hd d e
 exact richCompare_meets_room #[_,i,rfl] #[_,c,rfl] PySem.F.slot_tuple_lt PySem.F.entry_tuple_lt (PySem.F.args_tuple_lt_2 _ _) (na l b items a n n2 t f u g r)
  #[i,c,p,show Value.bool r≠Value.notImplemented/\Q (.bool r) s from#[(λx=>nomatch x),h]] q
theorem ni{l b:Ac}{a:Array Aa}{r:Bool}{n n2:Nat}{c:O Ac}{e d:Array (O Aa)}{Q:AL}(f:s.heap.get? l=Z {cls:=.type "list",dict:=dd,data:=.seq items n,slots:=e})(g:s.heap.get? b=Z {cls:=.type "list",dict:=c,data:=.seq a n2,slots:=d})(i:FJ A.in1 s items.toList a.toList r) (j:A.units<Aq) (h:Q (.bool r) s):wpAny (Af prog w) A (richCompare .Lt (.ref l) (.ref b)) Q E s:=richCompare_meets_room #[_,f,rfl] #[_,g,rfl] PySem.F.slot_list_lt PySem.F.entry_list_lt (PySem.F.args_list_lt_2 _ _) (Yg l b items a n n2 dd c e d r)
  #[f,g,i,show Value.bool r≠Value.notImplemented/\Q (.bool r) s from#[(λx=>nomatch x),h]] j
end
noncomputable def nj:V->V->O Bool
 |.int i,.int j=>Z (decide (i<j))
 |.str a,.str b=>Z (decide (a.cps.toList<b.cps.toList))
 |_,_=>J
noncomputable def A4:U V->U V->O Bool
 |[],[]=>Z O'
 |[],_::_=>Z J'
 |_::_,[]=>Z O'
 |x::a,y::b=>if(X4 x&&X4 y)=J' then(if mE x y=J' then A4 a b else nj x y)else J
theorem Sj(x:Ae):x.cps.toList.length=x.length:=by simp[Str.length]
def MV(K:Ao):Sp:=λb H Q _=>∃(a:Ac)(ns:U Int),b=[.ref a]/\BL K H a (ns.map V.int)/\ns.length<=63/\∀c,Q (.bl J') c
theorem Yh{p:Ac}{o:HO}(h:H p=J):Ah H (AG H p o):=λb u e=>by rw[Zm<|ZW e h];exact e
theorem Ky{A B:Prop}(h:A):(if J'=J' then A else B):=by grind
theorem Kz{A B:Prop}(h:B):(if O'=J' then A else B):=by grind
inductive Kd where
 |l|d|i (ns:List Ae) (c:Ae)
variable{fl k':Kd}
noncomputable def OY(K:Ao)(c:Ae):Ac:=match PySem.W.nsIn K BU c with
 |some (Z (.ref C))=>C
 |_=>0
inductive D where
 |non|bl (b:Bool)|int (i:Int)|str (x:Ae)|ty (n:String)|tup (xs:List D)|lst (xs:List D) (b:Kd:=.l)
variable{SC xs:U D}
abbrev Eg:=U D->O D
abbrev A0:=O (U D)
noncomputable def Sk:D->At
 |.int i=>.int i
 |.str x=>.str x
 |_=>.non
def MW:D->KT
 |.tup l=>.tup (l.map Sk)
 |d=>.at (Sk d)
def JD:U D->U KT
 |k::_::r=>MW k::JD r
 |_=>[]
def CO(K:Ao)(b:Kd)(a:Ac)(xs:U D)(vs:U V):HO:=match b with
 |.l=>.lst vs
 |.d=>.dct (JD xs) vs
 |.i ns c=>.ins (OY K c) (a-1) (ns.zip vs)
def FL:HO->Bool
 |.lst _=>J'
 |.dct _ _=>J'
 |.ins _ _ _=>J'
 |_=>O'
theorem Yi(K:Ao)(b:Kd)(a:Ac)(xs:U D)(vs:U V):FL (CO K b a xs vs)=J':=by cases b<;>rfl
abbrev Fb:=Ac->Prop
def KL(K:Ao)(a:Ac)(vs:U V):Prop:=BL K (λ_=>J) a vs
def LstAt(K:Ao)(N:Fb)(H:Hp)(a:Ac)(o:HO):Prop:=(¬ N a/\Rd H a o)\/∃b,o=.lst b/\KL K a b
theorem KL.sq{K:Ao}(h:KL K a vs):BL K H a vs:=by
 rcases h with(h|⟨o,h⟩)|h
 ·cases h
 ·cases h
 ·exact .inr h
theorem LstAt.sq{K:Ao}{N:Fb}(h:LstAt K N H a (.lst vs)):BL K H a vs:=by
 rcases h with⟨_,h⟩|⟨b,e,h⟩
 ·exact .inl h
 ·cases e;exact h.sq
theorem LstAt.of{K:Ao}{N:Fb}{o:HO}(n:¬ N a)(h:H a=Z o):LstAt K N H a o:=.inl #[n,.inl h]
theorem LstAt.of_sq{K:Ao}(h:BL K H a vs):LstAt K (λ_=>False) H a (.lst vs):=by
 rcases h with h|h
 ·exact .inl #[id,h]
 ·exact .inr #[vs,rfl,.inr h]
mutual
def As(K:Ao)(N:Fb)(H:Hp):D->V->Prop
 |.non,v=>v=.non
 |.bl b,v=>v=.bl b
 |.int i,v=>v=.int i
 |.str x,v=>v=.str x
 |.ty n,v=>v=.ty n
 |.tup d,v=>∃a c,v=.ref a/\B3 K H a c/\Ad K N H d c
 |.lst d b,v=>∃a c,v=.ref a/\LstAt K N H a (CO K b a d c)/\Ad K N H d c
def Ad(K:Ao)(N:Fb)(H:Hp):U D->U V->Prop
 |[],a=>a=[]
 |x::b,a=>∃v r,a=v::r/\As K N H x v/\Ad K N H b r
end
structure Step(M N N':Fb)(H H':Hp):Prop where
 kp:∀a o,H a=Z o->(¬ N a\/M a\/FL o=O')->H' a=Z o
 nw:∀a,N' a->N a\/H a=J
theorem Step.trans{M N d f:Fb}{g i:Hp}(a:Step M N d H g)(b:Step M d f g i):Step M N f H i where
 kp:=λc o h z=>by
  have j:=a.kp c o h z;refine b.kp c o j ?_;rcases z with z|z|z
  ·refine .inl λn1=>?_;rcases a.nw c n1 with q|q
   ·exact z q
   ·simp[h]at q
  ·exact .inr<|.inl z
  ·exact .inr<|.inr z
 nw:=λc n2=>by
  rcases b.nw c n2 with q|q
  ·exact a.nw c q
  ·cases e:H c with|none=>exact .inr rfl|some o=>
    refine .inl<|Classical.byContradiction λz=>?_;rw[a.kp c o e<|.inl z]at q;cases q
theorem Step.of_same{M N:Fb}(s:Ah H H'):Step M N N H H':=#[λa o h _=>s a o h,λa h=>.inl h]
theorem Step.refl{M N:Fb}:Step M N N H H:=Step.of_same<|Ah.refl H
theorem Rd.step{M N b:Fb}{u:HO}(s:Step M N b H H')(h:Rd H a u)(z:¬ N a\/M a\/FL u=O'):Rd H' a u:=by
 rcases h with h|⟨o,h⟩
 ·exact .inl<|s.kp a u h z
 ·exact .inr #[o,s.kp a _ h<|.inr<|.inr rfl]
theorem Rd.same{u:HO}(s:Ah H H')(h:Rd H a u):Rd H' a u:=by
 rcases h with h|⟨o,h⟩
 ·exact .inl<|s a u h
 ·exact .inr #[o,s a _ h]
theorem B3.step{K:Ao}{M N b:Fb}{xs:U V}(s:Step M N b H H')(h:B3 K H a xs):B3 K H' a xs:=by
 rcases h with h|h
 ·exact .inl<|h.step s<|.inr<|.inr rfl
 ·exact .inr h
theorem B3.same{K:Ao}{xs:U V}(s:Ah H H')(h:B3 K H a xs):B3 K H' a xs:=B3.step (M:=λ_=>False) (N:=λ_=>False) (Step.of_same s) h
theorem Rd.has{u:HO}(h:Rd H a u):H a≠J:=by
 rcases h with h|⟨o,h⟩<;>rw[h]<;>exact λe=>nomatch e
mutual
theorem As.step{K:Ao}{M N f:Fb}{H H':Hp}(s:Step M N f H H'):∀(d:D)(v:V),As K N H d v->As K f H' d v
 |.non,_,h=>h
 |.bl _,_,h=>h
 |.int _,_,h=>h
 |.str _,_,h=>h
 |.ty _,_,h=>h
 |.tup c,v,h=>by
  erw[As]at h ⊢
  obtain⟨a,b,e,q,r⟩:=h
  exact#[a,b,e,q.step s,Ad.step s c b r]
 |.lst c i,v,h=>by
  erw[As]at h ⊢
  obtain⟨a,b,e,q,r⟩:=h
  refine#[a,b,e,?_,Ad.step s c b r]
  rcases q with⟨n,q⟩|q
  ·refine .inl #[λg=>?_,q.step s (.inl n)]
   rcases s.nw a g with z|z
   ·exact n z
   ·exact q.has z
  ·exact .inr q
theorem Ad.step{K:Ao}{M N a:Fb}{H H':Hp}(s:Step M N a H H'):∀(xs:U D)(vs:U V),Ad K N H xs vs->Ad K a H' xs vs
 |[],_,h=>h
 |x::xs,vs,h=>by
  erw[Ad]at h ⊢
  obtain⟨v,r,e,q,t⟩:=h
  exact#[v,r,e,As.step s x v q,Ad.step s xs r t]
end
section
variable{K:Ao}{M N N':Fb}{d:D}{v:V}{ys:U D}{ws:U V}
theorem As.same(h:As K N H d v)(s:Ah H H'):As K N H' d v:=As.step (M:=N) (Step.of_same s) d v h
theorem Ad.same(h:Ad K N H xs vs)(s:Ah H H'):Ad K N H' xs vs:=Ad.step (M:=N) (Step.of_same s) xs vs h
theorem As.nw(h:As K N H d v)(z:∀a,N' a->N a\/H a=J):As K N' H d v:=As.step (M:=N) (H':=H) #[λ_ _ h _=>h,z] d v h
theorem Ad.nw(h:Ad K N H xs vs)(z:∀a,N' a->N a\/H a=J):Ad K N' H xs vs:=Ad.step (M:=N) (H':=H) #[λ_ _ h _=>h,z] xs vs h
theorem Ad.length:∀{xs:U D}{vs:U V},Ad K N H xs vs->xs.length=vs.length
 |[],_,h=>by erw[Ad]at h;subst h;rfl
 |_::xs,_,h=>by erw[Ad]at h;obtain⟨v,r,rfl,_,t⟩:=h;simp[Ad.length t]
theorem Ad.get:∀{xs:U D}{vs:U V}{i:Nat}{d:D},Ad K N H xs vs->xs[i]?=Z d->∃v,vs[i]?=Z v/\As K N H d v
 |[],_,i,d,_,e=>by simp at e
 |x::xs,_,0,d,h,e=>by
  erw[Ad]at h;obtain⟨v,r,rfl,q,_⟩:=h;simp at e;subst e;exact#[v,rfl,q]
 |x::xs,_,i+1,d,h,e=>by
  erw[Ad]at h;obtain⟨v,r,rfl,_,t⟩:=h;obtain⟨w,b,c⟩:=Ad.get t (by simpa using e);exact#[w,by simpa using b,c]
theorem Ad.get':∀{xs:U D}{vs:U V}{i:Nat}{v:V},Ad K N H xs vs->vs[i]?=Z v->∃d,xs[i]?=Z d/\As K N H d v:=by
 intro xs vs i v h e;have f:=h.length;have g:=(C8.mp e).1;have a:xs[i]?=Z xs[i]:=CK (by lia);obtain⟨w,b,c⟩:=h.get a;rw[e]at b;cases b;exact#[_,a,c]
theorem Ad.append:∀{xs ys:U D}{vs ws:U V},Ad K N H xs vs->Ad K N H ys ws->Ad K N H (xs++ys) (vs++ws)
 |[],_,_,_,h,a=>by erw[Ad]at h;subst h;exact a
 |x::xs,ys,_,ws,h,a=>by
  erw[Ad]at h;obtain⟨v,r,rfl,q,t⟩:=h;erw[Ga,Ad];exact#[v,r++ws,rfl,q,Ad.append t a]
theorem Ad.nil:Ad K N H [] []:=by erw[Ad]
theorem Ad.cons(h:As K N H d v)(t:Ad K N H xs vs):Ad K N H (d::xs) (v::vs):=by erw[Ad];exact#[v,vs,rfl,h,t]
theorem Ad.take:∀{xs:U D}{vs:U V}(n:Nat),Ad K N H xs vs->Ad K N H (xs.take n) (vs.take n)
 |_,_,0,_=>by simpa using Ad.nil
 |[],_,n+1,h=>by erw[Ad]at h;subst h;simpa using Ad.nil
 |x::xs,_,n+1,h=>by
  erw[Ad]at h;obtain⟨v,r,rfl,q,t⟩:=h;simpa using Ad.cons q<|Ad.take n t
theorem Ad.drop:∀{xs:U D}{vs:U V}(n:Nat),Ad K N H xs vs->Ad K N H (xs.drop n) (vs.drop n)
 |_,_,0,h=>by simpa using h
 |[],_,n+1,h=>by erw[Ad]at h;subst h;simpa using Ad.nil
 |x::xs,_,n+1,h=>by
  erw[Ad]at h;obtain⟨v,r,rfl,q,t⟩:=h;simpa using Ad.drop n t
theorem Ad.set:∀{xs:U D}{vs:U V}(i:Nat),Ad K N H xs vs->As K N H d v->Ad K N H (xs.set i d) (vs.set i v)
 |[],_,_,h,_=>by erw[Ad]at h;subst h;simpa using Ad.nil
 |x::xs,_,0,h,q=>by
  erw[Ad]at h;obtain⟨v,r,rfl,_,t⟩:=h;simpa using Ad.cons q t
 |x::xs,_,i+1,h,q=>by
  erw[Ad]at h;obtain⟨v,r,rfl,a,t⟩:=h;simpa using Ad.cons a<|Ad.set i t q
theorem Ad.ints:∀(ns:U Int),Ad K N H (ns.map D.int) (ns.map V.int)
 |[]=>Ad.nil
 |n::ns=>Ad.cons (by erw[As])<|Ad.ints ns
end
inductive Sl where
 |no|val (d:D)|own (xs:List D) (b:Kd:=.l) (oa:Option Ac:=J)|lent (xs:List D) (b:Kd:=.l)|exc (c:Ae)
def Fl(e C:Ac)(h:Ak):Prop:=∃o a,h.get? e=Z o/\o.cls=.ref C/\o.data=.fields a/\a[2]?=Z .none
abbrev VE:=U Sl
variable{ρ:VE}{fo:VE->O Sl}{fx:VE->O (D×VE)}
abbrev DD:=VE->O (U Sl)
variable{fa:DD}
abbrev AB:=VE->O D
def Nf(M:Fb)(ρ:VE)(I:St):Fb:=λa=>M a\/∃(i:Nat)(c:U D)(b:Kd)(d:O Ac),ρ[i]?=Z (Sl.own c b d)/\I[i]?=Z (Z (V.ref a))
def Sn(K:Ao)(M N:Fb)(H0 H:Hp):Sl->O V->Prop
 |.no,_=>True
 |.val d,o=>∃v,o=Z v/\As K N H d v
 |.own e b g,o=>∃a f,o=Z (.ref a)/\(H0 a=J/\∀c,g=Z c->c=a)/\¬ M a/\H a=Z (CO K b a e f)/\Ad K N H e f
 |.lent e b,o=>∃a f,o=Z (.ref a)/\(M a/\H0 a≠J)/\Rd H a (CO K b a e f)/\Ad K N H e f
 |.exc c,o=>∃a C,o=Z (.ref a)/\PySem.W.nsIn K BU c=Z (Z (.ref C))/\H a=Z (.ext (Fl a C))
structure Bh(K:Ao)(M:Fb)(H0:Hp)(ρ:VE)(I:St)(H:Hp):Prop where
 len:ρ.length=I.length
 same:Ah H0 H
 mh:∀a,M a->H a≠J
 slot:∀(i:Nat) (s:Sl),ρ[i]?=Z s->Sn K M (Nf M ρ I) H0 H s (I[i]?.join)
 inj:∀(i j:Nat) (xs ys:List D) (b b':Kd) (oa oa':Option Ac) (a:Ac),ρ[i]?=Z (Sl.own xs b oa)->ρ[j]?=Z (Sl.own ys b' oa')->I[i]?=Z (Z (V.ref a))->I[j]?=Z (Z (V.ref a))->i=j
section
variable{K:Ao}{M:Fb}
theorem Bh.nh(R:Bh K M H0 ρ I H):∀a,Nf M ρ I a->H a≠J:=by
 rintro a (h|⟨i,g,j,k,c,d⟩)
 ·exact R.mh a h
 ·obtain⟨b,l,e,_,_,q,_⟩:=R.slot i _ c;rw[d]at e;have f:b=a:=by simpa using e.symm
  rw[<- f,q];exact λz=>nomatch z
theorem Bh.st(R:Bh K M H0 ρ I H)(s:Ah H H'):Bh K M H0 ρ I H' where
 len:=R.len;same:=R.same.trans s;mh:=λa h z=>R.mh a h<|s.free z;slot:=λi k e=>by
  have q:=R.slot i k e;cases k with
  |no=>trivial
  |val d=>obtain⟨v,e,h⟩:=q;exact#[v,e,h.same s]
  |own l m o=>obtain⟨a,g,e,b,f,j,n⟩:=q;exact#[a,g,e,b,f,s _ _ j,n.same s]
  |lent l m=>obtain⟨a,g,e,b,f,j⟩:=q;exact#[a,g,e,b,f.same s,j.same s]
  |exc c=>obtain⟨a,C,e,b,f⟩:=q;exact#[a,C,e,b,s _ _ f]
 inj:=R.inj
theorem Bh.fresh(R:Bh K M H0 ρ I H){p:Ac}(h:H p=J):¬ Nf M ρ I p:=λn=>R.nh p n h
end
def tD(K:Ao)(M:Fb)(H0:Hp)(f:AB):TE:=λc H Q=>∃a d,Bh K M H0 a c H/\f a=Z d/\∀v b,Ah H b->As K (Nf M a c) b d v->Q v b
def Aw(K:Ao)(N:Fb)(H:Hp)(d:D)(v:V):Prop:=match d with
 |.lst e=>∃a c,v=.ref a/\BL K H a c/\Ad K N H e c
 |.lst e b=>∃a c,v=.ref a/\Rd H a (CO K b a e c)/\Ad K N H e c
 |d=>As K N H d v
theorem As.p{K:Ao}{N:Fb}{d:D}{v:V}(h:As K N H d v):Aw K N H d v:=by
 cases d with
 |lst f c=>
  obtain⟨a,b,e,q,r⟩:=h;cases c with|l=>exact#[a,b,e,LstAt.sq q,r]|_=>
   rcases q with⟨_,q⟩|⟨g,z,_⟩
   ·exact#[a,b,e,q,r]
   ·cases z
 |_=>exact h
theorem Aw.same{K:Ao}{N:Fb}{d:D}{v:V}(h:Aw K N H d v)(s:Ah H H'):Aw K N H' d v:=by
 cases d with
 |lst f c=>
  cases c with
  |l=>obtain⟨a,b,e,q,r⟩:=h;exact#[a,b,e,s.seq q,r.same s]
  |_=>obtain⟨a,b,e,q,r⟩:=h;exact#[a,b,e,q.same s,r.same s]
 |_=>exact As.same h s
theorem So{K:Ao}{N:Fb}(h:Rd H a (CO K fl a xs vs))(r:Ad K N H xs vs):Aw K N H (.lst xs fl) (.ref a):=by
 cases fl with
 |l=>exact#[a,vs,rfl,.inl h,r]
 |_=>exact#[a,vs,rfl,h,r]
def tP(K:Ao)(M:Fb)(H0:Hp)(f:AB):TE:=λc H Q=>∃a d,Bh K M H0 a c H/\f a=Z d/\∀v b,Ah H b->Aw K (Nf M a c) b d v->Q v b
def Fm(fl:Kd)(K:Ao)(M:Fb)(H0:Hp)(f:VE->A0):TE:=λg H Q=>∃d e,Bh K M H0 d g H/\f d=Z e /\
 ∀a h c,Ah H c->H a=J->c a=Z (CO K fl a e h)->Ad K (λb=>Nf M d g b\/b=a) c e h->Q (.ref a) c
@[reducible] def tF(K:Ao)(M:Fb)(H0:Hp)(f:VE->A0):TE:=Fm .l K M H0 f
def BQ(K:Ao)(M:Fb)(H0:Hp)(f:VE->O Bool):TT:=λd H Q=>∃a b,Bh K M H0 a d H/\f a=Z b/\∀c,Ah H c->Q b c
structure JE(X:Cx)(e:Expr)(t:TE):Prop where h:PE X e t
structure JT(X:Cx)(e:Expr)(t:TT):Prop where h:PT X e t
structure JW(X:Cx)(e:Expr)(t:TT):Prop where h:PW X e t
structure JA(X:Cx)(e:List Expr)(t:TA):Prop where h:PA X e t
structure JS(X:Cx)(e:Az)(t:TS):Prop where h:PS X e t
structure JB(X:Cx)(e:List Az)(t:TS):Prop where h:EC X e t
structure JI(X:Cx)(tg e:Expr)(t:TI):Prop where h:PI X tg e t
structure JG(X:Cx)(e:Expr)(t:TG):Prop where h:PG X e t
structure JK(X:Cx)(e:List Expr)(t:Ik):Prop where h:MF X e t
structure JO(X:Cx)(e:Option Expr)(t:TO):Prop where h:PO X e t
structure JF(X:Cx)(e:List Expr)(t:TT):Prop where h:G7 X e t
theorem PE.mono{e:Expr}{t t':TE}(h:PE X e t)(m:∀I H Q,t' I H Q->t I H Q):PE X e t':=λa s I H Q b q=>h a s I H Q b<|m I H Q q
theorem PT.mono{e:Expr}{t t':TT}(h:PT X e t)(m:∀I H Q,t' I H Q->t I H Q):PT X e t':=λa s I H Q b q=>h a s I H Q b<|m I H Q q
theorem PW.mono{e:Expr}{t t':TT}(h:PW X e t)(m:∀I H Q,t' I H Q->t I H Q):PW X e t':=λwh a s I H Q b q=>h wh a s I H Q b<|m I H Q q
theorem PA.mono{e:U Expr}{t t':TA}(h:PA X e t)(m:∀I H Q,t' I H Q->t I H Q):PA X e t':=λb a s I H Q c q=>h b a s I H Q c<|m I H Q q
theorem PS.mono{e:Az}{t t':TS}(h:PS X e t)(m:∀D I H,t' D I H->t D I H):PS X e t':=λa s I H D b q=>h a s I H D b<|m D I H q
theorem EC.mono{e:U Az}{t t':TS}(h:EC X e t)(m:∀D I H,t' D I H->t D I H):EC X e t':=λa s I H D b q=>h a s I H D b<|m D I H q
section
variable{K:Ao}{M:Fb}{e a b:Expr}{f g:AB}
theorem PE.p(h:PE X e (tD K M H0 f)):PE X e (tP K M H0 f):=h.mono λc H Q ⟨a,d,R,e,q⟩=>#[a,d,R,e,λv b s z=>q v b s z.p]
theorem Yj(h:JE X e (tD K M H0 f)):JE X e (tP K M H0 f):=#[PE.p h.h]
@[simp] def Zw(o:A0):O D:=o.map D.lst
theorem PE.fd{f:VE->A0}(h:PE X e (tF K M H0 f)):PE X e (tD K M H0 λρ=>Zw (f ρ)):=h.mono λo H Q c=>by
 obtain⟨ρ,d,R,e,q⟩:=c;obtain⟨g,i,e⟩:=B0.mp e;cases e;refine#[ρ,g,R,i,λa j p s k l m=>q _ _ s ?_];refine#[a,j,rfl,.of (R.fresh k) l,m.nw λb n=>.inl<|.inl n]
theorem nk{f:VE->A0}(h:JE X e (tF K M H0 f)):JE X e (tD K M H0 λρ=>Zw (f ρ)):=#[PE.fd h.h]
@[simp] def Bb(ρ:VE)(i:Nat):O D:=match ρ[i]? with
  |some (.val d)=>Z d
  |_=>J
@[simp] noncomputable def AU(ρ:VE)(i:Nat):O D:=match ρ[i]? with
  |some (.val d)=>Z d
  |some (.own a b _)=>Z (.lst a b)
  |some (.lent a b)=>Z (.lst a b)
  |_=>J
theorem nl{i:Nat}{d:D}(h:Bb ρ i=Z d):ρ[i]?=Z (.val d):=by grind [Bb]
theorem nq{i:Nat}{x:Ae}(a:NV X i x):PE X (.Name x pos) (tD K M H0 λρ=>Bb ρ i):=(Gy a).mono λc H Q b=>by
  obtain⟨ρ,d,R,e,q⟩:=b;obtain⟨v,f,h⟩:=R.slot i _<|nl e;refine⟨v,?_,q v H (Ah.refl H) h⟩;grind
theorem nr{i:Nat}{x:Ae}(j:NV X i x):PE X (.Name x pos) (tP K M H0 λρ=>AU ρ i):=(Gy j).mono λc H Q k=>by
  obtain⟨ρ,d,R,e,q⟩:=k;try dsimp only at e q
  have fin:∀v,c[i]?.join=Z v->Aw K (Nf M ρ c) H d v->∃v,c[i]?=Z (Z v)/\Q v H:=λv b h=>by
   grind [Ah.refl]
  unfold AU at e;split at e
  ·next h=>cases e;obtain⟨v,b,h⟩:=R.slot i _ h;exact fin v b h.p
  ·next h=>cases e;obtain⟨a,l,b,_,_,f,g⟩:=R.slot i _ h;exact fin _ b<|So (.inl f) g
  ·next h=>cases e;obtain⟨a,l,b,_,f,g⟩:=R.slot i _ h;exact fin _ b<|So f g
  ·cases e
theorem LO{d:D}{v:V}{e:Expr}(h:PE X e (tC v))(hd:∀N H,As K N H d v):PE X e (tD K M H0 λ_=>Z d):=h.mono λa H Q ⟨b,c,R,e,q⟩=>by(try dsimp only at e q);cases e;exact q v H (Ah.refl H)<|hd _ _
theorem Yk {i j pos}:JE X (.Constant (.int i) j pos) (tD K M H0 λ_=>Z (.int i)):=#[LO j9 λ_ _=>by erw[As]]
theorem nt {i j pos}:JE X (.Constant (.bool i) j pos) (tD K M H0 λ_=>Z (.bl i)):=#[LO ka λ_ _=>by erw[As]]
theorem nu {j pos}:JE X (.Constant .none j pos) (tD K M H0 λ_=>Z .non):=#[LO kc λ_ _=>by erw[As]]
theorem nv {i j pos}:JE X (.Constant (.str i) j pos) (tD K M H0 λ_=>Z (.str i)):=#[LO kf λ_ _=>by erw[As]]
def Eh(K:Ao)(r:R2)(F:D->D->O D):Prop:=∀(N:Fb)(H:Hp)(x y:V)(c e d:D)(Q:VK),(∀a,N a->H a≠J)->Aw K N H c x->Aw K N H e y->F c e=Z d ->
 (∀v b,Ah H b->As K N b d v->Q v b)->r x y H Q
@[simp] def Za(F:D->D->O D)(f g:AB):AB:=λa=>(f a).bind λx=>(g a).bind λy=>F x y
theorem Yl{F:D->D->O D}{f g:AB}{d:D}(h:Za F f g ρ=Z d):∃x y,f ρ=Z x/\g ρ=Z y/\F x y=Z d:=by
 unfold Za at h;cases a:f ρ with|none=>simp[a]at h|some x=>
  cases b:g ρ with
  |none=>simp[a,b]at h
  |some y=>rw[a,b]at h;exact#[x,y,rfl,rfl,h]
theorem OZ{r:R2}{F:D->D->O D}(i:Eh K r F){Q:VK}(h:tD K M H0 (Za F f g) I H Q):Ly r (tP K M H0 f) (tP K M H0 g) I H Q:=by
 obtain⟨a,d,R,e,q⟩:=h;obtain⟨x,y,j,k,l⟩:=Yl e;exact#[a,x,R,j,λv z b m=>#[a,y,R.st b,k,λu n c o=>i (Nf M a I) n v u x y d Q ((R.st b).st c).nh (m.same c) o l λw p s t=>q w p ((b.trans c).trans s) t]]
theorem LP{op:Operator}{r:R2}{F:D->D->O D}(c:Ca X (GZ op) r)(d:Eh K r F)(e:PE X a (tP K M H0 f))(i:PE X b (tP K M H0 g)):PE X (.BinOp a op b pos) (tD K M H0 (Za F f g)):=(lf c e i).mono λ_ _ _ h=>OZ d h
theorem MY{op:CmpOp}{r:R2}{F:D->D->O D}(c:Ca X (DC op) r)(d:Eh K r F)(e:PE X a (tP K M H0 f))(i:PE X b (tP K M H0 g))(j:GV op b=O'):PE X (.Compare a [op] [b] pos) (tD K M H0 (Za F f g)):=(ly c e i j).mono λ_ _ _ h=>OZ d h
theorem Ym{r:R2}{F:D->D->O D}(c:G5 X r)(d:Eh K r F)(e:PE X a (tP K M H0 f))(i:PE X b (tP K M H0 g))(j:MR b):PE X (.Subscript a b pos) (tD K M H0 (Za F f g)):=(ms c e i j).mono λ_ _ _ h=>OZ d h
@[simp] def AE:O D->O Bool
  |some (.bl b)=>Z b
  |_=>J
theorem LQ{o:O D}{b:Bool}(h:AE o=Z b):o=Z (.bl b):=by
 unfold AE at h;grind
theorem ny{t:TE}{Q:Bool->Hp->Prop}(a:∀I H Q,tD K M H0 f I H Q->t I H Q)(h:BQ K M H0 (λρ=>AE (f ρ)) I H Q):tB t I H Q:=by
 obtain⟨ρ,b,R,e,q⟩:=h;refine a I H _ #[ρ,.bl b,R,LQ e,λv d s c=>?_];erw[As]at c;simp_all
theorem JH{op:CmpOp}{r:R2}{F:D->D->O D}(c:Ca X (DC op) r)(d:Eh K r F)(e:PE X a (tP K M H0 f))(h:PE X b (tP K M H0 g))(i:GV op b=O'):PT X (.Compare a [op] [b] pos) (BQ K M H0 λρ=>AE (Za F f g ρ)):=(Xs c e h i).mono λ_ _ _ q=>ny (λ_ _ _ z=>OZ d z) q
@[simp] def ZG(o:O Bool):O Bool:=o.map (!·)
@[simp] noncomputable def DQ(o p:O Bool):O Bool:=match o with
  |some J'=>p
  |some O'=>Z O'
  |none=>J
@[simp] def Cz(o p:O Bool):O Bool:=match o with
  |some J'=>Z J'
  |some O'=>p
  |none=>J
section
variable{c c':VE->O Bool}{AH:U Expr}
theorem nz(h:JT X a (BQ K M H0 c)):JT X (.UnaryOp .Not a pos) (BQ K M H0 λρ=>ZG (c ρ)):=#[have h:=h.h;(Xe h).mono λg H Q d=>by
 obtain⟨ρ,b,R,e,q⟩:=d;obtain⟨k,f,e⟩:=B0.mp e;cases e;exact#[ρ,k,R,f,q]]
theorem nA(h:JT X a (BQ K M H0 c)):JW X (.BoolOp .And [a] pos) (BQ K M H0 c):=#[have h:=h.h;km h]
theorem nB(h:JT X a (BQ K M H0 c)):JW X (.BoolOp .Or [a] pos) (BQ K M H0 c):=#[have h:=h.h;ko h]
theorem nC{Q:Bool->Hp->Prop}(h:BQ K M H0 (λρ=>DQ (c ρ) (c' ρ)) I H Q):Xc (BQ K M H0 c) (BQ K M H0 c') I H Q:=by
 obtain⟨ρ,b,R,e,q⟩:=h;try dsimp only at e q
 cases a:c ρ with|none=>simp[a]at e|some k=>
  rw[a]at e;refine#[ρ,k,R,a,λd s=>?_];cases k with
  |true=>exact#[ρ,b,R.st s,e,λf g=>q f<|s.trans g]
  |false=>cases e;exact q d s
theorem nE{Q:Bool->Hp->Prop}(h:BQ K M H0 (λρ=>Cz (c ρ) (c' ρ)) I H Q):Xd (BQ K M H0 c) (BQ K M H0 c') I H Q:=by
 obtain⟨ρ,b,R,e,q⟩:=h;try dsimp only at e q
 cases a:c ρ with|none=>simp[a]at e|some k=>
  rw[a]at e;refine#[ρ,k,R,a,λd s=>?_];cases k with
  |false=>exact#[ρ,b,R.st s,e,λf g=>q f<|s.trans g]
  |true=>cases e;exact q d s
theorem nG(h:JT X a (BQ K M H0 c))(h':JW X (.BoolOp .And (b::AH) pos) (BQ K M H0 c')):JW X (.BoolOp .And (a::b::AH) pos) (BQ K M H0 λρ=>DQ (c ρ) (c' ρ)):=#[have h:=h.h;have h':=h'.h;(kq h h').mono λ_ _ _ q=>nC q]
theorem nH(h:JT X a (BQ K M H0 c))(h':JW X (.BoolOp .Or (b::AH) pos) (BQ K M H0 c')):JW X (.BoolOp .Or (a::b::AH) pos) (BQ K M H0 λρ=>Cz (c ρ) (c' ρ)):=#[have h:=h.h;have h':=h'.h;(kr h h').mono λ_ _ _ q=>nE q]
@[simp] def Cn(o:O Bool):O D:=o.map D.bl
theorem LR{Q:VK}(h:tD K M H0 (λρ=>Cn (c ρ)) I H Q):∃ρ b,Bh K M H0 ρ I H/\c ρ=Z b/\∀H',Ah H H'->Q (.bl b) H':=by
 obtain⟨ρ,d,R,e,q⟩:=h;obtain⟨k,a,e⟩:=B0.mp e;cases e;exact#[ρ,k,R,a,λH' s=>q _ H' s (by erw[As])]
theorem nI(h:JE X a (tD K M H0 f)):JE X (.UnaryOp .Not a pos) (tD K M H0 λρ=>Cn (ZG (AE (f ρ)))):=#[have h:=h.h;(kA h).mono λg H Q q=>by
 obtain⟨ρ,b,R,e,q⟩:=LR q;obtain⟨k,c,e⟩:=B0.mp e;cases e;refine#[ρ,.bl k,R,LQ c,λv i s d=>?_];erw[As]at d;simp_all]
theorem nJ {op} (h:JE X a (tD K M H0 f)):JE X (.BoolOp op [a] pos) (tD K M H0 λρ=>Cn (AE (f ρ))):=#[have h:=h.h;(kx h).mono λg H Q q=>by
 obtain⟨ρ,b,R,e,q⟩:=LR q;exact#[ρ,.bl b,R,LQ e,λv d s c=>by erw[As]at c;subst c;exact q d s]]
theorem nK(h:JE X a (tD K M H0 f))(h':JE X (.BoolOp .And (b::AH) pos) (tD K M H0 λρ=>Cn (c' ρ))):JE X (.BoolOp .And (a::b::AH) pos) (tD K M H0 λρ=>Cn (DQ (AE (f ρ)) (c' ρ))):=#[have h:=h.h;have h':=h'.h;(ky h h').mono λm H Q q=>by
 obtain⟨ρ,b,R,e,q⟩:=LR q;cases c:AE (f ρ)with
 |none=>rw[c]at e;cases e
 |some k=>
  refine#[ρ,.bl k,R,LQ c,λv g s i=>?_];refine#[k,i,?_];rw[c]at e;cases k with
  |true=>exact#[ρ,.bl b,R.st s,by show Cn (c' ρ)=_;rw[show c' ρ=Z b from e];rfl,λw j l d=>by erw[As]at d;subst d;exact q j<|s.trans l]
  |false=>cases e;exact q g s]
theorem nM(h:JE X a (tD K M H0 f))(h':JE X (.BoolOp .Or (b::AH) pos) (tD K M H0 λρ=>Cn (c' ρ))):JE X (.BoolOp .Or (a::b::AH) pos) (tD K M H0 λρ=>Cn (Cz (AE (f ρ)) (c' ρ))):=#[have h:=h.h;have h':=h'.h;(kz h h').mono λm H Q q=>by
 obtain⟨ρ,b,R,e,q⟩:=LR q;cases c:AE (f ρ)with
 |none=>rw[c]at e;cases e
 |some k=>
  refine#[ρ,.bl k,R,LQ c,λv g s i=>?_];refine#[k,i,?_];rw[c]at e;cases k with
  |false=>exact#[ρ,.bl b,R.st s,by show Cn (c' ρ)=_;rw[show c' ρ=Z b from e];rfl,λw j l d=>by erw[As]at d;subst d;exact q j<|s.trans l]
  |true=>cases e;exact q g s]
@[simp] def MZ{d:Type}(c:O Bool)(a b:O d):O d:=match c with
  |some J'=>a
  |some O'=>b
  |none=>J
theorem nN{k:Expr}(i:JT X k (BQ K M H0 c))(j:JE X a (tD K M H0 f))(l:JE X b (tD K M H0 g)):JE X (.IfExp k a b pos) (tD K M H0 λρ=>MZ (c ρ) (f ρ) (g ρ)):=#[have i:=i.h;have j:=j.h;have l:=l.h;(kF i j l).mono λr H Q p=>by
 obtain⟨ρ,d,R,e,q⟩:=p;try dsimp only at e q
 cases i:c ρ with|none=>rw[i]at e;cases e|some k=>
  refine#[ρ,k,R,i,λt s=>?_];cases k with
  |true=>rw[i]at e;refine Ky ?_;exact#[ρ,d,R.st s,e,λw m n o=>q w m (s.trans n) o]
  |false=>rw[i]at e;refine Kz ?_;exact#[ρ,d,R.st s,e,λw m n o=>q w m (s.trans n) o]]
@[simp] def isN:D->Bool
  |.non=>J'
  |_=>O'
@[simp] def Gb(o:O D):O Bool:=o.map isN
theorem Aw.isN{K:Ao}{N:Fb}{d:D}{v:V}(h:Aw K N H d v):decide (v=.non)=L2.isN d:=by
 cases d with
 |tup _=>erw[Aw,As]at h;obtain⟨a,b,rfl,_⟩:=h;rfl
 |lst _ c=>cases c<;>(obtain⟨a,b,rfl,_⟩:=h;rfl)
 |_=>erw[Aw,As]at h;subst h;rfl
theorem nO {j c} (h:JE X a (tP K M H0 f)):JE X (.Compare a [.Is] [.Constant .none j c] pos) (tD K M H0 λρ=>Cn (Gb (f ρ))):=#[have h:=h.h;(Xa<|W8 h).mono λl H Q q=>by
 obtain⟨ρ,b,R,e,q⟩:=LR q;obtain⟨d,g,e⟩:=B0.mp e;cases e;exact#[ρ,d,R,g,λv i s k=>by dsimp only;rw[k.isN];exact q i s]]
theorem nP {j c} (h:JE X a (tP K M H0 f)):JE X (.Compare a [.IsNot] [.Constant .none j c] pos) (tD K M H0 λρ=>Cn (ZG (Gb (f ρ)))):=#[have h:=h.h;(Xa<|W9 h).mono λl H Q q=>by
 obtain⟨ρ,b,R,e,q⟩:=LR q;cases g:f ρ with
 |none=>simp[g]at e
 |some d=>rw[g]at e;cases e;exact#[ρ,d,R,g,λv i s k=>by dsimp only;rw[k.isN];exact q i s]]
theorem nQ {j c} (h:JE X a (tP K M H0 f)):JT X (.Compare a [.Is] [.Constant .none j c] pos) (BQ K M H0 λρ=>Gb (f ρ)):=#[have h:=h.h;(Xb<|W8 h).mono λm H Q g=>by
 obtain⟨ρ,b,R,e,q⟩:=g;obtain⟨d,i,e⟩:=B0.mp e;cases e;exact#[ρ,d,R,i,λv k s l=>#[_,rfl,by rw[l.isN];exact q k s]]]
theorem nR {j c} (h:JE X a (tP K M H0 f)):JT X (.Compare a [.IsNot] [.Constant .none j c] pos) (BQ K M H0 λρ=>ZG (Gb (f ρ))):=#[have h:=h.h;(Xb<|W9 h).mono λm H Q i=>by
 obtain⟨ρ,b,R,e,q⟩:=i;try dsimp only at e q
 cases g:f ρ with
 |none=>rw[g]at e;cases e
 |some d=>rw[g]at e;cases e;exact#[ρ,d,R,g,λv k s l=>#[_,rfl,by rw[l.isN];exact q k s]]]
end
end
theorem nS{e:Expr}{env:Env}(h:∀x p,e≠.Starred x p):AC (e::es) env=(O',Ap e env)::AC es env:=by
 cases e with
 |Starred x p=>exact absurd rfl<|h x p
 |_=>rfl
def nT:Expr->Bool
 |.Starred _ _=>J'
 |_=>O'
theorem ZR{e:Expr}{env:Env}(h:nT e=O'):AC (e::es) env=(O',Ap e env)::AC es env:=nS λx p z=>by subst z;cases h
structure CA(X:Cx)(x:Ae)(e:Expr)(es:List Expr)(pos:AD):Prop where
 d:Cs x
 s:AC (e::es) X.env=(O',Ap e X.env)::AC es X.env
 p:(Au pos (AC es X.env)).any (·.1)=O'
theorem FM{x:Ae}{e:Expr}(d:Cs x:=by ext)(s:AC (e::es) X.env=(O',Ap e X.env)::AC es X.env:=by exact ZR rfl)(p:(Au pos (AC es X.env)).any (·.1)=O':=by rfl):CA X x e es pos:=#[d,s,p]
structure BA(X:Cx)(x:Ae)(vpos:AD)(m:Ae)(apos:AD)(e:Expr)(cpos:AD):Prop where
 b:F6 (.Name x vpos) m X.env (Ap (.Name x vpos) X.env)=Ap (.Name x vpos) X.env
 f:((Au cpos (AC [e] X.env)).all (λx=>!x.1)&&(F7 cpos (F8 [] X.env)).all (λx=>x.1.isSome)&&decide ([e].length+([]:List D1).length+(if([]:List D1).isEmpty then 0 else 1)<30))=J'
 l:(apos.endLine==cpos.line)=J'
 s:AC [e] X.env=(O',Ap e X.env)::AC [] X.env
 p:(Au cpos (AC [] X.env)).any (·.1)=O'
theorem Yn{x:Ae}{a:AD}{m:Ae}{e:Expr}(b:F6 (.Name x a) m X.env (Ap (.Name x a) X.env)=Ap (.Name x a) X.env:=by rfl) (f:((Au cpos (AC [e] X.env)).all (λx=>!x.1)&&(F7 cpos (F8 [] X.env)).all (λx=>x.1.isSome)&&decide ([e].length+([]:U D1).length+(if([]:U D1).isEmpty then 0 else 1)<30))=J':=by rfl) (l:(apos.endLine==cpos.line)=J':=by rfl) (s:AC [e] X.env=(O',Ap e X.env)::AC [] X.env:=by exact ZR rfl) (p:(Au cpos (AC [] X.env)).any (·.1)=O':=by rfl):BA X x a m apos e cpos:=#[b,f,l,s,p]
def CG(K:Ao)(N:Fb)(H:Hp):Sl->V->Prop
 |.val d,v=>As K N H d v
 |.lent c b,v=>∃a e,v=.ref a/\N a/\Rd H a (CO K b a c e)/\Ad K N H c e
 |_,_=>False
def BG(K:Ao)(N:Fb)(H:Hp):U Sl->U V->Prop
 |[],a=>a=[]
 |s::b,a=>∃v r,a=v::r/\CG K N H s v/\BG K N H b r
@[simp] noncomputable def pk:Sl->O D
  |.val d=>Z d
  |.lent a b=>Z (.lst a b)
  |.own a b _=>Z (.lst a b)
  |.no=>J
  |.exc _=>J
theorem CG.same{K:Ao}{N:Fb}{s:Sl}{v:V}(h:CG K N H s v)(sm:Ah H H'):CG K N H' s v:=by
 cases s with
 |val d=>exact As.same h sm
 |lent b f=>obtain⟨a,g,e,n,q,r⟩:=h;exact#[a,g,e,n,q.same sm,r.same sm]
 |no=>exact h
 |own b f i=>exact h
 |exc c=>exact h
theorem CG.p{K:Ao}{N:Fb}{s:Sl}{v:V}(h:CG K N H s v){d:D}(b:pk s=Z d):Aw K N H d v:=by
 cases s with
 |val d=>cases b;exact As.p h
 |lent f g=>cases b;obtain⟨a,i,rfl,n,q,r⟩:=h;exact So q r
 |no=>exact BM h
 |own f g j=>exact BM h
 |exc c=>exact BM h
theorem BG.length{K:Ao}{N:Fb}{H:Hp}:∀{a:U Sl}{vs:U V},BG K N H a vs->a.length=vs.length
 |[],_,h=>by cases h;rfl
 |s::a,_,⟨v,r,e,h,t⟩=>by subst e;simp[BG.length t]
theorem BG.get{K:Ao}{N:Fb}{H:Hp}:∀{a:U Sl}{vs:U V}{i:Nat}{s:Sl},BG K N H a vs->a[i]?=Z s->∃v,vs[i]?=Z v/\CG K N H s v
 |[],_,i,s,h,e=>by simp at e
 |_::a,_,0,s,⟨v,r,b,h,t⟩,e=>by subst b;simp at e;subst e;exact#[v,rfl,h]
 |_::a,_,i+1,s,⟨v,r,b,h,t⟩,e=>by
  subst b;obtain⟨w,c,d⟩:=BG.get t (by simpa using e);exact#[w,by simpa using c,d]
def CW(K:Ao)(M:Fb)(H0:Hp)(f:DD):TA:=λc H Q=>∃a d,Bh K M H0 a c H/\f a=Z d/\∀e b,Ah H b->BG K (Nf M a c) b d e->Q e b
def Gz(K:Ao)(M:Fb)(H0:Hp)(f:VE->O Sl):TE:=λc H Q=>∃a s,Bh K M H0 a c H/\f a=Z s/\∀v b,Ah H b->CG K (Nf M a c) b s v->Q v b
@[simp] def Co(ρ:VE)(i:Nat):O Sl:=match ρ[i]? with
  |some (.val d)=>Z (.val d)
  |some (.own a b _)=>Z (.lent a b)
  |some (.lent a b)=>Z (.lent a b)
  |_=>J
@[simp] def CL(o:O D):O Sl:=o.map Sl.val
@[simp] noncomputable def Zh{c:Type}(a:O c)(b:O (U c)):O (U c):=a.bind λx=>b.bind λy=>Z (x::y)
theorem Iy{c:Type}{a:O c}{b:O (U c)}{l:U c}(h:Zh a b=Z l):∃x y,a=Z x/\b=Z y/\l=x::y:=by
 cases a with|none=>cases h|some x=>
  cases b<;>simp_all
section
variable{K:Ao}{M:Fb}{e a b:Expr}{f g:AB}{f1:VE->O Sl}
theorem nU{i:Nat}{x:Ae}(k:NV X i x):PE X (.Name x pos) (Gz K M H0 λρ=>Co ρ i):=(Gy k).mono λc H Q l=>by
  obtain⟨ρ,d,R,e,q⟩:=l;try dsimp only at e q
  have fin:∀v,c[i]?.join=Z v->CG K (Nf M ρ c) H d v->∃v,c[i]?=Z (Z v)/\Q v H:=λv b h=>by
   grind [Ah.refl]
  unfold Co at e;split at e
  ·next h=>cases e;obtain⟨v,b,h⟩:=R.slot i _ h;exact fin v b h
  ·next h=>
   cases e;obtain⟨a,f,b,_,_,g,j⟩:=R.slot i _ h;refine fin _ b #[a,f,rfl,.inr #[i,_,_,_,h,?_],.inl g,j];cases z:c[i]? with
   |none=>rw[z]at b;cases b
   |some o=>rw[z]at b;cases b;rfl
  ·next h=>cases e;obtain⟨a,f,b,m,g,j⟩:=R.slot i _ h;exact fin _ b #[a,f,rfl,.inl m.1,g,j]
  ·cases e
theorem Yo(h:JE X e (tD K M H0 f)):JE X e (Gz K M H0 λρ=>CL (f ρ)):=#[have h:=h.h;h.mono λi H Q a=>by
 obtain⟨ρ,s,R,e,q⟩:=a;obtain⟨d,b,e⟩:=B0.mp e;cases e;exact#[ρ,d,R,b,λv c s g=>q v c s g]]
theorem Sq :JA X [] (CW K M H0 λ_=>Z []):=#[A8.mono λb H Q a=>by
 obtain⟨c,d,R,e,q⟩:=a;cases e;exact q [] H (Ah.refl H) rfl]
theorem O0(h:JE X e (Gz K M H0 f1))(a:JA X es (CW K M H0 fa))(f:AC (e::es) X.env=(O',Ap e X.env)::AC es X.env:=by exact ZR rfl):JA X (e::es) (CW K M H0 λρ=>Zh (f1 ρ) (fa ρ)):=#[have h:=h.h;have a:=a.h;(Z3 h a f).mono λo H Q g=>by
 obtain⟨ρ,p,R,e,q⟩:=g;obtain⟨s,r,i,j,rfl⟩:=Iy e;exact#[ρ,s,R,i,λv t b l=>#[ρ,r,R.st b,j,λc m d n=>q (v::c) m (b.trans d) #[v,c,rfl,l.same d,n]]]]
@[simp] def Zj:U Sl->A0
  |[]=>Z []
  |.val d::r=>Zh (Z d) (Zj r)
  |_=>J
theorem M0{K:Ao}{N:Fb}{H:Hp}:∀{a:U Sl}{vs:U V}{b:U D},BG K N H a vs->Zj a=Z b->Ad K N H b vs
 |[],_,_,h,e=>by cases e;cases h;exact Ad.nil
 |.val d::r,_,_,⟨v,t,c,h,f⟩,e=>by
  obtain⟨x,y,g,i,j⟩:=Iy e;cases g;subst c j;exact Ad.cons h<|M0 f i
 |.no::_,_,_,_,e=>nomatch e
 |.own _ _ _::_,_,_,_,e=>nomatch e
 |.lent _ _::_,_,_,_,e=>nomatch e
 |.exc _::_,_,_,_,e=>nomatch e
@[simp] def Ze{a:Type}(o:O (U a)):O (U a):=o.bind λl=>if l.length<=Ax then Z l else J
theorem Sr{a:Type}{o:O (U a)}{l:U a}(h:Ze o=Z l):o=Z l/\l.length<=Ax:=by
 cases o with|none=>cases h|some x=>
  have b:(if x.length<=Ax then Z x else J)=Z l:=h;grind
theorem Z5{p:Ac}{o:HO}(h:H p=J):Ah H (AG H p o):=λb u e=>by rw[Zm<|ZW e h];exact e
theorem LS{d:Hp}{Q:VK}{p:Ac}(s:Ah H d)(e:d p=J)(h:Ad K (Nf M ρ I) d xs vs) (q:∀a vs H',Ah H H'->H a=J->H' a=Z (CO K fl a xs vs)->Ad K (λb=>Nf M ρ I b\/b=a) H' xs vs->Q (.ref a) H'):Q (.ref p) (AG d p (CO K fl p xs vs)):=by
 refine q p vs _ (s.trans<|Z5 e) (s.free e) ZH ?_;refine(h.nw λb c=>?_).same (Z5 e);rcases c with c|c
 ·exact .inl c
 ·subst c;exact .inr e
theorem nV(h:JA X es (CW K M H0 fa)):JE X (.List es pos) (tF K M H0 λρ=>Ze ((fa ρ).bind Zj)):=#[have h:=h.h;(XC h).mono λj H Q a=>by
 obtain⟨ρ,k,R,e,q⟩:=a;obtain⟨e,b⟩:=Sr e;obtain⟨c,d,e⟩:=B4.mp e;refine#[ρ,c,R,d,λl m f g=>?_];have hd:=M0 g e;exact#[by rw[<- hd.length];exact b,λp i=>LS f i hd q]]
theorem nW {c} (h:JA X es (CW K M H0 fa)):JE X (.Tuple es c pos) (tD K M H0 λρ=>(Ze ((fa ρ).bind Zj)).map D.tup):=#[have h:=h.h;(lX h).mono λm H Q f=>by
 obtain⟨ρ,d,R,e,q⟩:=f;obtain⟨n,a,e⟩:=B0.mp e;cases e;obtain⟨e,a⟩:=Sr a;obtain⟨g,i,e⟩:=B4.mp e;refine#[ρ,g,R,i,λj o k l=>?_];have hd:=M0 l e;refine#[by rw[<- hd.length];exact a,λp b=>q _ _ (k.trans<|Z5 b) ?_];exact⟨p,j,rfl,B3.of ZH,hd.same<|Z5 b⟩]
end
inductive Rv where
 |val (d:D)|own (xs:List D) (b:Kd:=.l)
def Ew(K:Ao)(N:Fb)(H0 H':Hp):Rv->V->Prop
 |.val d,v=>As K N H' d v
 |.own c b,v=>∃a e,v=.ref a/\H0 a=J/\H' a=Z (CO K b a c e)/\Ad K (λb=>N b\/b=a) H' c e
def A1(K:Ao)(F:U Sl->O Rv):Sp:=λd H Q _=>∃N c r,(∀a,N a->H a≠J)/\BG K N H c d/\F c=Z r/\∀v b,Ah H b->Ew K N H b r v->Q v b
@[simp] noncomputable def CY:Rv->D
  |.val d=>d
  |.own a b=>.lst a b
@[simp] def LU:Rv->A0
  |.own a=>Z a
  |_=>J
@[simp] def O1:Rv->A0
  |.own a .d=>Z a
  |_=>J
section
variable{K:Ao}{M:Fb}{e:Expr}{F:U Sl->O Rv}{k:Nat}{fn:Ac}{fd:Cd}{x:Ae}{p:AD}{E:XK}
@[simp] def Zi(F:U Sl->O Rv)(fa:DD):AB:=λa=>(fa a).bind λb=>(F b).map CY
@[simp] def Fn(F:U Sl->O Rv)(fa:DD):VE->A0:=λa=>(fa a).bind λb=>(F b).bind LU
theorem nX{Q:VK}(h:tD K M H0 (Zi F fa) I H Q):OQ (A1 K F) [] E (CW K M H0 fa) I H Q:=by
 obtain⟨f,d,R,e,q⟩:=h;obtain⟨g,j,e⟩:=B4.mp e;obtain⟨r,k,e⟩:=B0.mp e;cases e;refine#[f,g,R,j,λx y c l=>#[Nf M f I,g,r,(R.st c).nh,by rw[D0];exact l,k,λv m n i=>q v m (c.trans n) ?_]];cases r with|val d=>exact i|own A B=>
  obtain⟨a,o,p,s,t,u⟩:=i;exact#[a,o,p,.of (λz=>(R.st c).fresh s z) t,u.nw λb w=>.inl<|.inl w]
@[simp] def Hx(F:U Sl->O Rv)(fa:DD):VE->A0:=λa=>(fa a).bind λb=>(F b).bind O1
theorem nY{Q:VK}(h:Fm .d K M H0 (Hx F fa) I H Q):OQ (A1 K F) [] E (CW K M H0 fa) I H Q:=by
 obtain⟨g,d,R,e,q⟩:=h;obtain⟨b,j,e⟩:=B4.mp e;cases c:F b with|none=>erw[BH,c]at e;cases e|some r=>
  erw[BH,c]at e;cases r with|val d=>cases e|own y k=>
   cases k with
   |l=>cases e
   |i _ _=>cases e
   |d=>
    cases e;refine#[g,b,R,j,λz A f m=>#[Nf M g I,b,_,(R.st f).nh,by rw[D0];exact m,c,λv n o p=>?_]];obtain⟨a,s,rfl,u,w,x⟩:=p;exact q a s n (f.trans o) (f.free u) w x
theorem nZ{Q:VK}(h:tF K M H0 (Fn F fa) I H Q):OQ (A1 K F) [] E (CW K M H0 fa) I H Q:=by
 obtain⟨g,d,R,e,q⟩:=h;obtain⟨b,j,e⟩:=B4.mp e;cases c:F b with|none=>erw[BH,c]at e;cases e|some r=>
  erw[BH,c]at e;cases r with|val d=>cases e|own y k=>
   cases k with
   |d=>cases e
   |i _ _=>cases e
   |l=>
    cases e;refine#[g,b,R,j,λz A f m=>#[Nf M g I,b,_,(R.st f).nh,by rw[D0];exact m,c,λv n o p=>?_]];obtain⟨a,s,rfl,u,w,x⟩:=p;exact q a s n (f.trans o) (f.free u) w x
theorem n0(G:AR X.prog X.w X.K X.mg X.base CX k fn fd ps (A1 K F))(b:AI k X.A)(c:Gl X x)(f:X.mg x=Z (.ref fn))(g:Im X.K (.ref fn)=J')(i:Binds X.K fd ps [])(j:Fh CX X E)(a:JA X (e::es) (CW K M H0 fa))(hz:CA X x e es pos:=by exact FM):JE X (.Call (.Name x p) (e::es) [] pos) (tD K M H0 (Zi F fa)):=#[have a:=a.h;(OR G b c f g i .nil j a hz.d hz.s hz.p).mono λ_ _ _ h=>nX h]
theorem og(G:AR X.prog X.w X.K X.mg X.base CX k fn fd ps (A1 K F))(b:AI k X.A)(c:Gl X x)(f:X.mg x=Z (.ref fn))(g:Im X.K (.ref fn)=J')(i:Binds X.K fd ps [])(j:Fh CX X E)(a:JA X (e::es) (CW K M H0 fa))(hz:CA X x e es pos:=by exact FM):JE X (.Call (.Name x p) (e::es) [] pos) (tF K M H0 (Fn F fa)):=#[have a:=a.h;(OR G b c f g i .nil j a hz.d hz.s hz.p).mono λ_ _ _ h=>nZ h]
end
def Gc(K:Ao)(r:U V->Hp->VK->Prop)(F:Eg):Prop:=∀(N:Fb)(H:Hp)(c:U V)(e:U D)(d:D)(Q:VK),(∀a,N a->H a≠J)->Paired (Aw K N H) e c->F e=Z d ->
 (∀v b,Ah H b->As K N b d v->Q v b)->r c H Q
def O2(K:Ao)(r:U V->Hp->VK->Prop)(F:U D->A0):Prop:=∀(N:Fb)(H:Hp)(b:U V)(c:U D)(d:U D)(Q:VK),(∀a,N a->H a≠J)->Paired (Aw K N H) c b->F c=Z d ->
 (∀e p,H p=J->Ad K N H d e->Q (.ref p) (AG H p (.lst e)))->r b H Q
@[simp] noncomputable def EU:U Sl->A0
  |[]=>Z []
  |s::r=>Zh (pk s) (EU r)
theorem O3{K:Ao}{N:Fb}{H:Hp}:∀{a:U Sl}{vs:U V}{b:U D},BG K N H a vs->EU a=Z b->Paired (Aw K N H) b vs
 |[],_,_,h,e=>by cases e;cases h;exact .nil
 |s::r,_,_,⟨v,t,c,h,d⟩,e=>by
  obtain⟨x,y,f,g,i⟩:=Iy e;subst c i;exact .cons (h.p f)<|O3 d g
section
variable{K:Ao}{M:Fb}{e:Expr}{x:Ae}{p:AD}{r:U V->Hp->VK->Prop}{F:Eg}{G:U D->A0}{id:String}
@[simp] def Zk(F:Eg)(fa:DD):AB:=λa=>((fa a).bind EU).bind F
@[simp] def FN(F:U D->A0)(fa:DD):VE->A0:=λa=>((fa a).bind EU).bind F
theorem Yp(f:Gc K r F){Q:VK}(h:tD K M H0 (Zk F fa) I H Q):OT r (CW K M H0 fa) I H Q:=by
 obtain⟨a,d,R,e,q⟩:=h;unfold Zk at e;cases b:fa a with|none=>simp[b]at e|some g=>
  rw[b]at e;obtain⟨i,j,e⟩:=B4.mp e;exact#[a,g,R,b,λk l c m=>f (Nf M a I) l k i d Q (R.st c).nh (O3 m j) e λv n s o=>q v n (c.trans s) o]
theorem oh(g:O2 K r G){Q:VK}(h:tF K M H0 (FN G fa) I H Q):OT r (CW K M H0 fa) I H Q:=by
 obtain⟨a,d,R,e,q⟩:=h;unfold FN at e;cases b:fa a with|none=>simp[b]at e|some i=>
  rw[b]at e;obtain⟨j,c,e⟩:=B4.mp e;exact#[a,i,R,b,λk l f m=>g (Nf M a I) l k j d Q (R.st f).nh (O3 m c) e λo p c n=>LS f c n q]
theorem GA(b:ED X (.builtin id) r)(c:Gc K r F)(f:Gl X x)(g:X.mg x=J)(i:Ec x=Z (.builtin id))(a:JA X (e::es) (CW K M H0 fa))(j:x≠"__name__":=by ext)(hz:CA X x e es pos:=by exact FM):JE X (.Call (.Name x p) (e::es) [] pos) (tD K M H0 (Zk F fa)):=#[have a:=a.h;(XO b f g i a j hz.d hz.s hz.p).mono λ_ _ _ h=>Yp c h]
theorem Yq(b:ED X (.type id) r)(c:Gc K r F)(f:Gl X x)(g:X.mg x=J)(i:Ec x=Z (.type id))(a:JA X (e::es) (CW K M H0 fa))(j:x≠"__name__":=by ext)(hz:CA X x e es pos:=by exact FM):JE X (.Call (.Name x p) (e::es) [] pos) (tD K M H0 (Zk F fa)):=#[have a:=a.h;(XP b f g i a j hz.d hz.s hz.p).mono λ_ _ _ h=>Yp c h]
theorem Yr(b:ED X (.type id) r)(c:O2 K r G)(f:Gl X x)(g:X.mg x=J)(i:Ec x=Z (.type id))(a:JA X (e::es) (CW K M H0 fa))(j:x≠"__name__":=by ext)(hz:CA X x e es pos:=by exact FM):JE X (.Call (.Name x p) (e::es) [] pos) (tF K M H0 (FN G fa)):=#[have a:=a.h;(XP b f g i a j hz.d hz.s hz.p).mono λ_ _ _ h=>oh c h]
end
inductive DE where
 |fail|next(ρ:VE)|brk (ρ:VE)|cont (ρ:VE)|ret (r:Rv)
abbrev Ay:=VE->DE
def G8(K:Ao)(M:Fb)(H0:Hp)(ρ:VE)(I:St)(H:Hp)(b:VE)(Q:St->Hp->Prop):Prop:=∀a c,Bh K M H0 b a c->Step M (Nf M ρ I) (Nf M b a) H c->Q a c
def Bc(K:Ao)(M:Fb)(H0:Hp)(ρ:VE)(I:St)(H:Hp)(D:Ends):DE->Prop
 |.fail=>False
 |.next a=>G8 K M H0 ρ I H a D.nx
 |.brk a=>G8 K M H0 ρ I H a D.bk
 |.cont a=>G8 K M H0 ρ I H a D.ct
 |.ret r=>∀v b,Ah H0 b->Ew K M H0 b r v->D.rt v b
def tS(K:Ao)(M:Fb)(H0:Hp)(g:Ay):TS:=λD b H=>∃a,Bh K M H0 a b H/\Bc K M H0 a b H D (g a)
@[simp] def Zd(a:DE)(g:Ay):DE:=match a with
  |.next b=>g b
  |r=>r
theorem G8.from{K:Ao}{M:Fb}{a b:VE}{c:St}{e:Hp}{Q:St->Hp->Prop}(s:Step M (Nf M ρ I) (Nf M a c) H e)(h:G8 K M H0 ρ I H b Q):G8 K M H0 a c e b Q:=λd f R g=>h d f R<|s.trans g
theorem Bc.from{K:Ao}{M:Fb}{a:VE}{b:St}{d:Hp}{D:Ends}{r:DE}(s:Step M (Nf M ρ I) (Nf M a b) H d)(h:Bc K M H0 ρ I H D r):Bc K M H0 a b d D r:=by
 cases r with
 |fail=>exact h
 |next c=>exact G8.from s h
 |brk c=>exact G8.from s h
 |cont c=>exact G8.from s h
 |ret r=>exact h
section
variable{K:Ao}{M:Fb}{st:Az}{AH:U Az}{g g1 g2:Ay}{e:Expr}{f:AB}
theorem oi :JB X [] (tS K M H0 λρ=>.next ρ):=#[Eu.mono λD a H ⟨ρ,R,q⟩=>q a H R Step.refl]
theorem Ys(c:JS X st (tS K M H0 g1))(d:JB X AH (tS K M H0 g2)):JB X (st::AH) (tS K M H0 λρ=>Zd (g1 ρ) g2):=#[have c:=c.h;have d:=d.h;(RH c d).mono λD j H e=>by
 obtain⟨ρ,R,q⟩:=e;try dsimp only at q
 refine#[ρ,R,?_];cases b:g1 ρ with
 |fail=>rw[b]at q;exact q
 |next a=>rw[b]at q;exact λf k g i=>#[a,g,q.from i]
 |brk a=>rw[b]at q;exact q
 |cont a=>rw[b]at q;exact q
 |ret r=>rw[b]at q;exact q]
@[simp] def Zv(o:O D):DE:=match o with
  |some d=>.ret (.val d)
  |none=>.fail
theorem oj(h:JE X e (tD K M H0 f)):JS X (.Return (Z e) pos) (tS K M H0 λρ=>Zv (f ρ)):=#[have h:=h.h;(OE h).mono λD k H c=>by
 obtain⟨ρ,R,q⟩:=c;try dsimp only at q
 cases b:f ρ with|none=>rw[b]at q;exact BM q|some d=>
  rw[b]at q;exact#[ρ,d,R,b,λv g s i=>q v g (R.same.trans s)<|i.nw λa j=>.inl<|.inl j]]
@[simp] noncomputable def C9(o:A0):DE:=match o with
  |some a=>.ret (.own a)
  |none=>.fail
@[simp] def JJ(o:A0):DE:=match o with
  |some a=>.ret (.own a .d)
  |none=>.fail
theorem Yt{k:Kd}{f:VE->A0}{r:A0->DE}(g:r J=.fail)(i:∀xs,r (Z xs)=.ret (.own xs k))(h:PE X e (Fm k K M H0 f)):PS X (.Return (Z e) pos) (tS K M H0 λρ=>r (f ρ)):=(OE h).mono λD t H j=>by
 obtain⟨ρ,R,q⟩:=j;try dsimp only at q
 cases d:f ρ with|none=>rw[d,g]at q;exact BM q|some xs=>
  rw[d,i]at q;exact#[ρ,xs,R,d,λa l m s n o p=>q (.ref a) m (R.same.trans s) #[a,l,rfl,R.same.free n,o,p.nw λb c=>by
   rcases c with c|c
   ·exact .inl<|.inl<|.inl c
   ·exact .inl<|.inr c]]
theorem ol{f:VE->A0}(h:JE X e (Fm .d K M H0 f)):JS X (.Return (Z e) pos) (tS K M H0 λρ=>JJ (f ρ)):=#[Yt rfl (λ_=>rfl) h.h]
theorem om{f:VE->A0}(h:JE X e (tF K M H0 f)):JS X (.Return (Z e) pos) (tS K M H0 λρ=>C9 (f ρ)):=#[Yt rfl (λ_=>rfl) h.h]
@[simp] noncomputable def DF(ρ:VE)(i:Nat):A0:=match ρ[i]? with
  |some (.own a)=>Z a
  |_=>J
theorem Ss{i:Nat}(h:DF ρ i=Z xs):ρ[i]?=Z (.own xs):=by grind [DF]
@[simp] def Hy(ρ:VE)(i:Nat):A0:=match ρ[i]? with
  |some (.own a .d)=>Z a
  |_=>J
theorem Su{i:Nat}(h:Hy ρ i=Z xs):ρ[i]?=Z (.own xs .d):=by grind [Hy]
theorem Fp{i:Nat}{v:V}(a:I[i]?.join=Z v):I[i]?=Z (Z v):=by
 grind
theorem Yu{k:Kd}{f:VE->Nat->A0}{r:A0->DE}(j:r J=.fail)(l:∀xs,r (Z xs)=.ret (.own xs k))(g:∀{ρ i xs},f ρ i=Z xs->ρ[i]?=Z (.own xs k)){i:Nat}{x:Ae}{c:AD}(m:NV X i x):PS X (.Return (Z (.Name x c)) pos) (tS K M H0 λρ=>r (f ρ i)):=(OE<|Gy m).mono λD u H n=>by
 obtain⟨ρ,R,q⟩:=n;try dsimp only at q
 cases e:f ρ i with|none=>rw[e,j]at q;exact BM q|some xs=>
  rw[e,l]at q;obtain⟨a,o,h,⟨p,_⟩,v,s,t⟩:=R.slot i _<|g e;refine⟨.ref a,Fp h,q (.ref a) H R.same ⟨a,o,rfl,p,s,t.nw λb d=>.inl ?_⟩⟩;rcases d with d|d
  ·exact .inl d
  ·subst d;exact .inr #[i,xs,_,_,g e,Fp h]
@[simp] def ZO(c:O Bool)(a b:DE):DE:=match c with
  |some J'=>a
  |some O'=>b
  |none=>.fail
theorem on{c:Expr}{a b:U Az}{t:VE->O Bool}(d:JT X c (BQ K M H0 t))(e:JB X a (tS K M H0 g1))(f:JB X b (tS K M H0 g2)):JS X (.If c a b pos) (tS K M H0 λρ=>ZO (t ρ) (g1 ρ) (g2 ρ)):=#[have d:=d.h;have e:=e.h;have f:=f.h;(OG d e f).mono λD j H i=>by
 obtain⟨ρ,R,q⟩:=i;try dsimp only at q
 cases g:t ρ with|none=>rw[g]at q;exact BM q|some k=>
  rw[g]at q;refine#[ρ,k,R,g,λl s=>?_];cases k with
  |true=>refine Ky ?_;exact#[ρ,R.st s,Bc.from (Step.of_same s) q]
  |false=>refine Kz ?_;exact#[ρ,R.st s,Bc.from (Step.of_same s) q]]
theorem JL{a:Type}{l:U a}{i:Nat}{x y:a}(h:(l.set i x)[i]?=Z y):i<l.length/\x=y:=by
 grind
theorem M4{M:Fb}{i:Nat}{s:Sl}{v:V}{b:Ac}(k:ρ.length=I.length)(h:Nf M (ρ.set i s) (I.set i (Z v)) b):Nf M ρ I b\/∃xs fl a,s=.own xs fl a/\v=.ref b:=by
 rcases h with h|⟨j,xs,fl,a,c,d⟩
 ·exact .inl<|.inl h
 ·by_cases e:i=j
  ·subst e;have f:=(JL c).2;have g:=(JL d).2;cases f;cases g;exact .inr #[xs,fl,a,rfl,rfl]
  ·rw[Ed e]at c d;exact .inl<|.inr ⟨j,xs,fl,a,c,d⟩
theorem Bh.put{i:Nat}{s:Sl}{v:V}(R:Bh K M H0 ρ I H)(S:Step M (Nf M ρ I) (Nf M (ρ.set i s) (I.set i (Z v))) H H')(sm:Ah H0 H') (E:∀j a vs xs fl m,j≠i->ρ[j]?=Z (.own xs fl m)->I[j]?=Z (Z (.ref a))->H a=Z (CO K fl a xs vs)->H' a=Z (CO K fl a xs vs)) (G:i<ρ.length->Sn K M (Nf M (ρ.set i s) (I.set i (Z v))) H0 H' s (Z v)) (n:∀xs fl m a j ys b f,s=.own xs fl m->v=.ref a->j≠i->ρ[j]?=Z (.own ys b f)->I[j]?≠Z (Z (.ref a))):Bh K M H0 (ρ.set i s) (I.set i (Z v)) H' where
 len:=by rw[OV,OV];exact R.len
 same:=sm;mh:=λa h z=>by
  cases e:H a with
  |none=>exact R.mh a h e
  |some o=>simp[S.kp a o e<|.inr<|.inl h]at z
 slot:=λj A e=>by
  by_cases t:i=j
  ·subst t;obtain⟨B,rfl⟩:=JL e;rw[Gw (by rw[<- R.len];exact B)];exact G B
  ·rw[Ed t]at e ⊢;have q:=R.slot j A e;cases A with
   |no=>trivial
   |val d=>obtain⟨u,p,h⟩:=q;exact#[u,p,As.step S d u h]
   |own xs fl m=>obtain⟨a,vs,p,g,l,r,w⟩:=q;exact#[a,vs,p,g,l,E j a vs xs fl m (B2 t) e (Fp p) r,Ad.step S xs vs w]
   |lent xs fl=>obtain⟨a,vs,p,g,l,r⟩:=q;exact#[a,vs,p,g,l.step S<|.inr<|.inl g.1,Ad.step S xs vs r]
   |exc c=>obtain⟨a,C,p,g,l⟩:=q;exact#[a,C,p,g,S.kp _ _ l<|.inr<|.inr rfl]
 inj:=λj k xs ys fl b m f a g l r w=>by
  by_cases y:i=j
  ·by_cases x:i=k
   ·rw[<- y,x]
   ·subst y;rw[Ed x]at l w;have N:=(JL g).2;have q3:=(JL r).2;cases N;cases q3;exact absurd w<|n xs fl m a k ys b f rfl rfl (B2 x) l
  ·rw[Ed y]at g r;by_cases x:i=k
   ·subst x;have F:=(JL l).2;have L:=(JL w).2;cases F;cases L;exact absurd r<|n ys b f a j xs fl m rfl rfl (B2 y) g
   ·rw[Ed x]at l w;exact R.inj j k xs ys fl b m f a g l r w
theorem Bh.setV{i:Nat}{d:D}{v:V}(R:Bh K M H0 ρ I H)(s:Ah H H')(h:As K (Nf M ρ I) H' d v):Bh K M H0 (ρ.set i (.val d)) (I.set i (Z v)) H'/\Step M (Nf M ρ I) (Nf M (ρ.set i (.val d)) (I.set i (Z v))) H H':=by
 have S:Step M (Nf M ρ I) (Nf M (ρ.set i<|.val d)<|I.set i<|some v) H H':=#[λa o e _=>s a o e,λb c=>by
  rcases M4 R.len c with q|⟨f,_,_,e,_⟩
  ·exact .inl q
  ·cases e]
 refine#[R.put S (R.same.trans s) (λj a l f g _ _ _ _ e=>s _ _ e) (λ_=>#[v,rfl,h.nw λb c=>?_]) (λf g _ a j m k _ e=>nomatch e),S];rcases M4 R.len c with q|⟨f,_,_,e,_⟩
 ·exact .inl q
 ·cases e
theorem Bh.setO{i:Nat}(R:Bh K M H0 ρ I H)(s:Ah H H')(d:H a=J)(l:H' a=Z (CO K fl a xs vs))(h:Ad K (λb=>Nf M ρ I b\/b=a) H' xs vs):Bh K M H0 (ρ.set i (.own xs fl)) (I.set i (Z (.ref a))) H'/\Step M (Nf M ρ I) (Nf M (ρ.set i (.own xs fl)) (I.set i (Z (.ref a)))) H H':=by
 have nf:∀b,Nf M (ρ.set i<|.own xs fl) (I.set i<|some<|.ref a) b->Nf M ρ I b\/b=a:=λb c=>by
  rcases M4 R.len c with q|⟨xs,fl,_,e,f⟩
  ·exact .inl q
  ·cases f;exact .inr rfl
 have S:Step M (Nf M ρ I) (Nf M (ρ.set i<|.own xs fl)<|I.set i<|some<|.ref a) H H':=#[λa o e _=>s a o e,λb c=>by
  grind]
 refine#[R.put S (R.same.trans s) (λj a vs xs fl _ _ _ _ e=>s _ _ e) (λ_=>#[a,vs,rfl,#[R.same.free d,λ_ z=>nomatch z],λm=>R.fresh d<|.inl m,l,h.nw λb c=>.inl<|nf b c]) (λn p _ v j r g k e f w t u=>?_),S];cases f;exact R.fresh d<|.inr ⟨j,r,g,k,t,u⟩
theorem Bh.chg{fl2:Kd}{c:O Ac}{i:Nat}{ys:U D}{ws:U V}(R:Bh K M H0 ρ I H)(m:ρ[i]?=Z (.own xs fl c))(g:I[i]?=Z (Z (.ref a)))(h:Ad K (Nf M ρ I) H ys ws):Bh K M H0 (ρ.set i (.own ys fl2 c)) I (AG H a (CO K fl2 a ys ws))/\Step M (Nf M ρ I) (Nf M (ρ.set i (.own ys fl2 c)) I) H (AG H a (CO K fl2 a ys ws)):=by
 obtain⟨B,L,w,⟨x,C⟩,y,E,N⟩:=R.slot i _ m;rw[g]at w;have G:a=B:=by simpa using w
 subst G;have n:I.set i (Z<|.ref a)=I:=by
  apply JM;intro j;by_cases e:i=j
  ·subst e;rw[Gw (C8.mp g).1,g]
  ·rw[Ed e]
 have A:Nf M ρ I a:=.inr #[i,xs,fl,c,m,g];have nf:∀b,Nf M (ρ.set i<|.own ys fl2 c) (I.set i<|some<|.ref a) b->Nf M ρ I b:=λb p=>by
  rcases M4 R.len p with q|⟨xs,_,_,e,r⟩
  ·exact q
  ·cases r;exact A
 have S:Step M (Nf M ρ I) (Nf M (ρ.set i<|.own ys fl2 c)<|I.set i<|some<|.ref a) H (AG H a<|CO K fl2 a ys ws):=#[λb o e z=>by
   have ne:b≠a:=by
    rintro rfl;rcases z with z|z|z
    ·exact z A
    ·exact y z
    ·rw[E]at e;cases e;simp[Yi]at z
   rw[Zm ne];exact e,λb p=>.inl<|nf b p]
 have k:Bh K M H0 (ρ.set i<|.own ys fl2 c) (I.set i<|some<|.ref a) (AG H a<|CO K fl2 a ys ws):=by
  refine R.put S (λb o e=>?_) (λj b P l d f s t u Q=>?_) (λ_=>#[a,ws,rfl,#[x,C],y,ZH,Ad.step S ys ws h]) (λl F _ b j v d f e r s t u=>?_)
  ·have ne:b≠a:=by
    rintro rfl;simp[x]at e
   rw[Zm ne];exact R.same b o e
  ·have ne:b≠a:=by
    rintro rfl;exact s<|R.inj j i l xs d fl f c b t m u g
   rw[Zm ne];exact Q
  ·cases r;exact s<|R.inj j i v xs d fl f c _ t m u g
 rw[n]at k S;exact#[k,S]
theorem Bh.frz{o:O Ac}{i:Nat}(R:Bh K M H0 ρ I H)(l:ρ[i]?=Z (.own xs fl o)):Bh K M H0 (ρ.set i (.val (.lst xs fl))) I H/\Step M (Nf M ρ I) (Nf M (ρ.set i (.val (.lst xs fl))) I) H H:=by
 obtain⟨a,m,p,B,r,s,t⟩:=R.slot i _ l;have u:=Fp p;have d:I.set i (Z<|.ref a)=I:=by
  apply JM;grind
 have nf:∀b,Nf M (ρ.set i<|.val<|.lst xs fl) (I.set i<|some<|.ref a) b->Nf M ρ I b:=λb f=>by
  rcases M4 R.len f with q|⟨xs,_,_,e,C⟩
  ·exact q
  ·cases e
 have g:¬ Nf M (ρ.set i<|.val<|.lst xs fl) (I.set i<|some<|.ref a) a:=by
  rintro(h|⟨j,v,w,x,k,n⟩)
  ·exact r h
  ·by_cases e:i=j
   ·subst e;have y:=(JL k).2;cases y
   ·rw[Ed e]at k n;exact e<|R.inj i j xs v _ _ _ _ a l k u n
 have S:Step M (Nf M ρ I) (Nf M (ρ.set i<|.val<|.lst xs fl)<|I.set i<|some<|.ref a) H H:=#[λ_ _ e _=>e,λb f=>.inl<|nf b f];have c:Bh K M H0 (ρ.set i<|.val<|.lst xs fl) (I.set i<|some<|.ref a) H:=by
  exact R.put S R.same (λ_ _ _ _ _ _ _ _ _ h=>h) (λ_=>#[.ref a,rfl,#[a,m,rfl,.of g s,Ad.step S xs m t]]) (λz _ _ b j A _ _ e=>nomatch e)
 rw[d]at c S;exact#[c,S]
@[simp] def Z0(i:Nat)(o:O D)(ρ:VE):DE:=match o with
  |some d=>.next (ρ.set i (.val d))
  |none=>.fail
@[simp] def Dg(i:Nat)(o:A0)(ρ:VE):DE:=match o with
  |some a=>.next (ρ.set i (.own a))
  |none=>.fail
@[simp] def FO(i:Nat)(o:A0)(ρ:VE):DE:=match o with
  |some a=>.next (ρ.set i (.own a .d))
  |none=>.fail
theorem oq{f:VE->A0}{i:Nat}(h:tS K M H0 (λρ=>FO i (f ρ) ρ) D' I H):Lx (Fm .d K M H0 f) (Km i) D' I H:=by
 obtain⟨ρ,R,q⟩:=h;cases b:f ρ with|none=>erw[b,FO]at q;exact BM q|some d=>
  erw[b,FO]at q;refine#[ρ,d,R,b,λa l m s c e g=>?_];obtain⟨j,k⟩:=R.setO s c e g;exact q _ _ j k
theorem ot{f:VE->A0}{i:Nat}{x:Ae}{a:AD}(c:X.N.Nodup)(g:X.N[i]?=Z x)(j:Loc X.env.scope x)(b:JE X e (Fm .d K M H0 f))(k:Ef e (Z (.Name x a)) pos.line X.env=AA O':=by rfl)(l:X.fn x=J'\/X.env.scope.names.lookup x=Z .local:=by first|exact .inl rfl|exact .inr rfl|assumption):JS X (.Assign [.Name x a] e pos) (tS K M H0 λρ=>FO i (f ρ) ρ):=#[have b:=b.h;(OI c g j b k l).mono λ_ _ _ q=>oq q]
theorem Yv{i:Nat}(h:tS K M H0 (λρ=>Z0 i (f ρ) ρ) D' I H):Lx (tD K M H0 f) (Km i) D' I H:=by
 obtain⟨ρ,R,q⟩:=h;cases a:f ρ with|none=>erw[a,Z0]at q;exact BM q|some d=>
  erw[a,Z0]at q;refine#[ρ,d,R,a,λv g s b=>?_];obtain⟨c,e⟩:=R.setV s b;exact q _ _ c e
theorem Sv{f:VE->A0}{i:Nat}(h:tS K M H0 (λρ=>Dg i (f ρ) ρ) D' I H):Lx (tF K M H0 f) (Km i) D' I H:=by
 obtain⟨ρ,R,q⟩:=h;cases b:f ρ with|none=>erw[b,Dg]at q;exact BM q|some d=>
  erw[b,Dg]at q;refine#[ρ,d,R,b,λa l m s c e g=>?_];obtain⟨j,k⟩:=R.setO s c e g;exact q _ _ j k
theorem ou{i:Nat}{x:Ae}{a:AD}(c:X.N.Nodup)(d:X.N[i]?=Z x)(g:Loc X.env.scope x)(b:JE X e (tD K M H0 f))(j:Ef e (Z (.Name x a)) pos.line X.env=AA O':=by rfl)(k:X.fn x=J'\/X.env.scope.names.lookup x=Z .local:=by first|exact .inl rfl|exact .inr rfl|assumption):JS X (.Assign [.Name x a] e pos) (tS K M H0 λρ=>Z0 i (f ρ) ρ):=#[have b:=b.h;(OI c d g b j k).mono λ_ _ _ q=>Yv q]
theorem ov{f:VE->A0}{i:Nat}{x:Ae}{a:AD}(c:X.N.Nodup)(d:X.N[i]?=Z x)(g:Loc X.env.scope x)(b:JE X e (tF K M H0 f))(j:Ef e (Z (.Name x a)) pos.line X.env=AA O':=by rfl)(k:X.fn x=J'\/X.env.scope.names.lookup x=Z .local:=by first|exact .inl rfl|exact .inr rfl|assumption):JS X (.Assign [.Name x a] e pos) (tS K M H0 λρ=>Dg i (f ρ) ρ):=#[have b:=b.h;(OI c d g b j k).mono λ_ _ _ q=>Sv q]
@[simp] noncomputable def JN(i:Nat)(ρ:VE):VE:=match ρ[i]? with
  |some (.own a b _)=>ρ.set i (.val (.lst a b))
  |_=>ρ
set_option tactic.hygienic true in
theorem ow(i:Nat)(h:JS X st (tS K M H0 g)):JS X st (tS K M H0 λρ=>g (JN i ρ)):=#[have h:=h.h;h.mono λe f H a=>by
 obtain⟨ρ,R,q⟩:=a;try dsimp only at q
 unfold JN at q;split at q
 ·next j b=>
  obtain⟨c,d⟩:=R.frz b;exact#[_,c,q.from d]
 ·exact#[ρ,R,q]]
@[simp] noncomputable def Ge(i:Nat)(o:O D)(ρ:VE):DE:=match ρ[i]?,o with
  |some (.own a .l b),Z d=>if a.length<Ax then .next (ρ.set i (.own (a++[d]) .l b))else .fail
  |_,_=>.fail
set_option tactic.hygienic true in
theorem oz{i:Nat}{x:Ae}{c:AD}(r:NV X i x)(g:JE X e (tD K M H0 f))(t:Ef (.Call (.Attribute (.Name x c) "append" apos) [e] [] cpos) J pos.line X.env=AA O':=by rfl)(hz:BA X x c "append" apos e cpos:=by exact Yn):JS X (.Expr (.Call (.Attribute (.Name x c) "append" apos) [e] [] cpos) pos) (tS K M H0 λρ=>Ge i (f ρ) ρ):=#[have g:=g.h;(OD (Hv O4 Yw Yx R0 (Gy r) (Z3 g A8 hz.s) hz.b hz.f hz.l hz.s hz.p) t).mono λG P H u=>by
  obtain⟨ρ,R,q⟩:=u;try dsimp only at q
  unfold Ge at q;split at q
  ·next w E d k y=>
   split at q
   ·next hz=>
    obtain⟨a,j,z,L,N,m,n⟩:=R.slot i _ k;have o:=Fp z;refine#[.ref a,o,.inl #[rfl,j,.inl<|.inl m],ρ,d,R,y,λv F s A=>?_];have B:=R.st s;obtain⟨R2,C⟩:=B.chg (ys:=w++[d]) (ws:=j++[v]) (fl2:=.l) k o ((n.same s).append<|Ad.cons A Ad.nil);exact⟨a,j,v,rfl,rfl,s _ _ m,by rw[<- n.length];exact hz,q _ _ R2<|(Step.of_same s).trans C⟩
   ·exact BM q
  ·exact BM q]
end
def LW(K:Ao)(M N:Fb)(f:Hp)(g:It)(c:U D):Prop:=∀e a,Step M N e f a->∀i,(∀d,c[i]?=Z d->g.go i a/\∀x b,g.yld i a x b->Ah a b/\As K e b d x)/\(i=c.length->g.stop i a)
def tI(K:Ao)(M:Fb)(H0:Hp)(f:VE->A0):TI:=λc H R=>∃a d,Bh K M H0 a c H/\f a=Z d/\∀e b,Ah H b->LW K M (Nf M a c) b e d->R e b
def tG(K:Ao)(M:Fb)(H0:Hp)(ws:U Nat)(b:D->VE->O VE):TG:=λv e H Q=>∃f d c,Bh K M H0 f e H/\As K (Nf M f e) H d v/\b d f=Z c/\∀a ,Bh K M H0 c a H->Step M (Nf M f e) (Nf M c a) H H->(∀j,j∉ws->a[j]?=e[j]?)->Q a H
@[simp] def Zc(i:Nat)(d:D)(ρ:VE):O VE:=Z (ρ.set i (.val d))
noncomputable def ZC(b:D->VE->O VE)(g:Ay):U D->Ay
 |[],c=>.next c
 |d::f,c=>match b d c with
  |none=>.fail
  |some e=>match g e with
   |.next a=>ZC b g f a
   |.cont a=>ZC b g f a
   |.brk a=>.next a
   |r=>r
@[simp] def Z4(f:VE->A0)(b:D->VE->O VE)(g:Ay):Ay:=λa=>match f a with
  |some c=>ZC b g c a
  |none=>.fail
section
variable{K:Ao}{M:Fb}{e:Expr}{f:VE->A0}{b:D->VE->O VE}{g:Ay}{body:U Az}
theorem oA{i:Nat}{x:Ae}(b:X.N.Nodup)(c:X.N[i]?=Z x)(f:Loc X.env.scope x)(g:X.fn x=J'\/X.env.scope.names.lookup x=Z .local:=by first|exact .inl rfl|exact .inr rfl|assumption):JG X (.Name x pos) (tG K M H0 [i] (Zc i)):=#[by
 intro a s h H v u Q p r #[o,d,k,R,hd,e,q];cases e;obtain⟨l,m⟩:=R.setV (Ah.refl H) hd;exact Xf b c f g a s h H v u Q p r (q _ l m λj n=>by rw[Ed<|λe=>n (by rw[e];simp)])]
theorem Yy{tg':TG}{tb:TS}(hi:∀I H R,tI K M H0 f I H R->wi I H R)(hg:∀v I H Q,tG K M H0 ws b v I H Q->tg' v I H Q)(hb:∀D I H,tS K M H0 g D I H->tb D I H) (h:tS K M H0 (Z4 f b g) D' I H):Xm wi tg' tb D' I H:=by
 obtain⟨C,R,q⟩:=h;unfold Z4 at q;cases E:f C with|none=>rw[E]at q;exact BM q|some d=>
  rw[E]at q;refine hi _ _ _ #[C,d,R,E,λF T S ok=>?_];refine#[λi m j B=>m=d.length-i/\i<=d.length/\∃a,Bh K M H0 a j B/\Step M (Nf M C I) (Nf M a j) T B/\Bc K M H0 a j B D' (ZC b g (d.drop i) a),#[d.length,by simp,FD _,C,R.st S,Step.refl,?_],?_]
  ·exact Bc.from (Step.of_same S) q
  ·rintro i m j B ⟨rfl,hle,a,Y,G,c⟩;obtain⟨W,L⟩:=ok _ _ G i;by_cases n:i<d.length
   ·obtain⟨go,y⟩:=W d[i]<|CK n;rw[MU n]at c;erw[ZC]at c;refine .inr ⟨go,λo t=>i+1<=d.length/\∃a,Bh K M H0 a o t/\Step M (Nf M C I) (Nf M a o) T t/\Bc K M H0 a o t D' (ZC b g (d.drop<|i+1) a),λo t z=>⟨d.length-(i+1),by lia,rfl,z⟩,λx t yl=>?_⟩;obtain⟨s3,hd⟩:=y x t yl;cases u:b d[i] a with|none=>rw[u]at c;exact BM c|some p=>
     rw[u]at c;simp only at c;refine hg _ _ _ _ #[a,d[i],p,Y.st s3,hd,u,λN R1 S1 _=>hb _ _ _ #[p,R1,?_]];have k:=(Step.of_same s3).trans S1;cases l:g p with
     |fail=>rw[l]at c;exact c
     |next s=>rw[l]at c;exact λw P R2 A=>#[n,s,R2,G.trans<|k.trans A,Bc.from (k.trans A) c]
     |cont s=>rw[l]at c;exact λw P R2 A=>#[n,s,R2,G.trans<|k.trans A,Bc.from (k.trans A) c]
     |brk s=>rw[l]at c;exact λw P R2 A=>c w P R2<|k.trans A
     |ret r=>rw[l]at c;exact c
   ·have e:i=d.length:=by lia
    rw[MS (by lia)]at c;exact .inl #[L e,c j B Y Step.refl]
theorem oB(e:Bz (Af X.prog X.w) X.A X.env X.xe)(i:X.calm=J')(a:JI X tg iter (tI K M H0 f))(c:JG X tg (tG K M H0 ws b))(d:JB X body (tS K M H0 g))(j:∀x,EQ iter X.env x=AA x:=by intro _;rfl):JS X (.For tg iter body [] pos) (tS K M H0 (Z4 f b g)):=#[have a:=a.h;have c:=c.h;have d:=d.h;(ON e i a c d j).mono λ_ _ _ q=>Yy (λ_ _ _ z=>z) (λ_ _ _ _ z=>z) (λ_ _ _ z=>z) q]
theorem PI.mono{a:TI}(h:PI X tg iter wi)(m:∀I H R,a I H R->wi I H R):PI X tg iter a:=λb s I H R c q=>h b s I H R c<|m I H R q
def O5(K:Ao)(M N:Fb)(H:Hp)(d:D)(v:V):Prop:=match d with
 |.lst e=>∃a c,v=.ref a/\(((¬ N a\/M a)/\Rd H a (.lst c))\/KL K a c)/\Ad K N H e c
 |.lst e b=>∃a c,v=.ref a/\(¬ N a\/M a)/\Rd H a (CO K b a e c)/\Ad K N H e c
 |d=>As K N H d v
def tQ(K:Ao)(M:Fb)(H0:Hp)(f:AB):TE:=λc H Q=>∃a d,Bh K M H0 a c H/\f a=Z d/\∀v b,Ah H b->O5 K M (Nf M a c) b d v->Q v b
theorem As.q{M N:Fb}{H:Hp}{d:D}{v:V}(h:As K N H d v):O5 K M N H d v:=by
 cases d with
 |lst g c=>
  obtain⟨a,b,e,q,r⟩:=h;cases c with
  |l=>
   refine#[a,b,e,?_,r];rcases q with⟨n,q⟩|⟨f,z,q⟩
   ·exact .inl #[.inl n,q]
   ·cases z;exact .inr q
  |_=>
   rcases q with⟨n,q⟩|⟨f,z,_⟩
   ·exact#[a,b,e,.inl n,q,r]
   ·cases z
 |_=>exact h
theorem PE.q{f:AB}(h:PE X e (tD K M H0 f)):PE X e (tQ K M H0 f):=h.mono λc H Q ⟨a,d,R,e,q⟩=>#[a,d,R,e,λv b s z=>q v b s z.q]
theorem oC{f:AB}(h:JE X e (tD K M H0 f)):JE X e (tQ K M H0 f):=#[PE.q h.h]
theorem oD{M N:Fb}(m:M a)(h:Rd H a (CO K fl a xs vs))(r:Ad K N H xs vs):O5 K M N H (.lst xs fl) (.ref a):=by
 cases fl with
 |l=>exact#[a,vs,rfl,.inl #[.inr m,h],r]
 |_=>exact#[a,vs,rfl,.inr m,h,r]
@[simp] noncomputable def BI(ρ:VE)(i:Nat):O D:=match ρ[i]? with
  |some (.val d)=>Z d
  |some (.lent a b)=>Z (.lst a b)
  |_=>J
theorem oE{i:Nat}{x:Ae}(c:NV X i x):PE X (.Name x pos) (tQ K M H0 λρ=>BI ρ i):=(Gy c).mono λl H Q f=>by
  obtain⟨ρ,d,R,e,q⟩:=f;try dsimp only at e q
  unfold BI at e;split at e
  ·next h=>cases e;obtain⟨v,b,h⟩:=R.slot i _ h;exact#[v,Fp b,q v H (Ah.refl H) h.q]
  ·next h=>cases e;obtain⟨a,m,b,g,j,k⟩:=R.slot i _ h;exact#[_,Fp b,q _ H (Ah.refl H)<|oD g.1 j k]
  ·cases e
def Yz:D->A0
 |.lst a=>Z a
 |_=>J
def oF:D->A0
 |.tup a=>Z a
 |_=>J
def oG:D->A0
 |.str x=>Z (x.cps.toList.map λc=>D.str #[(T' [c])])
 |_=>J
theorem oH{l:Expr}{f:AB}(h:PE X l (tQ X.K M H0 f)):PI X tg l (tI X.K M H0 λρ=>(f ρ).bind Yz):=(Xj h).mono λt H L u=>by
 obtain⟨ρ,N,R,e,q⟩:=u;obtain⟨d,A,e⟩:=B4.mp e;cases d with
 |lst F B=>
  cases B with
  |d=>cases e
  |i _ _=>cases e
  |l=>
  cases e;refine#[ρ,.lst _,R,A,λv p C E=>?_];obtain⟨a,c,G,g,hd⟩:=E;have r:∀k j,Step M (Nf M ρ t) k p j->BL X.K j a c:=λk j S=>by
   rcases g with⟨P,g⟩|g
   ·exact .inl<|g.step S (by rcases P with z|z;exact .inl z;exact .inr<|.inl z)
   ·exact g.sq
  refine#[a,G,#[c,r _ _ Step.refl],q _ p C λk j S i=>?_];have b:=r _ _ S;have m:=Ad.step S _ _ hd;refine#[λd n=>?_,λn=>#[c,b,by rw[n,hd.length];exact Bf _]];obtain⟨w,s,o⟩:=m.get n;refine#[#[c,w,b,s],λx Q y=>?_];obtain⟨rfl,y⟩:=y;have:=y c b;rw[s]at this;cases this;exact#[Ah.refl _,o]
 |_=>cases e
theorem oI{l:Expr}{f:AB}(h:PE X l (tQ X.K M H0 f)):PI X tg l (tI X.K M H0 λρ=>(f ρ).bind oF):=(k7 h).mono λA H B o=>by
 obtain⟨ρ,C,R,e,q⟩:=o;obtain⟨d,p,e⟩:=B4.mp e;cases d with
 |tup E=>
  cases e;refine#[ρ,.tup _,R,p,λv r s t=>?_];obtain⟨a,c,u,m,hd⟩:=t;refine#[a,u,#[c,m],q _ r s λG F S i=>?_];have b:=m.step S;have g:=Ad.step S _ _ hd;refine#[λd j=>?_,λj=>#[c,b,by rw[j,hd.length];exact Bf _]];obtain⟨w,n,k⟩:=g.get j;refine#[#[c,w,b,n],λx z y=>?_];obtain⟨rfl,y⟩:=y;have:=y c b;rw[n]at this;cases this;exact#[Ah.refl _,k]
 |_=>cases e
theorem oJ{l:Expr}{f:AB}(h:PE X l (tQ K M H0 f)):PI X tg l (tI K M H0 λρ=>(f ρ).bind oG):=(mY h).mono λs H t j=>by
 obtain⟨ρ,u,R,e,q⟩:=j;obtain⟨d,k,e⟩:=B4.mp e;cases d with
 |str x=>
  cases e;refine#[ρ,.str x,R,k,λv m n o=>?_];refine#[x,o,q _ m n λw z S i=>#[λd a=>?_,λa=>?_]]
  ·rw[Dy]at a;obtain⟨c,g,a⟩:=B0.mp a;cases a;have p:i<x.cps.size:=by
    have:=(C8.mp g).1;simpa using this
   refine#[p,λv A y=>?_];obtain⟨r,B,b,y⟩:=y;subst r y;rw[<- Array.getElem?_toList,g]at b;cases b;exact#[Ah.refl _,by erw[As]]
  ·have:i=x.cps.size:=by simpa using a
   exact Nat.le_of_eq this.symm
 |_=>cases e
def Hz(lo:Int)(n:Nat):U D:=(Bq n).map (λ(k:Nat)=>D.int (lo+(k:Int)))
theorem Sw{M N:Fb}{c:Hp}{lo:Int}{n:Nat}:LW K M N c (MG lo n) (Hz lo n):=λg h S i=>by
 refine#[λd a=>?_,λa=>?_]
 ·have b:i<n:=by
   have:=(C8.mp a).1;simpa[Hz]using this
  have e:d=D.int (lo+i):=by
   erw[Hz,Dy,List.getElem?_range b,Jz,O6]at a;exact a.symm
  subst e;refine#[b,λx j y=>?_];obtain⟨f,y⟩:=y;subst f y;exact#[Ah.refl _,by erw[As]]
 ·have:i=n:=by simpa[Hz]using a
  exact Nat.le_of_eq this.symm
def gd{a:Type}(p:Prop)(o:O a):O a:=@ite _ p (O7 p) o J
theorem LX{a:Type}{p:Prop}{o:O a}(h:p):gd p o=o:=by grind [gd]
theorem O8{a:Type}{p:Prop}{o:O a}{x:a}(h:gd p o=Z x):p/\o=Z x:=by grind [LX,gd]
def EH:U D->A0
 |[.int j]=>gd (-1000000000<=j/\j<1000000000) (Z (Hz 0 j.toNat))
 |_=>J
def M5:U D->A0
 |[.int i,.int j]=>gd (-1000000000<=i/\i<1000000000 /\ -1000000000<=j/\j<1000000000) (Z (Hz i (j-i).toNat))
 |_=>J
set_option tactic.hygienic true in
theorem oK{a:Expr}{b:DD}{p:AD}(f:Gl X "range")(g:X.mg "range"=J)(c:JA X [a] (CW K M H0 b))(i:AC [a] X.env=[(O',Ap a X.env)]:=by rfl):JI X tg (.Call (.Name "range" p) [a] [] pos) (tI K M H0 λρ=>((b ρ).bind Zj).bind EH):=#[have c:=c.h;(Xl f g c i).mono λy H z k=>by
  obtain⟨ρ,A,R,e,q⟩:=k;try dsimp only at e q
  cases d:b ρ with|none=>simp[d]at e|some m=>
   rw[d]at e;obtain⟨l,n,e⟩:=B4.mp e;unfold EH at e;split at e
   ·next j=>
    obtain⟨B,e⟩:=O8 e;cases e;refine#[ρ,m,R,d,λC o s t=>?_];have hd:=M0 t n;obtain⟨v,r,u,w,x⟩:=hd;subst u w x;exact#[j,rfl,by lia,by lia,q _ o s Sw]
   ·cases e]
set_option tactic.hygienic true in
theorem oM{a b:Expr}{c:DD}{p:AD}(k:Gl X "range")(m:X.mg "range"=J)(d:JA X [a,b] (CW K M H0 c))(n:AC [a,b] X.env=[(O',Ap a X.env),(O',Ap b X.env)]:=by rfl)(f:AC [b] X.env=[(O',Ap b X.env)]:=by rfl):JI X tg (.Call (.Name "range" p) [a,b] [] pos) (tI K M H0 λρ=>((c ρ).bind Zj).bind M5):=#[have d:=d.h;(la k m d n f).mono λE H G o=>by
  obtain⟨ρ,Q,R,e,q⟩:=o;try dsimp only at e q
  cases g:c ρ with|none=>simp[g]at e|some s=>
   rw[g]at e;obtain⟨l,t,e⟩:=B4.mp e;unfold M5 at e;split at e
   ·next i j=>
    obtain⟨F,e⟩:=O8 e;cases e;refine#[ρ,s,R,g,λL u w x=>?_];have hd:=M0 x t;obtain⟨v,r,y,z,N,P,A,B,C⟩:=hd;subst z B C A y;exact#[i,j,rfl,#[by lia,by lia,by lia,by lia],q _ u w Sw]
   ·cases e]
end
def O9(K:Ao)(M:Fb)(H0:Hp)(ws:U Nat)(b:U D->VE->O VE):Ik:=λg d H Q=>∃e f c,Bh K M H0 e d H/\Ad K (Nf M e d) H f g/\b f e=Z c/\∀a ,Bh K M H0 c a H->Step M (Nf M e d) (Nf M c a) H H->(∀j,j∉ws->a[j]?=d[j]?)->Q a H
@[simp] def Z9:U D->VE->O VE
  |[],a=>Z a
  |_,_=>J
@[simp] def Zq(b:D->VE->O VE)(c:U D->VE->O VE):U D->VE->O VE
  |d::r,a=>(b d a).bind (c r)
  |_,_=>J
@[simp] def Ch(n:Nat)(b:U D->VE->O VE):D->VE->O VE
  |.tup a,c=>if a.length=n then b a c else J
  |_,_=>J
section
variable{K:Ao}{M:Fb}{e:Expr}{ws':U Nat}{b:D->VE->O VE}{c:U D->VE->O VE}
theorem oO :JK X [] (O9 K M H0 [] Z9):=#[by
 intro a s b H c d Q i r #[h,f,g,R,hd,e,q];cases f with
 |nil=>
  cases e;exact kP a s b H c d Q i r #[hd,q b R Step.refl λ_ _=>rfl]
 |cons=>cases e]
theorem oP(g:JG X e (tG K M H0 ws b))(i:JK X es (O9 K M H0 ws' c))(p:(Gx (e::es) X.env).map (·.2)=assign e X.env::(Gx es X.env).map (·.2):=by rfl):JK X (e::es) (O9 K M H0 (ws++ws') (Zq b c)):=#[have g:=g.h;have i:=i.h;by
 intro a s t H N u Q F r #[w,k,l,R,hd,e,q];cases k with|nil=>cases e|cons d k=>
  obtain⟨v,x,rfl,z,A⟩:=hd;obtain⟨f,B,e⟩:=B4.mp e;refine kQ g i p a s t H _ u Q F r #[v,x,rfl,w,d,f,R,z,B,λC E o G=>#[f,k,l,E,Ad.step o _ _ A,e,λm R2 y L=>q m R2 (o.trans y) λj n=>?_]];rw[Dw,not_or]at n;rw[L j n.2,G j n.1]]
theorem oQ{k n:Nat}(i:X.calm=J')(h:JK X es (O9 X.K M H0 ws c))(j:(Gx es X.env).length=n:=by rfl)(f:(Gx es X.env).findIdx? (·.1)=J:=by rfl):JG X (.Tuple es k pos) (tG X.K M H0 ws (Ch n c)):=#[have h:=h.h;by
 intro b s l H v u Q y r #[m,d,g,R,hd,e,q];cases d with
 |tup o=>
  obtain⟨p,e⟩:=ZV e;obtain⟨a,t,w,x,hd⟩:=hd;exact kS i h j f b s l H v u Q y r #[a,t,w,x,by rw[<- hd.length];exact p,m,o,g,R,hd,e,q]
 |_=>cases e]
end
@[simp] def JP:O Sl->Sl
  |some (.val d)=>.val d
  |some (.own a b _)=>.lent a b
  |some (.lent a b)=>.lent a b
  |_=>.no
@[simp] def Zt(k:Nat)(oix:U Nat)(ρ:VE):VE:=Dx k .no++oix.map λj=>JP ρ[j]?
noncomputable def ZX(b:D->VE->O VE)(t:VE->O Bool)(e:AB)(ρ:VE):U D->A0
 |[]=>Z []
 |d::c=>match b d ρ with
  |none=>J
  |some a=>match t a with
   |some J'=>Zh (e a) (ZX b t e ρ c)
   |some O'=>ZX b t e ρ c
   |none=>J
@[simp] def Zn(k:Nat)(oix:U Nat)(f:VE->A0)(b:D->VE->O VE)(t:VE->O Bool)(e:AB):VE->A0:=λa=>(Ze (f a)).bind (ZX b t e (Zt k oix a))
section
variable{K:Ao}{M:Fb}{f:VE->A0}{b:D->VE->O VE}{t:VE->O Bool}{e:AB}{k:Nat}{oix:U Nat}
set_option tactic.hygienic true in
theorem Bh.comp(R:Bh K M H0 ρ I H)(k:Nat)(oix:U Nat):Bh K (Nf M ρ I) H (Zt k oix ρ) (E6 k oix I) H/\∀a,Nf (Nf M ρ I) (Zt k oix ρ) (E6 k oix I) a->Nf M ρ I a:=by
 have b:∀(j:Nat) (c:U D) (e:Kd) (f:O Ac),(Zt k oix ρ)[j]?≠Z (Sl.own c e f):=λj c e f h=>by
  unfold Zt at h;rw[KA]at h;split at h
  ·rw[Jq]at h;split at h<;>cases h
  ·rw[Dy]at h;cases l:oix[j-(Dx k Sl.no).length]? with|none=>rw[l]at h;cases h|some o=>
    rw[l]at h;erw[Jz,O6]at h;unfold JP at h;split at h<;>cases h
 have nf:∀a,Nf (Nf M ρ I) (Zt k oix ρ) (E6 k oix I) a->Nf M ρ I a:=λa h=>by
  rcases h with h|⟨j,c,e,f,h,_⟩
  ·exact h
  ·exact absurd h<|b j c e f
 refine#[#[by simp[Zt,E6],Ah.refl H,R.nh,λj s h=>?_,λi j c B e w f x a h=>absurd h<|b i c e f],nf];unfold Zt at h;rw[KA]at h;split at h
 ·rw[Jq]at h;obtain⟨_,h⟩:=ZV h;cases h;trivial
 ·next y=>
  rw[Dy]at h;have p:(E6 k oix I)[j]?=(oix[j-k]?).map λi=>(I[i]?).join:=by
   unfold E6;grind
  rw[p];erw[LH]at h;cases l:oix[j-k]? with|none=>rw[l]at h;cases h|some o=>
   rw[l]at h;erw[Jz,O6]at h;unfold JP at h;split at h
   ·next d hd=>subst h;obtain⟨v,g,q⟩:=R.slot o _ hd;exact#[v,g,q.nw λa m=>.inl<|nf a m]
   ·next c e f hd=>
    subst h;obtain⟨a,r,g,t,u,n,A⟩:=R.slot o _ hd;exact#[a,r,g,#[.inr #[o,c,e,f,hd,Fp g],λz=>by rw[n]at z;cases z],.inl n,A.nw λa m=>.inl<|nf a m]
   ·next c hd=>
    subst h;obtain⟨a,r,g,t,u,n⟩:=R.slot o _ hd;exact#[a,r,g,#[.inl t.1,R.mh a t.1],u,n.nw λa m=>.inl<|nf a m]
   ·subst h;trivial
def M6(K:Ao)(ws:U Nat)(b:D->VE->O VE):TG:=λv a H Q=>∃M H0,tG K M H0 ws b v a H Q
def M7(K:Ao)(t:VE->O Bool):TT:=λa H Q=>∃M H0,BQ K M H0 t a H Q
def M8(K:Ao)(e:AB):TE:=λa H Q=>∃M H0,tD K M H0 e a H Q
theorem Pa(hw:∀j∈ws,j<k)(hi:∀I H R,tI K M H0 f I H R->wi I H R){Q:VK}(h:tF K M H0 (Zn k oix f b t e) I H Q):OX k oix wi (M6 K ws b) (M7 K t) (M8 K e) I H Q:=by
 obtain⟨l,G,R,ex,q⟩:=h;obtain⟨m,W,ex⟩:=B4.mp ex;obtain⟨W,hz⟩:=Sr W;refine hi _ _ _ #[l,m,R,W,λF H1 s1 ok=>?_];refine#[m.length,λi L B=>i<=m.length/\L.length<=i/\Ah H1 B/\∃c AH,Ad K (Nf M l I) B c L/\ZX b t e (Zt k oix l) (m.drop i)=Z AH/\c++AH=G,#[FD _,Bf _,Ah.refl _,[],G,Ad.nil,ex,rfl],?_];rintro i L B ⟨hle,hy,u,c,AH,g,d,C⟩;obtain⟨N,P⟩:=ok _ B (Step.of_same u) i;by_cases n:i<m.length
 ·obtain⟨go,y⟩:=N m[i]<|CK n;rw[MU n]at d;erw[ZX]at d;refine .inr ⟨go,n,by lia,λr T=>r.length<=i+1/\Ah H1 T/\∃c AH,Ad K (Nf M l I) T c r/\ZX b t e (Zt k oix l) (m.drop<|i+1)=Z AH/\c++AH=G,λr T z=>⟨n,z⟩,λx E yl=>?_⟩;obtain⟨w,hd⟩:=y x E yl;have R3:=((R.st s1).st u).st w;obtain⟨Rc,nf⟩:=R3.comp k oix;cases S:b m[i] (Zt k oix l)with
  |none=>rw[S]at d;cases d
  |some o=>
   rw[S]at d;simp only at d;refine#[Nf M l I,E,Zt k oix l,m[i],o,Rc,hd.nw λa Y=>.inl<|nf a Y,S,λσ4 R4 S4 w4=>#[?_,?_]]
   ·apply JM;intro j;rw[List.getElem?_drop,List.getElem?_drop];exact w4 _ λhj=>absurd (hw _ hj) (by lia)
   ·cases ht:t o with|none=>rw[ht]at d;cases d|some bb=>
     rw[ht]at d;refine#[Nf M l I,E,o,bb,R4,ht,λH5 A=>?_];cases bb with
     |true=>
      obtain⟨yd,s,e1,e2,e3⟩:=Iy d;refine Ky ?_;refine#[Nf M l I,E,o,yd,R4.st A,e1,λv H6 s6 hv=>#[?_,((u.trans w).trans A).trans s6,c++[yd],s,(g.same<|(w.trans A).trans s6).append<|Ad.cons (hv.nw λa Y=>.inl<|.inl Y) Ad.nil,e2,?_]]
      ·erw[FG,List.length_singleton];lia
      ·subst e3;rw[<- C];simp
     |false=>
      refine Kz ?_;exact#[by lia,(u.trans w).trans A,c,AH,g.same<|w.trans A,d,C]
 ·have ei:i=m.length:=by lia
  rw[MS (by lia)]at d;cases d;rw[D0]at C;subst C;exact .inl #[P ei,by lia,λp hp=>LS (s1.trans u) hp g q]
theorem PG.all(h:∀M H0,PG Y tg (tG K M H0 ws b)):PG Y tg (M6 K ws b):=λa s c H v u Q d r ⟨M,H0,z⟩=>h M H0 a s c H v u Q d r z
theorem G7.all(h:∀M H0,G7 Y ifs (BQ K M H0 t)):G7 Y ifs (M7 K t):=λa s b H Q c ⟨M,H0,z⟩=>h M H0 a s b H Q c z
theorem PE.all(h:∀M H0,PE Y elt (tD K M H0 e)):PE Y elt (M8 K e):=λa s b H Q c ⟨M,H0,z⟩=>h M H0 a s b H Q c z
theorem oR:JF Y [] (BQ K M H0 λ_=>Z J'):=#[λa s c H Q f ⟨d,b,R,e,q⟩=>mV a s c H Q f (by cases e;exact q H<|Ah.refl H)]
theorem oU{c:Expr}(h:JT Y c (BQ K M H0 t)):JF Y [c] (BQ K M H0 t):=#[have h:=h.h;mW h]
structure CB(K:Ao)(X:Cx)(own outs:List Ae)(scope:Scope)(tg:Expr)(ifs:List Expr)(elt:Expr)(ws:List Nat)(b:D->VE->Option VE)(t:VE->Option Bool)(e:AB):Prop where
 g:∀C s2 H2 fp pins,PG (Dp X own outs scope C s2 H2 fp pins) tg (M6 K ws b)
 t:∀C s2 H2 fp pins,G7 (Dp X own outs scope C s2 H2 fp pins) ifs (M7 K t)
 e:∀C s2 H2 fp pins,PE (Dp X own outs scope C s2 H2 fp pins) elt (M8 K e)
theorem oV{own c:U Ae}(j:∀{C d f g a i H'},JG (Dp X own c scope C d f g a) tg (tG K i H' ws b))(k:∀{C d f g a i H'},JF (Dp X own c scope C d f g a) ifs (BQ K i H' t))(l:∀{C d f g a i H'},JE (Dp X own c scope C d f g a) elt (tD K i H' e)):CB K X own c scope tg ifs elt ws b t e:=#[λ_ _ _ _ _=>PG.all λ_ _=>j.h,λ_ _ _ _ _=>G7.all λ_ _=>k.h,λ_ _ _ _ _=>PE.all λ_ _=>l.h]
theorem oW(own a:U Ae)(oix:U Nat)(S:Iw own a scope X.env.scope)(c:oix.map (λj=>X.N[j]?)=a.map Z)(i:X.calm=J')(k:JI X tg iter (tI K M H0 f))(d:CB K X own a scope tg ifs elt ws b t e)(l:∀j∈ws,j<own.length)(m:∀x,EQ iter X.env x=AA x:=by intro _;rfl):JE X (.ListComp elt [#[tg,iter,ifs,0]] scope pos) (tF K M H0 (Zn own.length oix f b t e)):=#[(Ya own a oix S c i k.h d.g d.t d.e m).mono λ_ _ _ z=>Pa l (λ_ _ _ z=>z) z]
theorem oX(own a:U Ae)(oix:U Nat){i:Nat}{x:Ae}{c d:AD}(S:Iw own a scope X.env.scope)(k:oix.map (λj=>X.N[j]?)=a.map Z)(o:X.calm=J')(p:X.N.Nodup)(l:X.N[i]?=Z x)(q:X.env.scope.names.lookup x=Z .local)(r:JI X tg iter (tI K M H0 f))(m:CB K X own a scope tg ifs elt ws b t e)(s:∀j∈ws,j<own.length)(n:Ef (.ListComp elt [#[tg,iter,ifs,0]] scope pos) (Z (.Name x c)) d.line X.env=AA J':=by rfl)(u:∀x,EQ iter X.env x=AA x:=by intro _;rfl):JS X (.Assign [.Name x c] (.ListComp elt [#[tg,iter,ifs,0]] scope pos) d) (tS K M H0 λρ=>Dg i (Zn own.length oix f b t e ρ) ρ):=#[(Sg own a oix S k o p l q r.h m.g m.t m.e n u).mono λv w H z=>Pa s (λ_ _ _ z=>z) (Sv z)]
theorem oY(own c:U Ae)(oix:U Nat){i:Nat}{x:Ae}{k l:AD}(S:Iw own c scope X.env.scope)(n:oix.map (λj=>X.N[j]?)=c.map Z)(v:X.calm=J')(w:X.N.Nodup)(o:X.N[i]?=Z x)(y:X.env.scope.names.lookup x=Z .local)(A:JI X tg iter (tI K M H0 f))(m:CB K X own c scope tg ifs elt ws b t e)(B:∀j∈ws,j<own.length)(p:Ef (.ListComp elt [#[tg,iter,ifs,0]] scope pos) (Z (.Name x k)) l.line X.env=AA J':=by rfl)(C:∀x,EQ iter X.env x=AA x:=by intro _;rfl):JS X (.Assign [.Name x k] (.ListComp elt [#[tg,iter,ifs,0]] scope pos) l) (tS K M H0 λρ=>Z0 i (Zw (Zn own.length oix f b t e ρ)) ρ):=#[(Sg own c oix S n v w o y A.h m.g m.t m.e p C).mono λE u H z=>by
   have G:=Yv z;obtain⟨ρ,d,R,r,q⟩:=G;obtain⟨F,L,r⟩:=B0.mp r;cases r;refine Pa B (λ_ _ _ z=>z) #[ρ,F,R,L,λa P Y s Q T W=>q _ _ s ?_];exact#[a,P,rfl,.of (R.fresh Q) T,W.nw λb m=>.inl<|.inl m]]
end
noncomputable def AO(a n:Nat)(g:Ay):U Sl->O Rv:=λb=>if b.length=a then
  match g (b++Dx (n-a) .no)with
  |.ret r=>Z r
  |.next _=>Z (.val .non)
  |_=>J
 else J
theorem oZ{K:Ao}{N:Fb}{l:U Sl}(o:∀a,N a->H a≠J)(h:BG K N H l vs)(n:Nat):Bh K N H (l++Dx n .no) (vs.map Z++Dx n J) H:=by
 have p:=h.length;have b:∀(j:Nat) (f:U D) (g:Kd) (k:O Ac),(l++Dx n Sl.no)[j]?≠Z (Sl.own f g k):=λj f g k e=>by
  rw[KA]at e;split at e
  ·obtain⟨v,_,q⟩:=h.get e;exact q
  ·rw[Jq]at e;split at e<;>cases e
 have nf:∀a,Nf N (l++Dx n Sl.no) (vs.map Z++Dx n J) a->N a:=λa z=>by
  rcases z with z|⟨j,f,g,k,z,_⟩
  ·exact z
  ·exact absurd z<|b j f g k
 refine#[by simp[p],Ah.refl H,o,λj s e=>?_,λi j f E g t k u a z=>absurd z<|b i f g k];rw[KA]at e;split at e
 ·next w=>
  obtain⟨v,x,q⟩:=h.get e;rw[MQ (by simpa[<- p]using w),Dy,x];cases s with
  |val d=>exact#[v,rfl,As.nw q λa m=>.inl<|nf a m]
  |lent f g=>obtain⟨a,y,A,r,B,C⟩:=q;exact#[a,y,by rw[A];rfl,#[r,o a r],B,C.nw λa m=>.inl<|nf a m]
  |no=>trivial
  |own f g k=>exact BM q
  |exc c=>exact BM q
 ·rw[Jq]at e;obtain⟨_,e⟩:=ZV e;cases e;trivial
theorem o0{P:AM}{w:Ai}{K:Ao}{mg:Bx}{base:Ak}{x b:Ae}{st:Az}{f:Ac}{fd:Cd}{N d:U Ae}{k:Nat}{g:Ay}(F:Jy K x b st f fd)(S:EE N d (Zf st))(u:d.length<=N.length) (y:∀(c:Aa) (A:Ag) (outer:U Env) (s:Ab) (H:Hp) (E:XK) (M:Fb) (H0:Hp),AI k (A.deeper (A3 b (Zf st) s.heap.objs.size f c))->EC (Df Bm P w K mg base N b (Zf st) f c A outer s H E).nox (ZI st) (tS K M H0 g)):AR P w K mg base Bm (k+1) f fd d (A1 K (AO d.length N.length g)):=by
 refine F.ok S (λl H Q E h=>?_) (λc A outer s H l Q E z h=>?_)
 ·obtain⟨o,p,r,t,j,a,q⟩:=h;obtain⟨m,a⟩:=ZV a;rw[<- j.length];exact m
 ·obtain⟨o,p,r,t,j,a,q⟩:=h;refine#[_,y c A outer s H E o H z,?_];obtain⟨m,a⟩:=ZV a;have B:FE N l=l.map Z++Dx (N.length-d.length) J:=by unfold FE;rw[<- j.length,m]
  rw[B];refine#[_,oZ t j<|N.length-d.length,?_];cases e:g (p++Dx (N.length-d.length) .no)with
  |fail=>simp[e]at a
  |next i=>rw[e]at a;cases a;exact λC n G R=>q .non n G.same (by erw[Ew,As])
  |brk i=>rw[e]at a;cases a
  |cont i=>rw[e]at a;cases a
  |ret L=>rw[e]at a;cases a;exact λv n s T=>q v n s T
theorem YA{P:AM}{w:Ai}{K:Ao}{mg:Bx}{base:Ak}{x a:Ae}{st:Az}{f:Ac}{fd:Cd}{N c:U Ae}{k:Nat}{g:Ay}(F:Jy K x a st f fd)(S:EE N c (Zf st))(d:c.length<=N.length) (e:∀(b:Aa) (A:Ag) (outer:U Env) (s:Ab) (H:Hp) (E:XK) (M:Fb) (H0:Hp),AI k (A.deeper (A3 a (Zf st) s.heap.objs.size f b))->JB (Df Bm P w K mg base N a (Zf st) f b A outer s H E).nox (ZI st) (tS K M H0 g)):AR P w K mg base Bm (k+1) f fd c (A1 K (AO c.length N.length g)):=o0 F S d λb A outer s H E M H0 i=>(e b A outer s H E M H0 i).h
section
variable{K:Ao}
@[simp] noncomputable def i2(g:Int->Int->O D):D->D->O D
  |.int i,.int j=>g i j
  |_,_=>J
theorem Sx{g:Int->Int->O D}{x y d:D}(h:i2 g x y=Z d):∃i j,x=.int i/\y=.int j/\g i j=Z d:=by
 unfold i2 at h;grind
theorem Aw.int{N:Fb}{i:Int}{v:V}(h:Aw K N H (.int i) v):v=.int i:=by simpa only[Aw,As]using h
theorem Aw.str{N:Fb}{i:Ae}{v:V}(h:Aw K N H (.str i) v):v=.str i:=by simpa only[Aw,As]using h
theorem Aw.bl{N:Fb}{i:Bool}{v:V}(h:Aw K N H (.bl i) v):v=.bl i:=by simpa only[Aw,As]using h
theorem Aw.non{N:Fb}{v:V}(h:Aw K N H .non v):v=.non:=by simpa only[Aw,As]using h
theorem Aw.ty{N:Fb}{i:String}{v:V}(h:Aw K N H (.ty i) v):v=.ty i:=by simpa only[Aw,As]using h
theorem Aw.tup{N:Fb}{v:V}(h:Aw K N H (.tup xs) v):∃a vs,v=.ref a/\B3 K H a vs/\Ad K N H xs vs:=by simpa only[Aw,As]using h
theorem Fq{N:Fb}{i:Int}:As K N H (.int i) (.int i):=by erw[As]
theorem G9{N:Fb}{i:Bool}:As K N H (.bl i) (.bl i):=by erw[As]
theorem Pb{N:Fb}{i:Ae}:As K N H (.str i) (.str i):=by erw[As]
theorem o5(g:Int->Int->Int):Eh K (Hu λi j=>.int (g i j)) (i2 λi j=>Z (.int (g i j))):=by
 intro N H x y c f d Q h a b e q;obtain⟨i,j,rfl,rfl,e⟩:=Sx e;cases e;exact#[i,j,a.int,b.int,q _ H (Ah.refl H) Fq]
theorem M9(g:Int->Int->Bool):Eh K (Hu λi j=>.bl (g i j)) (i2 λi j=>Z (.bl (g i j))):=by
 intro N H x y c f d Q h a b e q;obtain⟨i,j,rfl,rfl,e⟩:=Sx e;cases e;exact#[i,j,a.int,b.int,q _ H (Ah.refl H) G9]
theorem Pc{C:Int->Int->Prop}[∀i j,Decidable (C i j)](g:Int->Int->Int):Eh K (rI C λi j=>.int (g i j)) (i2 λi j=>if C i j then Z (.int (g i j))else J):=by
 intro N H x y h k d Q l b c e q;obtain⟨i,j,rfl,rfl,a⟩:=Sx e;split at a
 ·next f=>cases a;exact#[i,j,b.int,c.int,f,q _ H (Ah.refl H) Fq]
 ·cases a
instance (i j:Int):Decidable (MK i j):=by unfold MK;exact inferInstance
instance (i j:Int):Decidable (DY i j):=by unfold DY;exact inferInstance
instance (i j:Int):Decidable (Lz i j):=by unfold Lz;exact inferInstance
@[simp] def Iz:D->D->O D:=i2 λi j=>Z (.int (i-j))
@[simp] def EV:D->D->O D:=i2 λi j=>if DY i j then Z (.int (i*j))else J
@[simp] def JQ:D->D->O D:=i2 λi j=>if MK i j then Z (.int (i/j))else J
@[simp] def ZS:D->D->O D:=i2 λi j=>if 0<j then Z (.int (i%j))else J
@[simp] def KC:D->D->O D:=i2 λi j=>if Lz i j then Z (.int (i^j.toNat))else J
@[simp] def Pd:D->D->O D:=i2 λi j=>Z (.bl (decide (i<=j)))
@[simp] def EW:D->D->O D:=i2 λi j=>Z (.bl (decide (j<i)))
@[simp] def KD:D->D->O D:=i2 λi j=>Z (.bl (decide (j<=i)))
section
variable{M:Fb}{a b:Expr}{f g:AB}
theorem o6(c:JE X a (tP K M H0 f))(d:JE X b (tP K M H0 g)):JE X (.BinOp a .Sub b pos) (tD K M H0 (Za Iz f g)):=#[have c:=c.h;have d:=d.h;LP lh (o5 _) c d]
theorem o7(c:JE X a (tP K M H0 f))(d:JE X b (tP K M H0 g)):JE X (.BinOp a .Mult b pos) (tD K M H0 (Za EV f g)):=#[have c:=c.h;have d:=d.h;LP li (Pc _) c d]
theorem o8(c:JE X a (tP K M H0 f))(d:JE X b (tP K M H0 g)):JE X (.BinOp a .FloorDiv b pos) (tD K M H0 (Za JQ f g)):=#[have c:=c.h;have d:=d.h;LP lj (Pc _) c d]
theorem o9(c:JE X a (tP K M H0 f))(d:JE X b (tP K M H0 g)):JE X (.BinOp a .Mod b pos) (tD K M H0 (Za ZS f g)):=#[have c:=c.h;have d:=d.h;LP ll (Pc _) c d]
theorem pa(c:JE X a (tP K M H0 f))(d:JE X b (tP K M H0 g)):JE X (.BinOp a .Pow b pos) (tD K M H0 (Za KC f g)):=#[have c:=c.h;have d:=d.h;LP lm (Pc _) c d]
@[simp] noncomputable def HA:O D->O D
  |some (.int i)=>Z (.int (-i))
  |_=>J
set_option tactic.hygienic true in
theorem pc(b:JE X a (tP K M H0 f)):JE X (.UnaryOp .USub a pos) (tD K M H0 λρ=>HA (f ρ)):=#[have b:=b.h;(lg lr b).mono λl H Q c=>by
 obtain⟨ρ,d,R,e,q⟩:=c;try dsimp only at e q
 unfold HA at e;split at e
 ·next i g=>cases e;exact#[ρ,.int i,R,g,λv j s k=>#[i,k.int,q _ j s Fq]]
 ·cases e]
end
end
section
def YB(K:Ao):R2:=λx y H Q=>∃l b a c,x=.ref l/\y=.ref b/\BL K H l a/\BL K H b c/\a.length+c.length<=Ax/\∀p,H p=J->Q (.ref p) (AG H p (.lst (a++c)))
theorem IA:Ca X (GZ .Add) (YB X.K):=by
 intro k s M H x y v u Q zA t w h;obtain⟨l,b,N,R,rfl,rfl,z,A,B,q⟩:=h;cases t;cases w;obtain⟨c,r,p1,T⟩:=zA.list z;obtain⟨a,m,C,S⟩:=zA.list A;have Y:=r.length;have E:=m.length;obtain⟨⟨cls,G,data,P⟩,o,L,n,hd⟩:=p1.isList;obtain⟨⟨p,f,data2,g⟩,d,i,n2,j⟩:=C.isList;subst L hd i j;have e:c.toArray++a.toArray=(c++a).toArray:=by simp
 refine concat_meets #[_,o,rfl] #[_,d,rfl] noFill_list_add seq_list_add PySem.F.slot_list_add PySem.F.entry_list_add (PySem.F.args_list_add_2 _ _) (list_addW l b c.toArray a.toArray n n2 G f P g (by rw[BV,BV];lia)) #[o,d,?_];rw[e];exact#[.ref _,_,zA.lnew (t':=s.toks) (r.append m) (by rw[FG];exact W.kdl_size B),rfl,q _ zA.fresh]
def YC(K:Ao):R2:=λx y H Q=>∃l b a c,x=.ref l/\y=.ref b/\B3 K H l a/\B3 K H b c/\a.length+c.length<=Ax /\
 (a=[]->Q (.ref b) H)/\(c=[]->Q (.ref l) H)/\∀p,H p=J->Q (.ref p) (AG H p (.tup (a++c)))
theorem pe:Ca X (GZ .Add) (YC X.K):=by
 intro C s I H x y v u Q zA N R h;obtain⟨l,b,E,G,rfl,rfl,T,S,Y,qx,qz,q⟩:=h;cases N;cases R;obtain⟨c,r,p1,z1⟩:=zA.tuple T;obtain⟨a,P,p2,z2⟩:=zA.tuple S;have L:=r.length;have k:=P.length;obtain⟨⟨cls,o,data,p⟩,j,hc,n,hd⟩:=id p1;obtain⟨⟨M,f,data2,g⟩,d,t,n2,w⟩:=id p2;subst hc hd t w;by_cases A:E=[]
 ·have m:c.toArray.isEmpty=J':=by
   subst A;have:=Pe.mp L.symm;subst this;rfl
  exact concat_meets #[_,j,rfl] #[_,d,rfl] noFill_tuple_add seq_tuple_add PySem.F.slot_tuple_add YD (YE _ _) (tuple_addW0 l b c.toArray a.toArray n n2 o f p g m) #[j,d,#[.ref b,H,zA,rfl,qx A]]
 ·have m:¬ c.toArray.isEmpty=J':=by
   intro z;have:c=[]:=by simpa using z
   subst this;exact A<|Pe.mp L
  by_cases B:G=[]
  ·have i:a.toArray.isEmpty=J':=by
    subst B;have:=Pe.mp k.symm;subst this;rfl
   exact concat_meets #[_,j,rfl] #[_,d,rfl] noFill_tuple_add seq_tuple_add PySem.F.slot_tuple_add YD (YE _ _) (tuple_addW1 l b c.toArray a.toArray n n2 o f p g m i) #[j,d,#[.ref l,H,zA,rfl,qz B]]
  ·have i:¬ a.toArray.isEmpty=J':=by
    intro z;have:a=[]:=by simpa using z
    subst this;exact B<|Pe.mp k
   have e:c.toArray++a.toArray=(c++a).toArray:=by simp
   refine concat_meets #[_,j,rfl] #[_,d,rfl] noFill_tuple_add seq_tuple_add PySem.F.slot_tuple_add YD (YE _ _) (tuple_addW2 l b c.toArray a.toArray n n2 o f p g m i (by rw[BV,BV];lia)) #[j,d,?_];rw[e];refine#[.ref s.heap.objs.size,AG H s.heap.objs.size<|.tup<|E++G,zA.laid (t':=s.toks) (λb u e=>Br _ e) (Bf _) ?_,rfl,q _ zA.fresh];exact#[by rw[FG];exact W.kdl_size Y,c++a,r.append P,IsTup.new _ _]
end
@[simp] noncomputable def Zu:D->D->O D
  |.int i,.int j=>Z (.int (i+j))
  |.str x,.str y=>if x.length+y.length<=Ax then Z (.str (x++y))else J
  |.lst a,.lst b=>if a.length+b.length<=Ax then Z (.lst (a++b))else J
  |.tup a,.tup b=>if a.length+b.length<=Ax then Z (.tup (a++b))else J
  |_,_=>J
def YF(K:Ao):R2:=λx y H Q=>Hu (λi j=>.int (i+j)) x y H Q\/(∃i j,x=.str i/\y=.str j/\i.length+j.length<=Ax/\Q (.str (i++j)) H)\/YB K x y H Q\/YC K x y H Q
theorem pf:Ca X (GZ .Add) (YF X.K):=Ko.or<|Ff.or<|IA.or pe
theorem YG{K:Ao}{N:Fb}{p:Ac}(c:∀a,N a->H a≠J)(b:H p=J)(h:Ad K N H xs vs):As K N (AG H p (.lst vs)) (.lst xs) (.ref p):=by
 exact#[p,vs,rfl,.of (λz=>c p z b) ZH,h.same<|Z5 b]
theorem Na{K:Ao}{N:Fb}{p:Ac}(a:H p=J)(h:Ad K N H xs vs):As K N (AG H p (.tup vs)) (.tup xs) (.ref p):=by
 exact#[p,vs,rfl,B3.of ZH,h.same<|Z5 a]
theorem ph{K:Ao}:Eh K (YF K) Zu:=by
 intro N H x y t u d Q s k l e q;unfold Zu at e;split at e
 ·cases e;exact .inl #[_,_,k.int,l.int,q _ H (Ah.refl H) Fq]
 ·obtain⟨g,e⟩:=ZV e;cases e;exact .inr<|.inl ⟨_,_,k.str,l.str,g,q _ H (Ah.refl H) Pb⟩
 ·obtain⟨g,e⟩:=ZV e;cases e;obtain⟨a,h,o,m,c⟩:=k;obtain⟨b,i,r,n,f⟩:=l;exact .inr<|.inr<|.inl ⟨a,b,h,i,o,r,m,n,by rw[<- c.length,<- f.length];exact g,λp j=>q _ _ (Z5 j)<|YG s j<|c.append f⟩
 ·obtain⟨g,e⟩:=ZV e;cases e;obtain⟨a,h,o,m,c⟩:=k.tup;obtain⟨b,i,r,n,f⟩:=l.tup;refine .inr<|.inr<|.inr ⟨a,b,h,i,o,r,m,n,by rw[<- c.length,<- f.length];exact g,λz=>?_,λz=>?_,λp j=>q _ _ (Z5 j)<|Na j<|c.append f⟩
  ·refine q _ H (Ah.refl H) ?_;exact#[b,h++i,rfl,by rw[z];exact n,c.append f]
  ·refine q _ H (Ah.refl H) ?_;exact#[a,h++i,rfl,by rw[z,D0];exact m,c.append f]
 ·cases e
theorem pi{M:Fb}{a b:Expr}{f g:AB}(c:JE X a (tP X.K M H0 f))(d:JE X b (tP X.K M H0 g)):JE X (.BinOp a .Add b pos) (tD X.K M H0 (Za Zu f g)):=#[have c:=c.h;have d:=d.h;LP pf ph c d]
def pj(K:Ao):V->O Int->O Int->Hp->VK->Prop:=λx lo c H Q=>∃a b,x=.ref a/\B3 K H a b/\(Io b lo c=b->Q (.ref a) H)/\∀p,H p=J->Q (.ref p) (AG H p (.tup (Io b lo c)))
theorem IB:Jw X (pj X.K):=by
 intro i s w H x v y z lo e A Q B l m n p h;obtain⟨a,d,rfl,t,u,q⟩:=h;cases l;obtain⟨f,r,j,k⟩:=B.tuple t;have c:f.toArray.size=d.length:=by rw[BV];exact r.length.symm
 refine#["tuple",_,PyProof.Rows.slot_tuple_getitem.lookup,j.typeIs,HT.getItem_tuple_cut j m n p (λg=>#[.ref a,H,B,rfl,u ?_]) (λ_=>?_) (by rw[c];exact k)]
 ·rw[c]at g;unfold Io;rw[g.1,g.2,List.drop_zero,Nat.sub_zero,List.take_length]
 ·rw[c];exact#[.ref s.heap.objs.size,_,B.laid (t':=s.toks) (o:=.tup<|Io d lo e) (λb ob q=>Br _ q) (Bf _) (#[BZ (XW d lo e) k,_,(r.drop<|HT.sIx d.length 0 lo).take<|HT.sIx d.length d.length e-HT.sIx d.length 0 lo,IsTup.new _ _]),rfl,q _<|B.hok.fresh<|Bf _]
@[simp] def Ar:D->D->O D
  |.lst a,.int i=>atI a i
  |.tup a,.int i=>atI a i
  |.str x,.int i=>if x.length<=Ax then(atI x.cps.toList i).map λc=>.str #[(T' [c])]else J
  |_,_=>J
theorem Ad.atI{K:Ao}{N:Fb}{i:Int}{d:D}(h:Ad K N H xs vs)(e:L2.atI xs i=Z d):∃v,L2.atI vs i=Z v/\As K N H d v:=by
 unfold L2.atI at e ⊢;rw[<- h.length];cases a:D2 xs.length i with
 |none=>simp[a]at e
 |some j=>rw[a]at e;exact h.get e
set_option tactic.hygienic true in
theorem pq{K:Ao}:Eh K (X3 K) Ar:=by
 intro N H x y p r d Q s b f e q;unfold Ar at e;split at e
 ·obtain⟨a,g,h,j,k⟩:=b;obtain⟨v,l,m⟩:=k.atI e;exact .inl #[a,g,_,v,h,f.int,j,l,q v H (Ah.refl H) m]
 ·obtain⟨a,g,h,j,k⟩:=b.tup;obtain⟨v,l,m⟩:=k.atI e;exact .inr<|.inl ⟨a,g,_,v,h,f.int,j,l,q v H (Ah.refl H) m⟩
 ·split at e
  ·next z i n=>
   obtain⟨c,o,e⟩:=B0.mp e;cases e;exact .inr<|.inr ⟨z,i,c,b.str,f.int,n,o,q _ H (Ah.refl H) Pb⟩
  ·cases e
 ·cases e
section
variable{K:Ao}{M:Fb}{a b e:Expr}{f g:AB}
theorem pw(c:JE X a (tP X.K M H0 f))(d:JE X b (tP X.K M H0 g))(e:MR b):JE X (.Subscript a b pos) (tD X.K M H0 (Za Ar f g)):=#[have c:=c.h;have d:=d.h;Ym mv pq c d e]
def tO(K:Ao)(M:Fb)(H0:Hp)(o:VE->O (O Int)):TO:=λc H Q=>∃a i,Bh K M H0 a c H/\o a=Z i/\∀b,Ah H b->Q i b
@[simp] def DG:O D->O (O Int)
  |some (.int i)=>Z (Z i)
  |_=>J
theorem PO.mono{e:O Expr}{t t':TO}(h:PO X e t)(m:∀I H Q,t' I H Q->t I H Q):PO X e t':=by
 intro a s I H Q b q;exact h a s I H Q b<|m I H Q q
theorem px :JO X J (tO K M H0 λ_=>Z J):=#[PO.mono mm λa H Q ⟨b,i,R,e,q⟩=>by(try dsimp only at e q);cases e;exact q H<|Ah.refl H]
set_option tactic.hygienic true in
theorem py(h:JE X e (tP K M H0 f)):JO X (Z e) (tO K M H0 λρ=>DG (f ρ)):=#[have h:=h.h;PO.mono (mo h) λg H Q a=>by
 obtain⟨ρ,i,R,e,q⟩:=a;try dsimp only at e q
 unfold DG at e;split at e
 ·next j b=>cases e;exact#[ρ,.int j,R,b,λv c s d=>#[j,d.int,q c s]]
 ·cases e]
def EX{a:Type}(xs:U a)(lo b:O Int):U a:=(xs.drop (HT.sIx xs.length 0 lo)).take (HT.sIx xs.length xs.length b-HT.sIx xs.length 0 lo)
@[simp] def D3(x:D)(lo a:O Int):O D:=match x with
  |.lst b=>Z (.lst (EX b lo a))
  |.tup b=>Z (.tup (EX b lo a))
  |.str x=>if x.length<=Ax then Z (.str (Txt.slice x lo a))else J
  |_=>J
theorem Ad.cut{K:Ao}{N:Fb}(h:Ad K N H xs vs)(lo a:O Int):Ad K N H (EX xs lo a) (Io vs lo a):=by
 unfold EX Io;rw[h.length];exact(h.drop _).take _
@[simp] noncomputable def DR{b:Type}(f:AB)(lo c:VE->O (O Int))(F:D->O Int->O Int->O b):VE->O b:=λa=>(f a).bind λx=>(lo a).bind λl=>(c a).bind λh=>F x l h
theorem pz{e:Type}{f:AB}{lo b:VE->O (O Int)}{F:D->O Int->O Int->O e}{d:e}(h:DR f lo b F ρ=Z d):∃x l u,f ρ=Z x/\lo ρ=Z l/\b ρ=Z u/\F x l u=Z d:=by
 unfold DR at h;cases a:f ρ with|none=>simp[a]at h|some x=>
  cases c:lo ρ with|none=>simp[a,c]at h|some l=>
   cases g:b ρ with
   |none=>simp[a,c,g]at h
   |some u=>rw[a,c,g]at h;exact#[x,l,u,rfl,rfl,rfl,h]
theorem pA{A B:O Expr}{lo C:VE->O (O Int)}(m:JE X e (tP X.K M H0 f))(n:JO X A (tO X.K M H0 lo))(o:JO X B (tO X.K M H0 C)):JE X (.Subscript e (.Slice A B J p2) pos) (tD X.K M H0 (DR f lo C D3)):=#[have m:=m.h;have n:=n.h;have o:=o.h;(mr (Ir.or<|IB.or m3) m n o).mono λT H Q G=>by
 obtain⟨r,d,R,ex,q⟩:=G;obtain⟨x,l,u,W,F,L,b⟩:=pz ex;refine#[r,x,R,W,λv S t c=>#[r,l,R.st t,F,λY w=>#[r,u,(R.st t).st w,L,λH3 E=>?_]]];have c:=(c.same w).same E;have s:=(t.trans w).trans E;have N:=R.st s;unfold D3 at b;split at b
 ·cases b;obtain⟨a,i,y,j,k⟩:=c;exact .inl #[a,i,y,j,λp g=>q _ _ (s.trans<|Z5 g)<|YG N.nh g<|k.cut l u]
 ·cases b;obtain⟨a,i,y,j,k⟩:=c.tup;refine .inr<|.inl ⟨a,i,y,j,λz=>q _ _ s ?_,λp g=>q _ _ (s.trans<|Z5 g)<|Na g<|k.cut l u⟩;exact⟨a,i,rfl,j,z ▸ k.cut l u⟩
 ·obtain⟨P,b⟩:=ZV b;cases b;exact .inr<|.inr ⟨_,c.str,P,q _ _ s Pb⟩
 ·cases b]
end
mutual
noncomputable def AF:D->D->Bool
 |.non,.non=>J'
 |.bl a,.bl b=>a==b
 |.bl a,.int b=>(if a then 1 else 0)==b
 |.int a,.bl b=>a==(if b then 1 else 0)
 |.int a,.int b=>a==b
 |.str a,.str b=>a==b
 |.tup c,.tup d=>CZ c d
 |.lst c,.lst d=>CZ c d
 |_,_=>O'
noncomputable def CZ:U D->U D->Bool
 |[],[]=>J'
 |x::a,y::b=>AF x y&&CZ a b
 |_,_=>O'
end
@[simp] noncomputable def A7:Nat->D->Bool
  |_,.non=>J'
  |_,.bl _=>J'
  |_,.int _=>J'
  |_,.str _=>J'
  |n+1,.tup a=>a.all (A7 n)
  |n+1,.lst a=>a.all (A7 n)
  |_,_=>O'
mutual
theorem Pf:∀(n:Nat)(d:D),A7 n d=J'->AF d d=J'
 |_,.non,_=>by erw[AF]
 |_,.bl _,_=>by erw[AF,beq_self_eq_true]
 |_,.int _,_=>by erw[AF,beq_self_eq_true]
 |_,.str _,_=>by erw[AF,beq_self_eq_true]
 |0,.ty _,h=>by simp[A7]at h
 |_+1,.ty _,h=>by simp[A7]at h
 |0,.tup a,h=>by simp[A7]at h
 |0,.lst a _,h=>by simp[A7]at h
 |n+1,.tup a,h=>by erw[A7]at h;erw[AF];exact Nb n a h
 |n+1,.lst a .l,h=>by erw[A7]at h;erw[AF];exact Nb n a h
 |n+1,.lst a .d,h=>by simp[A7]at h
 |n+1,.lst a (.i _ _),h=>by simp[A7]at h
theorem Nb:∀(n:Nat)(xs:U D),xs.all (A7 n)=J'->CZ xs xs=J'
 |_,[],_=>by erw[CZ]
 |n,x::xs,h=>by
  erw[LY,CM]at h
  erw[CZ,CM]
  exact#[Pf n x h.1,Nb n xs h.2]
end
theorem Sy:∀{xs ys:U D},xs.length≠ys.length->CZ xs ys=O'
 |[],[],h=>absurd rfl h
 |[],_::_,_=>by erw[CZ]
 |_::_,[],_=>by erw[CZ]
 |x::xs,y::ys,h=>by
  erw[CZ];rw[Sy (by simpa using h),Bool.and_false]
theorem Sz:∀{xs ys:U D},xs.length=ys.length->CZ xs ys=(Bq xs.length).all λj=>AF (xs.getD j .non) (ys.getD j .non)
 |[],[],_=>by simp[CZ]
 |[],_::_,h=>by simp at h
 |_::_,[],h=>by simp at h
 |x::xs,y::ys,h=>by
  have a:=Sz (by simpa using h);erw[CZ,Cg,List.range_succ_eq_map,LY,List.getD_cons_zero,HB,a];rfl
section
variable{s:Ab}
theorem Inv.apart(k:Inv X pins I H s){xs:U V}(h:BL X.K H a xs)(h':B3 X.K H a ys):False:=by
 obtain⟨d,r,⟨o,n,e,c,_⟩,_⟩:=k.list h;obtain⟨b,f,⟨g,i,j,_⟩,_⟩:=k.tuple h';simp_all
theorem Inv.apartDL(l:Inv X pins I H s){d:U KT}{xs:U V}(h:Rd H a (.dct d xs))(h':BL X.K H a ys):False:=by
 obtain⟨_,_,_,o,_,_,e,c,_⟩:=h.ok l.hok;obtain⟨b,f,⟨g,i,j,k,_⟩,_⟩:=l.list h';simp_all
theorem Inv.apartDT(k:Inv X pins I H s){d:U KT}{xs:U V}(h:Rd H a (.dct d xs))(h':B3 X.K H a ys):False:=by
 obtain⟨_,_,_,o,_,_,e,c,_⟩:=h.ok k.hok;obtain⟨b,f,⟨g,i,j,_⟩,_⟩:=k.tuple h';simp_all
theorem Inv.apartIL(k:Inv X pins I H s){b:Ac}{fs:U (Ae×V)}(h:Rd H a (.ins C b fs))(h':BL X.K H a ys):False:=by
 obtain⟨_,_,_,e,_⟩:=(show AY X.prog X.w H s.heap a (.ins C b fs)from h.ok k.hok);obtain⟨c,d,⟨f,g,i,j,_⟩,_⟩:=k.list h';simp_all
theorem Inv.apartIT(j:Inv X pins I H s){b:Ac}{fs:U (Ae×V)}(h:Rd H a (.ins C b fs))(h':B3 X.K H a ys):False:=by
 obtain⟨_,_,_,e,_⟩:=(show AY X.prog X.w H s.heap a (.ins C b fs)from h.ok j.hok);obtain⟨c,d,⟨f,g,i,_⟩,_⟩:=j.tuple h';simp_all
noncomputable def KG:D->O V
 |.non=>Z .non
 |.bl b=>Z (.bl b)
 |.int i=>Z (.int i)
 |.str x=>Z (.str x)
 |.ty n=>Z (.ty n)
 |_=>J
theorem pB{d d':D}{w:V}(h:KG d=Z w)(h':KG d'=Z w):d=d':=by
 cases d<;>cases h<;>cases d'<;>cases h'<;>rfl
theorem Aw.av{K:Ao}{N:Fb}{d:D}{v:V}(h:Aw K N H d v):match KG d with
  |some w=>v=w
  |none=>∃a,v=.ref a:=by
 cases d with
 |lst b c=>cases c<;>(obtain⟨a,_,e,_⟩:=h;exact#[a,e])
 |tup b=>obtain⟨a,_,e,_⟩:=h.tup;exact#[a,e]
 |non=>exact h.non
 |bl _=>exact h.bl
 |int _=>exact h.int
 |str _=>exact h.str
 |ty _=>exact h.ty
theorem Aw.at{K:Ao}{N c:Fb}{d d':D}{v w:V}(e:KG d=Z w)(h:Aw K N H d v)(h':Aw K c H d' v):d=d':=by
 have h:=h.av;have h':=h'.av;rw[e]at h;subst h;cases b:KG d' with
 |some u=>rw[b]at h';subst h';exact pB e b
 |none=>rw[b]at h';obtain⟨a,rfl⟩:=h';cases d<;>cases e
theorem Aw.at'{K:Ao}{N:Fb}{d':D}(h':Aw K N H d' (.ref a)):KG d'=J:=by
 have h:=h'.av;cases e:KG d' with
 |none=>rfl
 |some w=>rw[e]at h;subst h;cases d'<;>cases e
mutual
/-- what an address denotes is one thing -/
theorem YH(w:Inv X pins I H s){N u:Fb}:∀(n:Nat)(d d':D)(v:V),A7 n d=J'->Aw X.K N H d v->Aw X.K u H d' v->d=d'
 |_,.non,d',v,_,h,c=>Aw.at rfl h c
 |_,.bl _,d',v,_,h,c=>Aw.at rfl h c
 |_,.int _,d',v,_,h,c=>Aw.at rfl h c
 |_,.str _,d',v,_,h,c=>Aw.at rfl h c
 |_,.ty _,d',v,_,h,c=>Aw.at rfl h c
 |0,.tup g,d',v,o,h,c=>by simp[A7]at o
 |0,.lst g _,d',v,o,h,c=>by simp[A7]at o
 |n+1,.tup g,d',v,o,h,c=>by
  obtain⟨a,p,e,q,r⟩:=h.tup
  subst e
  have z:=c.at'
  cases d' with
  |tup m=>
   obtain⟨b,j,e,f,k⟩:=c.tup
   cases e
   have:=w.tuple_inj q f
   subst this
   rw[Nc w n g m p o r k]
  |lst _ t=>
   cases t with
   |l=>obtain⟨b,j,e,f,_⟩:=c;cases e;exact(w.apart f q).elim
   |d=>obtain⟨b,j,e,f,_⟩:=c;cases e;exact(w.apartDT f q).elim
   |i=>obtain⟨b,j,e,f,_⟩:=c;cases e;exact(w.apartIT f q).elim
  |_=>cases z
 |n+1,.lst g .d,d',v,o,h,c=>by simp[A7]at o
 |n+1,.lst g (.i _ _),d',v,o,h,c=>by simp[A7]at o
 |n+1,.lst g .l,d',v,o,h,c=>by
  obtain⟨a,p,e,q,r⟩:=h
  subst e
  have z:=c.at'
  cases d' with
  |tup m=>obtain⟨b,j,e,f,k⟩:=c.tup;cases e;exact(w.apart q f).elim
  |lst m t=>
   cases t with
   |d=>obtain⟨b,j,e,f,k⟩:=c;cases e;exact(w.apartDL f q).elim
   |i=>obtain⟨b,j,e,f,k⟩:=c;cases e;exact(w.apartIL f q).elim
   |l=>
    obtain⟨b,j,e,f,k⟩:=c
    cases e
    have:=w.list_inj q f
    subst this
    rw[Nc w n g m p o r k]
  |_=>cases z
theorem Nc(i:Inv X pins I H s){N b:Fb}:∀(n:Nat)(xs ys:U D)(vs:U V),xs.all (A7 n)=J'->Ad X.K N H xs vs->Ad X.K b H ys vs->xs=ys
 |_,[],ys,vs,_,h,a=>by
  erw[Ad]at h;subst h
  cases ys with
  |nil=>rfl
  |cons y ys=>erw[Ad]at a;obtain⟨_,_,e,_⟩:=a;cases e
 |n,x::xs,ys,vs,o,h,a=>by
  erw[LY,CM]at o
  erw[Ad]at h
  obtain⟨v,r,e,q,t⟩:=h
  subst e
  cases ys with
  |nil=>erw[Ad]at a;cases a
  |cons y ys=>
   erw[Ad]at a
   obtain⟨f,g,e,c,d⟩:=a
   cases e
   rw[YH i n x y v o.1 q.p c.p,Nc i n xs ys r o.2 t d]
end
open SeqAt
theorem Ei{a:Type}{xs:U a}{d e:a}(h:xs[j]?=Z e):xs.getD j d=e:=by simp[List.getD_eq_getElem?_getD,h]
theorem YI{a:U Aa}(b:j<a.toArray.size)(e:a[j]?=Z u):a.toArray[j]=u:=by
 obtain⟨_,e⟩:=C8.mp e;simpa using e
def KH(A:Ag)(s:Ab)(u v:Aa)(b:Bool):Prop:=RcAt A s u v b/\EqAt A s u v b/\RcNeAt A s u v (!b)
theorem Nd(A:Ag):A.in1.units=A.units+1:=rfl
theorem LZ{N:Fb}{x:D}{v:V}(h:Aw X.K N H x v)(r:RelV v u)(o:A7 0 x=J'):(x=.non/\u=.none)\/(∃b,x=.bl b/\u=.bool b)\/(∃i t,x=.int i/\u=.int i t)\/∃c t,x=.str c/\u=.str c t:=by
 cases x with
 |non=>cases h.non;exact .inl #[rfl,r]
 |bl b=>cases h.bl;exact .inr<|.inl ⟨b,rfl,r⟩
 |int i=>cases h.int;obtain⟨t,r⟩:=r;exact .inr<|.inr<|.inl ⟨i,t,rfl,r⟩
 |str c=>cases h.str;obtain⟨t,r⟩:=r;exact .inr<|.inr<|.inr ⟨c,t,rfl,r⟩
 |_=>simp[A7]at o
theorem YJ(q:Inv X pins I H s){N:Fb}(A:Ag)(x y:D)(a d:V)(u v:Aa)(m:A.units+0<Aq)(e:A7 0 x=J')(f:A7 0 y=J')(g:Aw X.K N H x a)(h:Aw X.K N H y d)(j:RelV a u)(k:RelV d v):KH A s u v (AF x y):=by
 rcases LZ g j e with⟨rfl,rfl⟩|⟨b,rfl,rfl⟩|⟨i,t,rfl,rfl⟩|⟨c,t,rfl,rfl⟩<;>rcases LZ h k f with⟨rfl,rfl⟩|⟨n,rfl,rfl⟩|⟨o,l,rfl,rfl⟩|⟨p,l,rfl,rfl⟩<;>erw[AF,KH,Gf,Ha]<;>refine⟨?_,?_,?_⟩ <;>
  with_reducible first|exact .none_none|exact .same _|exact .none_bool _|exact .none_int _ _|exact .none_str _ _|exact .bool_none _|exact .bool_bool _ _|exact .bool_int _ _ _|exact .bool_str _ _ _|exact .int_none _ _|exact .int_bool _ _ _|exact .int_int _ _ _ _|exact .int_str _ _ _ _|exact .str_none _ _|exact .str_bool _ _ _|exact .str_int _ _ _ _|exact .str_str _ _ _ _
theorem Ng(S:Inv X pins I H s){N:Fb}:∀(n:Nat)(A:Ag)(x y:D)(vx vy:V)(u v:Aa),A.units+n<Aq->A7 n x=J'->A7 n y=J'->Aw X.K N H x vx->Aw X.K N H y vy->RelV vx u->RelV vy v->KH A s u v (AF x y):=by
 intro n;induction n with|zero=>exact YJ S|succ n ih=>
  intro A x y vx vy u v hu ox oy hx hy rx ry;have h:=Dz hu;have P:∀{g k:U D} {B ws:U V} {m C:U Aa},g.all (A7 n)=J'->k.all (A7 n)=J'->Ad X.K N H g B->Ad X.K N H k ws->An B m->An ws C->m.length=g.length/\C.length=k.length/\∀j (h1:j<m.toArray.size) (h2:j<C.toArray.size),EqAt A.in1 s m.toArray[j] C.toArray[j] (AF (g.getD j .non)<|k.getD j .non):=λox oy Q T Y r2=>by
   have l1:=Q.length.trans Y.length;have l2:=T.length.trans r2.length;refine#[l1.symm,l2.symm,λj h1 h2=>?_];have G:=h1;have F:=h2;rw[BV]at G F;rw[<- l1]at G;rw[<- l2]at F;have g1:=CK G;have g2:=CK F;obtain⟨w1,hw1,dw1⟩:=Q.get g1;obtain⟨w2,hw2,dw2⟩:=T.get g2;obtain⟨u1,hu1,ru1⟩:=Y.get hw1;obtain⟨u2,hu2,ru2⟩:=r2.get hw2;rw[YI h1 hu1,YI h2 hu2,Ei g1,Ei g2];exact(ih A.in1 _ _ _ _ _ _ (by rw[Nd];lia) (D4.mp ox _<|Hb G) (D4.mp oy _<|Hb F) dw1.p dw2.p ru1 ru2).2.1
  have con:∀{x:D} {v:V} {u:Aa},A7 (n+1) x=J'->Aw X.K N H x v->RelV v u->A7 0 x=J'\/(∃g a B m,x=.tup g/\u=.ref a/\g.all (A7 n)=J'/\B3 X.K H a B/\Ad X.K N H g B/\An B m/\s.heap.IsTuple a m.toArray)\/∃g a B m,x=.lst g/\u=.ref a/\g.all (A7 n)=J'/\BL X.K H a B/\Ad X.K N H g B/\An B m/\s.heap.IsList a m.toArray:=λ{x v u} o h r=>by
   cases x with
   |tup g=>obtain⟨a,B,rfl,q,d⟩:=h.tup;obtain⟨m,z,p,_⟩:=S.tuple q;exact .inr<|.inl ⟨g,a,B,m,rfl,r,o,q,d,z,p⟩
   |lst g f=>
    cases f with
    |l=>obtain⟨a,B,rfl,q,d⟩:=h;obtain⟨m,z,p,_⟩:=S.list q;exact .inr<|.inr ⟨g,a,B,m,rfl,r,o,q,d,z,p.isList⟩
    |_=>simp[A7]at o
   |ty _=>simp[A7]at o
   |_=>exact .inl rfl
  rcases con ox hx rx with L|⟨g,a1,B,m,rfl,rfl,L,q1,Q,Y,p1⟩|⟨g,a1,B,m,rfl,rfl,L,q1,Q,Y,p1⟩<;>rcases con oy hy ry with M|⟨k,a2,ws,C,rfl,rfl,M,q2,T,r2,w⟩|⟨k,a2,ws,C,rfl,rfl,M,q2,T,r2,w⟩
  ·exact YJ S A x y vx vy u v h L M hx hy rx ry
  ·rcases LZ hx rx L with⟨rfl,rfl⟩|⟨b,rfl,rfl⟩|⟨i,t,rfl,rfl⟩|⟨c,t,rfl,rfl⟩<;>erw[AF,KH,Ha]<;>refine⟨?_,?_,?_⟩<;>with_reducible first|exact .none_tuple w h|exact .bool_tuple _ w h|exact .int_tuple _ _ w h|exact .str_tuple _ _ w h
  ·rcases LZ hx rx L with⟨rfl,rfl⟩|⟨b,rfl,rfl⟩|⟨i,t,rfl,rfl⟩|⟨c,t,rfl,rfl⟩<;>erw[AF,KH,Ha]<;>refine⟨?_,?_,?_⟩<;>with_reducible first|exact .none_list w h|exact .bool_list _ w h|exact .int_list _ _ w h|exact .str_list _ _ w h
  ·rcases LZ hy ry M with⟨rfl,rfl⟩|⟨b,rfl,rfl⟩|⟨i,t,rfl,rfl⟩|⟨c,t,rfl,rfl⟩<;>erw[AF,KH,Ha]<;>refine⟨?_,?_,?_⟩<;>with_reducible first|exact .tuple_none p1 h|exact .tuple_bool _ p1 h|exact .tuple_int _ _ p1 h|exact .tuple_str _ _ p1 h
  ·obtain⟨l1,l2,E⟩:=P L M Q T Y r2;have k1:=RcAt.tuples p1 w h E;have k2:=RcNeAt.tuples p1 w h E;have e:((Bq<|min m.toArray.size C.toArray.size).all (λj=>AF (g.getD j .non)<|k.getD j .non)&&m.toArray.size==C.toArray.size)=CZ g k:=by
    rw[BV,BV,l1,l2];by_cases R:g.length=k.length
    ·rw[Sz R,R,Nat.min_self];simp
    ·rw[Sy R,show(g.length==k.length)=O' by simp;exact W.neN R,Bool.and_false]
   rw[e]at k1 k2;erw[AF];refine#[k1,?_,k2];by_cases ea:a1=a2
   ·subst ea;cases S.tuple_inj q1 q2;rw[Nc S n g k _ L Q T,Nb n k M];exact .same _
   ·exact .of_refs ea k1
  ·erw[AF];refine#[?_,?_,?_]<;>exact .tuple_list p1 w h
  ·rcases LZ hy ry M with⟨rfl,rfl⟩|⟨b,rfl,rfl⟩|⟨i,t,rfl,rfl⟩|⟨c,t,rfl,rfl⟩<;>erw[AF,KH,Ha]<;>refine⟨?_,?_,?_⟩<;>with_reducible first|exact .list_none p1 h|exact .list_bool _ p1 h|exact .list_int _ _ p1 h|exact .list_str _ _ p1 h
  ·erw[AF];refine#[?_,?_,?_]<;>exact .list_tuple p1 w h
  ·obtain⟨l1,l2,E⟩:=P L M Q T Y r2;erw[AF];have rc:RcAt A s (.ref a1) (.ref a2) (CZ g k)/\RcNeAt A s (.ref a1) (.ref a2) (!CZ g k):=by
    by_cases R:g.length=k.length
    ·have hs:m.toArray.size=C.toArray.size:=by rw[BV,BV,l1,l2,R]
     have k1:=RcAt.lists p1 w hs h E;have k2:=RcNeAt.lists p1 w hs h E;rw[BV,l1,<- Sz R]at k1 k2;exact#[k1,k2]
    ·rw[Sy R];have hne:(m.toArray.size != C.toArray.size)=J':=by rw[BV,BV];simp;lia
     exact#[.lists_lengths p1 w hne h,.lists_lengths p1 w hne h]
   refine#[rc.1,?_,rc.2];by_cases ea:a1=a2
   ·subst ea;cases S.list_inj q1 q2;rw[Nc S n g k _ L Q T,Nb n k M];exact .same _
   ·exact .of_refs ea rc.1
end
def ZT:Nat:=12
@[simp] def Bu(x y:D):O D:=if A7 ZT x&&A7 ZT y then Z (.bl (AF x y))else J
@[simp] def Ce(x y:D):O D:=if A7 ZT x&&A7 ZT y then Z (.bl (!AF x y))else J
def Pg(K:Ao)(neg:Bool):R2:=λx y H Q=>∃N a b,Aw K N H a x/\Aw K N H b y/\A7 ZT a=J'/\A7 ZT b=J'/\Q (.bl (if neg then !AF a b else AF a b)) H
section
variable{K:Ao}{M:Fb}{a b:Expr}{f g:AB}
theorem YK(k:X.A.units+64<Aq):Ca X (DC .Eq) (Pg X.K O'):=by
 intro a s l H x y v u Q m b c h;obtain⟨N,d,e,f,g,i,j,q⟩:=h;exact(Ng m ZT X.A d e x y v u (by unfold ZT;lia) i j f g b c).1 X.prog X.w X.xe _ #[.bl _,H,m,rfl,q]
theorem YL(k:X.A.units+64<Aq):Ca X (DC .NotEq) (Pg X.K J'):=by
 intro a s l H x y v u Q m b c h;obtain⟨N,d,e,f,g,i,j,q⟩:=h;exact(Ng m ZT X.A d e x y v u (by unfold ZT;lia) i j f g b c).2.2 X.prog X.w X.xe _ #[.bl _,H,m,rfl,q]
theorem YM:Eh K (Pg K O') Bu:=by
 intro N H x y b c d Q h f g e q;obtain⟨a,e⟩:=ZV e;rw[CM]at a;cases e;exact#[N,b,c,f,g,a.1,a.2,q _ H (Ah.refl H) G9]
theorem YN:Eh K (Pg K J') Ce:=by
 intro N H x y b c d Q h f g e q;obtain⟨a,e⟩:=ZV e;rw[CM]at a;cases e;exact#[N,b,c,f,g,a.1,a.2,q _ H (Ah.refl H) G9]
def IC(x:D)(ys:U D):Bool:=ys.any λy=>AF y x
@[simp] def Db(neg:Bool)(x y:D):O D:=match y with
  |.lst a=>if A7 ZT x&&a.all (A7 ZT)then Z (.bl (if neg then !IC x a else IC x a))else J
  |.tup a=>if A7 ZT x&&a.all (A7 ZT)then Z (.bl (if neg then !IC x a else IC x a))else J
  |.str z=>match x with
   |.str w=>Z (.bl (if neg then !(!(ML z w 0 z.length 1).isEmpty)else !(ML z w 0 z.length 1).isEmpty))
   |_=>J
  |_=>J
def YO(K:Ao)(neg:Bool):R2:=λx y H Q=>∃N a b c p,Aw K N H a x/\y=.ref p/\(BL K H p c\/B3 K H p c)/\Ad K N H b c/\A7 ZT a=J'/\b.all (A7 ZT)=J'/\Q (.bl (if neg then !IC a b else IC a b)) H
open Classical in
def Gg(K:Ao)(N:Fb)(H:Hp)(x:D)(u:Aa):Bool:=decide (∃d w,Aw K N H d w/\RelV w u/\AF d x=J')
theorem SD{a:AQ}{s:Ab}(j:Inv X a I H s){N:Fb}{x d:D}{w:V}(hd:Aw X.K N H d w)(r:RelV w u){n:Nat}(c:A7 n d=J'):Gg X.K N H x u=AF d x:=by
 classical
 cases e:AF d x with
 |true=>exact @decide_eq_true _ (O7 _) #[d,w,hd,r,e]
 |false=>
  refine @decide_eq_false _ (O7 _) ?_
  rintro⟨f,h,b,g,i⟩
  have:=g.inj r
  subst this
  have:=YH j n d f _ c hd b
  simp_all
theorem SE{a:AQ}{I:St}{H:Hp}{s:Ab}(e:Inv X a I H s){N:Fb}{x:D}:∀{ys:U D}{vs:U V}{us:U Aa},Ad X.K N H ys vs->An vs us->ys.all (A7 ZT)=J'->us.any (Gg X.K N H x)=IC x ys
 |[],_,_,h,r,_=>by erw[Ad]at h;subst h;cases r;rfl
 |y::ys,_,_,h,r,o=>by
  erw[LY,CM]at o;obtain⟨v,t,rfl,b,c⟩:=h;cases r with
  |cons d f=>
   rw[List.any_cons,SD e b.p d o.1,SE e c f o.2];rfl
theorem SF{a:AQ}{s:Ab}(B:Inv X a I H s){N:Fb}{A:Ag}{x:D}{d:V}{v:Aa}(m:A.units+ZT<Aq)(n:A7 ZT x=J')(o:Aw X.K N H x d)(q:RelV d v){ys:U D}{us:U Aa}(h:Ad X.K N H ys vs)(r:An vs us)(e:ys.all (A7 ZT)=J'):∀u∈us,SeqAt.EqAt A s u v (Gg X.K N H x u):=by
 intro u b;obtain⟨j,t⟩:=List.getElem?_of_mem b;have w:=r.length;have c:j<vs.length:=by grind
 have f:=CK c;obtain⟨z,g,i⟩:=r.get f;rw[t]at g;cases g;obtain⟨y,k,l⟩:=h.get' f;rw[SD B l.p i<|D4.mp e y<|LF k];exact(Ng B ZT A y x _ _ _ _ m (D4.mp e y<|LF k) n l.p o i q).2.1
theorem YP(b:Bool)(z:X.A.units+64<Aq):Ca X (DC (bif b then .NotIn else .In)) (YO X.K b):=by
 intro k s B H x y v u Q F l o h;obtain⟨N,c,C,E,p,m,rfl,d,hd,n,i,q⟩:=h;cases o;have e:X.A.in1.units+ZT<Aq:=by rw[Nd];unfold ZT;lia
 rcases d with d|d
 ·obtain⟨a,r,g,t⟩:=F.list d;have f:∀w∈a.toArray,_:=λw j=>SF F e n m l hd r i w (by simpa using j);cases b;all_goals
   first|refine SeqAt.in_listAt (Gg X.K N H c) g.isList f ⟨.bl _,H,F,rfl,?_⟩|refine SeqAt.notIn_listAt (Gg X.K N H c) g.isList f ⟨.bl _,H,F,rfl,?_⟩
   rw[show a.toArray.any (Gg X.K N H c)=a.any (Gg X.K N H c) by simp,SE F hd r i];exact q
 ·obtain⟨a,r,g,t⟩:=F.tuple d;have f:∀w∈a.toArray,_:=λw j=>SF F e n m l hd r i w (by simpa using j);cases b;all_goals
   first|refine SeqAt.in_tupleAt (Gg X.K N H c) g f ⟨.bl _,H,F,rfl,?_⟩|refine SeqAt.notIn_tupleAt (Gg X.K N H c) g f ⟨.bl _,H,F,rfl,?_⟩
   rw[show a.toArray.any (Gg X.K N H c)=a.any (Gg X.K N H c) by simp,SE F hd r i];exact q
theorem YQ(b:Bool):Eh K (λx y H Q=>YO K b x y H Q\/∃i j,x=.str i/\y=.str j/\Q (.bl (if b then !(!(ML j i 0 j.length 1).isEmpty)else !(ML j i 0 j.length 1).isEmpty)) H) (Db b):=by
 intro N H x y n o d Q p f g e q;unfold Db at e;split at e
 ·obtain⟨c,e⟩:=ZV e;rw[CM]at c;cases e;obtain⟨a,h,k,l,m⟩:=g;exact .inl #[N,n,_,h,a,f,k,.inl l,m,c.1,c.2,q _ H (Ah.refl H) G9]
 ·obtain⟨c,e⟩:=ZV e;rw[CM]at c;cases e;obtain⟨a,h,k,l,m⟩:=g.tup;exact .inl #[N,n,_,h,a,f,k,.inr l,m,c.1,c.2,q _ H (Ah.refl H) G9]
 ·split at e
  ·cases e;exact .inr #[_,_,f.str,g.str,q _ H (Ah.refl H) G9]
  ·cases e
 ·cases e
@[simp] noncomputable def FP(lt:D->D->O Bool):U D->U D->O Bool
  |[],[]=>Z O'
  |[],_::_=>Z J'
  |_::_,[]=>Z O'
  |x::a,y::b=>if A7 ZT x&&A7 ZT y then(if AF x y then FP lt a b else lt x y)else J
@[simp] noncomputable def ltN:Nat->D->D->O Bool
  |_,.int i,.int j=>Z (decide (i<j))
  |_,.str a,.str b=>Z (decide (a.cps.toList<b.cps.toList))
  |n+1,.tup c,.tup d=>FP (ltN n) c d
  |n+1,.lst c .l,.lst d .l=>FP (ltN n) c d
  |_,_,_=>J
@[simp] def E7(x y:D):O D:=(ltN 6 x y).map D.bl
def YR(K:Ao):R2:=λx y H Q=>∃N a c b,Aw K N H a x/\Aw K N H c y/\ltN 6 a c=Z b/\Q (.bl b) H
abbrev YS(X:Cx)(N:Fb)(H:Hp)(s:Ab)(n:Nat):Prop:=∀(A:Ag)(x y:D)(a c:V)(u v:Aa)(b:Bool),A.units+n+ZT<Aq->ltN n x y=Z b->Aw X.K N H x a->Aw X.K N H y c->RelV a u->RelV c v ->
  ∀(prog:AM) (d:Ai) (E Q:AL),Q (.bool b) s->wpAny (Af prog d) A (richCompare .Lt u v) Q E s
theorem YT{i:AQ}{s:Ab}(R:Inv X i I H s){N:Fb}(n:Nat)(M:YS X N H s n)(A:Ag)(Y:A.units+n+1+ZT<Aq){b:Bool}:∀(xs ys:U D)(a c:U V)(d f:U Aa),FP (ltN n) xs ys=Z b->Ad X.K N H xs a->Ad X.K N H ys c->An a d->An c f->FJ A.in1 s d f b:=by
 intro xs;induction xs with
 |nil=>
  intro ys a c d f h j g v k;erw[Ad]at j;subst j;cases v;cases ys with
  |nil=>erw[Ad]at g;subst g;cases k;cases h;exact .nn
  |cons y ys=>erw[Ad]at g;obtain⟨w,t,rfl,_,_⟩:=g;cases k;cases h;exact .nc
 |cons x xs z=>
  intro ys a c d f h j g v k;erw[Ad]at j;obtain⟨w1,t1,rfl,l,B⟩:=j;cases v with
  |cons m C=>
   cases ys with|nil=>erw[Ad]at g;subst g;cases k;cases h;exact .cn|cons y ys=>
    erw[Ad]at g;obtain⟨w2,t2,rfl,o,G⟩:=g;cases k with
    |cons r F=>
     obtain⟨L,h⟩:=ZV h;rw[CM]at L;have u:=(Ng R ZT A.in1 x y _ _ _ _ (by rw[Nd];lia) L.1 L.2 l.p o.p m r).2.1;split at h
     ·next e=>rw[e]at u;exact .eq u<|z ys _ _ _ _ h B G C F
     ·next e=>
      rw[Bool.not_eq_true]at e;rw[e]at u;exact .ne u λprog P E Q q=>M A.in1 x y _ _ _ _ b (by rw[Nd];lia) h l.p o.p m r prog P E Q q
set_option tactic.hygienic true in
theorem SG{g:AQ}{s:Ab}(R:Inv X g I H s){N:Fb}(n:Nat):YS X N H s n:=by
 induction n with
 |zero=>
  intro A x y vx vy u v b hu h e f a c prog i E Q q;unfold ltN at h;split at h
  ·cases h;rw[e.int]at a;rw[f.int]at c;obtain⟨t,rfl⟩:=a;obtain⟨l,rfl⟩:=c;exact HT.rcLt_int A s _ _ _ _ prog i E Q q
  ·cases h;rw[e.str]at a;rw[f.str]at c;obtain⟨t,rfl⟩:=a;obtain⟨l,rfl⟩:=c;exact(PyProof.Rows.lt_str q:wpAny (Af prog i) A (DC .Lt _ _) Q E s)
  ·next o=>cases o
  ·next o=>cases o
  ·cases h
 |succ n ih=>
  intro A x y vx vy u v b hu h e f a c prog i E Q q;have d:=YT (N:=N) R n ih A (by lia) (b:=b);unfold ltN at h;split at h
  ·cases h;rw[e.int]at a;rw[f.int]at c;obtain⟨t,rfl⟩:=a;obtain⟨l,rfl⟩:=c;exact HT.rcLt_int A s _ _ _ _ prog i E Q q
  ·cases h;rw[e.str]at a;rw[f.str]at c;obtain⟨t,rfl⟩:=a;obtain⟨l,rfl⟩:=c;exact(PyProof.Rows.lt_str q:wpAny (Af prog i) A (DC .Lt _ _) Q E s)
  ·next m p r w=>
   cases w;obtain⟨a1,z,B,C,G⟩:=e.tup;obtain⟨a2,F,L,M,K⟩:=f.tup;subst B L;cases a;cases c;obtain⟨j,T,p1,_⟩:=R.tuple C;obtain⟨k,P,p2,_⟩:=R.tuple M;exact ng p1 p2 (by simpa using d p r _ _ _ _ h G K T P) (by lia) q
  ·next m p r w=>
   cases w;obtain⟨a1,z,B,C,G⟩:=e;obtain⟨a2,F,L,M,K⟩:=f;subst B L;cases a;cases c;obtain⟨j,T,⟨⟨cls,dd,data,sl⟩,n1,Y,hc1,hdd1,hd1⟩,_⟩:=R.list C;obtain⟨k,P,⟨⟨cls2,dd2,data2,sl2⟩,n2,ho2,hc2,hdd2,hd2⟩,_⟩:=R.list M;subst hc1 hd1 hc2 hd2;exact ni Y ho2 (by simpa using d p r _ _ _ _ h G K T P) (by lia) q
  ·cases h
theorem YU(l:X.A.units+64<Aq):Ca X (DC .Lt) (YR X.K):=by
 intro a s c H x y v u Q m d e h;obtain⟨N,f,g,b,i,j,k,q⟩:=h;have fin:EP X a c Q (.bool b) s:=#[.bl b,H,m,rfl,q];exact SG m 6 X.A f g x y v u b (by unfold ZT;lia) k i j d e X.prog X.w X.xe _ fin
theorem YV:Eh K (YR K) E7:=by
 intro N H x y a c d Q i f g e q;obtain⟨b,h,e⟩:=B0.mp e;cases e;exact#[N,a,c,b,f,g,h,q _ H (Ah.refl H) G9]
end
section
variable{K:Ao}{N:Fb}
theorem Paired.one'{a b:Type}{F:a->b->Prop}{x:a}{vs:U b}(h:Paired F [x] vs):∃v,vs=[v]/\F x v:=by
 cases h with
 |cons r t=>cases t;exact#[_,rfl,r]
theorem Paired.two'{a b:Type}{F:a->b->Prop}{x y:a}{vs:U b}(h:Paired F [x,y] vs):∃v w,vs=[v,w]/\F x v/\F y w:=by
 cases h with
 |cons r t=>
  obtain⟨w,e,q⟩:=Paired.one' t;grind
@[simp] noncomputable def Zr:Eg
  |[.lst a]=>Z (.int a.length)
  |[.tup a]=>Z (.int a.length)
  |[.str x]=>if x.length<=Ax then Z (.int x.length)else J
  |_=>J
theorem YW:Gc K (λxs H Q=>∃x n,xs=[x]/\Xw K x H n/\Q (.int n) H) Zr:=by
 intro N H k l d Q m h e q;unfold Zr at e;split at e
 ·cases e;obtain⟨v,rfl,b⟩:=Paired.one' h;obtain⟨a,c,rfl,g,i⟩:=b;exact#[.ref a,_,rfl,.inl #[c,g,rfl],by rw[<- i.length];exact q _ H (Ah.refl H) Fq]
 ·cases e;obtain⟨v,rfl,b⟩:=Paired.one' h;obtain⟨a,c,rfl,g,i⟩:=b.tup;exact#[.ref a,_,rfl,.inr #[c,g,rfl],by rw[<- i.length];exact q _ H (Ah.refl H) Fq]
 ·obtain⟨j,e⟩:=ZV e;cases e;obtain⟨v,rfl,b⟩:=Paired.one' h;exact#[v,_,rfl,by rw[b.str];exact#[j,rfl],q _ H (Ah.refl H) Fq]
 ·cases e
@[simp] noncomputable def ID:U D->A0
  |[.lst a]=>Z a
  |[.tup a]=>Z a
  |_=>J
theorem pC:O2 K (λxs H Q=>∃p ys,xs=[.ref p]/\(BL K H p ys\/B3 K H p ys)/\∀l,H l=J->Q (.ref l) (AG H l (.lst ys))) ID:=by
 intro N H j k xs Q m h e q;unfold ID at e;split at e
 ·cases e;obtain⟨v,rfl,c⟩:=Paired.one' h;obtain⟨a,b,rfl,f,g⟩:=c;exact#[a,b,rfl,.inl f,λl i=>q b l i g]
 ·cases e;obtain⟨v,rfl,c⟩:=Paired.one' h;obtain⟨a,b,rfl,f,g⟩:=c.tup;exact#[a,b,rfl,.inr f,λl i=>q b l i g]
 ·cases e
@[simp] def D5:Eg
  |[.lst a]=>Z (.tup a)
  |[.tup a]=>Z (.tup a)
  |_=>J
theorem pD:Gc K (λxs H Q=>∃p ys,xs=[.ref p]/\((BL K H p ys/\∀l,H l=J->Q (.ref l) (AG H l (.tup ys)))\/(B3 K H p ys/\Q (.ref p) H))) D5:=by
 intro N H k m d Q n h e q;unfold D5 at e;split at e
 ·cases e;obtain⟨v,rfl,f⟩:=Paired.one' h;obtain⟨a,b,rfl,c,i⟩:=f;exact#[a,b,rfl,.inl #[c,λl j=>q _ _ (Z5 j)<|Na j i]]
 ·cases e;obtain⟨v,rfl,f⟩:=Paired.one' h;obtain⟨a,b,rfl,c,i⟩:=f.tup;exact#[a,b,rfl,.inr #[c,q _ _ (Ah.refl H) (by erw[As];exact#[a,b,rfl,c,i])]]
 ·cases e
noncomputable def IE:U D->O (U Bool)
 |[]=>Z []
 |.bl b::r=>(IE r).map (b::·)
 |_=>J
theorem pE{bs:U Bool}(h:IE xs=Z bs):xs=bs.map D.bl:=by
 induction xs generalizing bs with
 |nil=>cases h;rfl
 |cons x r a=>cases x<;>first|cases h;done|(erw[IE,B0]at h;obtain⟨_,e,rfl⟩:=h;rw[a e];rfl)
theorem YX:∀{bs:U Bool}{vs:U V},Ad K N H (bs.map D.bl) vs->vs=bs.map V.bl
 |[],_,h=>by simpa only[C1,Ad]using h
 |b::bs,_,h=>by
  obtain⟨v,r,e,a,t⟩:=h;subst e a;rw[YX t];rfl
@[simp] def EI:Eg
  |[.lst a]=>(IE a).map λbs=>.bl (bs.all id)
  |_=>J
@[simp] def KI:Eg
  |[.lst a]=>(IE a).map λbs=>.bl (bs.any id)
  |_=>J
set_option tactic.hygienic true in
theorem YZ{b:Bool}:Gc K (λxs H Q=>∃(a:Ac)(bs:U Bool),xs=[.ref a]/\BL K H a (bs.map V.bl)/\Q (.bl (bif b then bs.all id else bs.any id)) H) (bif b then EI else KI):=by
 intro N H k l d Q m h e q;cases b;all_goals
  first|change EI _=_ at e;unfold EI at e|change KI _=_ at e;unfold KI at e
  split at e
  ·next xs=>
   obtain⟨bs,g,rfl⟩:=B0.mp e;obtain⟨v,rfl,i⟩:=Paired.one' h;obtain⟨a,n,rfl,c,f⟩:=i;rw[pE g]at f;rw[YX f]at c;exact#[a,bs,rfl,c,q _ H (Ah.refl H) G9]
  ·cases e
@[simp] noncomputable def L0:Eg
  |[.int i,.int j]=>Z (.int (if j>i then j else i))
  |_=>J
@[simp] def Ph:Eg
  |[.int i,.int j]=>Z (.int (if j<i then j else i))
  |_=>J
theorem pF:Gc K (λxs H Q=>∃i j,xs=[.int i,.int j]/\Q (.int (if j>i then j else i)) H) L0:=by
 intro N H c f d Q g h e q;unfold L0 at e;split at e
 ·cases e;obtain⟨v,w,rfl,a,b⟩:=Paired.two' h;exact#[_,_,by rw[a.int,b.int],q _ H (Ah.refl H) Fq]
 ·cases e
theorem pG:Gc K (λxs H Q=>∃i j,xs=[.int i,.int j]/\Q (.int (if j<i then j else i)) H) Ph:=by
 intro N H c f d Q g h e q;unfold Ph at e;split at e
 ·cases e;obtain⟨v,w,rfl,a,b⟩:=Paired.two' h;exact#[_,_,by rw[a.int,b.int],q _ H (Ah.refl H) Fq]
 ·cases e
@[simp] def intD:Eg
  |[.int i]=>Z (.int i)
  |[.bl k]=>Z (.int (if k then 1 else 0))
  |_=>J
theorem pH:Gc K (λxs H Q=>(∃i,xs=[.int i]/\Q (.int i) H)\/∃k,xs=[.bl k]/\Q (.int (if k then 1 else 0)) H) intD:=by
 intro N H b c d Q f h e q;unfold intD at e;split at e
 ·cases e;obtain⟨v,rfl,a⟩:=Paired.one' h;exact .inl #[_,by rw[a.int],q _ H (Ah.refl H) Fq]
 ·cases e;obtain⟨v,rfl,a⟩:=Paired.one' h;exact .inr #[_,by rw[a.bl],q _ H (Ah.refl H) Fq]
 ·cases e
def Hc:U D->O (U Int)
 |[]=>Z []
 |.int b::r=>(Hc r).map (b::·)
 |_=>J
theorem Y0{bs:U Int}(h:Hc xs=Z bs):xs=bs.map D.int:=by
 induction xs generalizing bs with
 |nil=>cases h;rfl
 |cons x r a=>cases x<;>first|cases h;done|(erw[Hc,B0]at h;obtain⟨_,e,rfl⟩:=h;rw[a e];rfl)
theorem Pj:∀(ns:U Int),Hc (ns.map D.int)=Z ns
 |[]=>rfl
 |n::ns=>by erw[AS,Hc,Pj ns];rfl
theorem SH:∀{bs:U Int}{vs:U V},Ad K N H (bs.map D.int) vs->vs=bs.map V.int
 |[],_,h=>by simpa only[C1,Ad]using h
 |b::bs,_,h=>by
  obtain⟨v,r,e,a,t⟩:=h;subst e a;rw[SH t];rfl
end
section
theorem pI(i:X.calm=J'):ED X (.builtin "sum") (λxs H Q=>∃(a:Ac)(ns:U Int),xs=[.ref a]/\BL X.K H a (ns.map V.int)/\Q (.int ns.sum) H):=by
 intro e s w H xs x Q A r h;obtain⟨a,ns,rfl,j,q⟩:=h;obtain⟨u,rfl,k⟩:=ER r;cases k;obtain⟨b,l,p,y⟩:=A.list j;have f:=XV l;obtain⟨c,g⟩:=f.allInts.items;have d:=g ▸ p.isList;refine sum_intListG (A.ok.hd i) d λz m n o=>?_;have t:ns=c.toList.map (·.1):=by
  rw[<- nums_intItems,<- g];exact(show numsOf b.toArray.toList=ns from f.numsOf).symm
 have v:preSum (numAt c) c.size=ns.sum:=by
  rw[preSum_eq,Nh (by simp),t]
 rw[v];exact#[.int ns.sum,H,A.kept (t':=m) o,#[_,rfl],q]
theorem Y1{b:Bool}(k:X.calm=J'):ED X (.builtin (bif b then "min" else "max")) (λxs H Q=>∃(a:Ac)(ns:U Int),xs=[.ref a]/\BL X.K H a (ns.map V.int)/\0<ns.length/\∀m,m∈ns->(∀a,a∈ns->bif b then m<=a else a<=m)->Q (.int m) H):=by
 intro l s M H xs N Q R r h;obtain⟨a,ns,rfl,A,B,q⟩:=h;obtain⟨u,rfl,C⟩:=ER r;cases C;obtain⟨g,E,p,P⟩:=R.list A;have n:=XV E;obtain⟨d,e⟩:=n.allInts.items;have f:ns=d.toList.map (·.1):=by rw[<- n.numsOf,<- nums_intItems,<- e]
 have c:0<d.size:=by
  grind
 have o:=e ▸ p.isList;cases b;all_goals
  first|refine min_intList (R.ok.hd k) o c λv G w x y=>?_|refine max_intList (R.ok.hd k) o c λv G w x y=>?_
  obtain⟨t,rfl⟩:=intItems_at x;have F:=argBest_lt (numAt d)<|d.size-1;have L:=argBest_gt (numAt d)<|d.size-1;refine⟨.int _,H,R.kept (t':=w) y,⟨t,rfl⟩,q _ ?_ λb z=>?_⟩
  ·rw[f,numAt_eq];exact getD_mem (by rw[Bi,RF];lia)
  ·rw[f]at z;obtain⟨j,i,rfl⟩:=mem_getD z;rw[Bi,RF]at i;rw[<- numAt_eq];first|exact F.2 j ((Pk c).mpr i)|exact L.2 j ((Pk c).mpr i)
end
def Pl:U Int->O Int
 |[]=>J
 |x::a=>Z (a.foldl (λm y=>if y<m then y else m) x)
def Pm:U Int->O Int
 |[]=>J
 |x::a=>Z (a.foldl (λm y=>if y>m then y else m) x)
theorem Y2:∀(xs:U Int)(x:Int),(xs.foldl (λm y=>if y<m then y else m) x)∈x::xs/\∀a∈x::xs,(xs.foldl (λm y=>if y<m then y else m) x)<=a
 |[],x=>by simp
 |y::b,x=>by
  obtain⟨c,d⟩:=Y2 b<|if y<x then y else x;grind [Ba]
theorem Y3:∀(xs:U Int)(x:Int),(xs.foldl (λm y=>if y>m then y else m) x)∈x::xs/\∀a∈x::xs,a<=(xs.foldl (λm y=>if y>m then y else m) x)
 |[],x=>by simp
 |y::b,x=>by
  obtain⟨c,d⟩:=Y3 b<|if y>x then y else x;grind [Ba]
theorem pJ{ns:U Int}{m k:Int}(h:Pl ns=Z k)(b:m∈ns)(c:∀a,a∈ns->m<=a):m=k:=by
 cases ns with|nil=>cases h|cons x d=>
  cases h;grind [Y2]
theorem pK{ns:U Int}{m k:Int}(h:Pm ns=Z k)(b:m∈ns)(c:∀a,a∈ns->a<=m):m=k:=by
 cases ns with|nil=>cases h|cons x d=>
  cases h;grind [Y3]
section
variable{K:Ao}
@[simp] def Ni:Eg
  |[.lst a]=>(Hc a).map λns=>.int ns.sum
  |_=>J
@[simp] def L1:Eg
  |[.lst a]=>((Hc a).bind Pl).map D.int
  |_=>J
@[simp] def L3:Eg
  |[.lst a]=>((Hc a).bind Pm).map D.int
  |_=>J
set_option tactic.hygienic true in
theorem pL:Gc K (λxs H Q=>∃(a:Ac)(ns:U Int),xs=[.ref a]/\BL K H a (ns.map V.int)/\Q (.int ns.sum) H) Ni:=by
 intro N H j k d Q l h e q;unfold Ni at e;split at e
 ·next xs=>
  obtain⟨bs,f,rfl⟩:=B0.mp e;obtain⟨v,rfl,g⟩:=Paired.one' h;obtain⟨a,m,rfl,b,c⟩:=g;rw[Y0 f]at c;rw[SH c]at b;exact#[a,bs,rfl,b,q _ H (Ah.refl H) Fq]
 ·cases e
set_option tactic.hygienic true in
theorem Y4{b:Bool}:Gc K (λxs H Q=>∃(a:Ac)(ns:U Int),xs=[.ref a]/\BL K H a (ns.map V.int)/\0<ns.length/\∀m,m∈ns->(∀a,a∈ns->bif b then m<=a else a<=m)->Q (.int m) H) (bif b then L1 else L3):=by
 intro N H r s d Q t h e q;cases b;all_goals
  first|change L1 _=_ at e;unfold L1 at e|change L3 _=_ at e;unfold L3 at e
  split at e
  ·next xs=>
   obtain⟨k,l,rfl⟩:=B0.mp e;obtain⟨bs,n,c⟩:=B4.mp l;obtain⟨v,rfl,o⟩:=Paired.one' h;obtain⟨a,u,rfl,f,g⟩:=o;rw[Y0 n]at g;rw[SH g]at f;refine#[a,bs,rfl,f,?_,λm i j=>?_]
   ·cases bs with
    |nil=>cases c
    |cons=>simp
   ·first|rw[pJ c i j]|rw[pK c i j]
    exact q _ H (Ah.refl H) Fq
  ·cases e
@[simp] noncomputable def L4:D->O String
  |.non=>Z "NoneType"
  |.bl _=>Z "bool"
  |.int _=>Z "int"
  |.str _=>Z "str"
  |.tup _=>Z "tuple"
  |.lst _=>Z "list"
  |.lst _ .d=>J
  |.lst _ (.i _ _)=>J
  |.ty _=>J
def L5(t n:String):Bool:=t==n||(t=="bool"&&n=="int")
end
noncomputable def Hd:U String:=["NoneType","bool","int","str","tuple","list"]
theorem Y5(K:Ao):∀t∈Hd,∀n∈Hd,PySem.W.kitOne K (.type t) (.type n)=Z (L5 t n):=by
 intro t a n b;erw[Hd,Bo,L6,or_false]at a b;rcases a with rfl|rfl|rfl|rfl|rfl|rfl<;>rcases b with rfl|rfl|rfl|rfl|rfl|rfl<;>with_unfolding_all rfl
theorem Y6(K:Ao){t:String}(a:t∈Hd):∀(ns:U String),(∀n∈ns,n∈Hd)->PySem.W.kitAny K (.type t) (ns.map Value.type)=Z (ns.any λn=>L5 t n)
 |[],_=>rfl
 |n::ns,h=>by
  have b:=Y5 K t a n<|h n Ba;have c:=Y6 K a ns λm d=>h m<|Be _ d;erw[AS,PySem.W.kitAny,b,c,List.any_cons];cases L5 t n<;>rfl
theorem Y7{d:D}{t:String}(h:L4 d=Z t):t∈Hd:=by
 cases d with
 |lst b a=>cases a<;>simp[L4]at h;subst h;simp[Hd]
 |_=>simp[L4]at h<;>subst h<;>simp[Hd]
section
variable{K:Ao}
theorem pM{h:AQ}{s:Ab}(A:Inv X h I H s){N:Fb}{d:D}{x:V}{t:String}(g:Aw X.K N H d x)(c:RelV x u)(f:L4 d=Z t):∃p:Ak->Prop,PySem.W.KitX X.K u (.type t) p/\p s.heap/\u≠.builtin "__main__.__loader__#opaque":=by
 cases d with
 |non=>cases f;rw[g.non]at c;cases c;exact#[_,PySem.W.kitx_none,trivial,λz=>nomatch z]
 |bl b=>cases f;rw[g.bl]at c;cases c;exact#[_,PySem.W.kitx_bool,trivial,λz=>nomatch z]
 |int b=>cases f;rw[g.int]at c;obtain⟨t,rfl⟩:=c;exact#[_,PySem.W.kitx_int,trivial,λz=>nomatch z]
 |str b=>cases f;rw[g.str]at c;obtain⟨t,rfl⟩:=c;exact#[_,PySem.W.kitx_str,trivial,λz=>nomatch z]
 |ty n=>cases f
 |tup v=>
  cases f;obtain⟨a,w,e,q,r⟩:=g.tup;subst e;cases c;obtain⟨j,_,⟨o,k,m,_⟩,_⟩:=A.tuple q;exact#[_,PySem.W.kitx_tuple,#[o,k,m],λz=>nomatch z]
 |lst v y=>
  cases y with
  |d=>cases f
  |i _ _=>cases f
  |l=>
  cases f;obtain⟨a,w,e,q,r⟩:=g;subst e;cases c;obtain⟨j,_,⟨o,n,k,m,_⟩,_⟩:=A.list q;exact#[_,PySem.W.kitx_list,#[o,k,m],λz=>nomatch z]
@[simp] def Dl:D->O (U String)
  |.ty n=>Z [n]
  |.tup a=>tysL a
  |_=>J
where tysL:U D->O (U String)
 |[]=>Z []
 |.ty n::r=>(tysL r).map (n::·)
 |_=>J
theorem pN{ns:U String}(h:Dl.tysL xs=Z ns):xs=ns.map D.ty:=by
 induction xs generalizing ns with
 |nil=>cases h;rfl
 |cons x r a=>cases x<;>first|cases h;done|(erw[Dl.tysL,B0]at h;obtain⟨_,e,rfl⟩:=h;rw[a e];rfl)
@[simp] def CN:Eg
  |[x,c]=>(Dl c).bind λns=>if(∀n∈ns,n∈Hd)then(L4 x).map λt=>.bl (ns.any λn=>L5 t n)else J
  |_=>J
def Y8(K:Ao):U V->Hp->VK->Prop:=λa H Q=>∃N d c x y ns t,a=[x,y]/\Aw K N H d x/\Aw K N H c y/\Dl c=Z ns/\(∀n∈ns,n∈Hd)/\L4 d=Z t/\Q (.bl (ns.any λn=>L5 t n)) H
theorem Y9{N:Fb}{H:Hp}:∀{ns:U String}{vs:U V},Ad K N H (ns.map D.ty) vs->vs=ns.map V.ty
 |[],_,h=>by simpa only[C1,Ad]using h
 |b::bs,_,h=>by
  obtain⟨v,r,e,a,t⟩:=h;subst e a;rw[Y9 t];rfl
theorem aa:∀{ns:U String}{us:U Aa},An (ns.map V.ty) us->us=ns.map Value.type
 |[],_,r=>by cases r;rfl
 |n::ns,_,r=>by
  cases r with
  |cons a b=>cases a;rw[aa b];rfl
theorem ac:ED X (.builtin "isinstance") (Y8 X.K):=by
 intro l s M H o P Q zA r h;obtain⟨N,d,c,x,y,ns,t,rfl,v,m,b,f,i,q⟩:=h;obtain⟨u,T,rfl,w,j⟩:=MN r;obtain⟨R,S,p,g⟩:=pM zA v w i;cases c with
 |ty n=>
  cases b;rw[m.ty]at j;cases j;refine PySem.W.kia_one S zA.kIn p (Y5 X.K t (Y7 i) n<|f n (by simp)) g λk=>#[.bl _,H,zA.tok k,rfl,?_];simpa using q
 |tup o=>
  have e:=pN b;subst e;obtain⟨a,Y,e,z,dl⟩:=m.tup;subst e;cases j;obtain⟨A,B,⟨⟨cls,dd,data,sl⟩,C,E,n,G⟩,_⟩:=zA.tuple z;subst E G;have F:=Y9 dl;subst F;have L:=aa B;subst L;exact PySem.W.kia_tup S zA.kIn p C (Y6 X.K (Y7 i) ns f) g λk=>#[.bl _,H,zA.tok k,rfl,q]
 |non=>cases b
 |bl _=>cases b
 |int _=>cases b
 |str _=>cases b
 |lst _=>cases b
set_option tactic.hygienic true in
theorem ae:Gc K (Y8 K) CN:=by
 intro N H j k d Q l h e q;unfold CN at e;split at e
 ·next x c=>
  cases a:Dl c with|none=>rw[a]at e;cases e|some ns=>
   rw[a]at e;obtain⟨b,e⟩:=ZV e;obtain⟨t,f,e⟩:=B0.mp e;cases e;obtain⟨v,w,rfl,g,i⟩:=Paired.two' h;exact#[N,x,c,v,w,ns,t,rfl,g,i,a,b,f,q _ H (Ah.refl H) G9]
 ·cases e
theorem af{M:Fb}{x:Ae}{n:String}(a:Gl X x)(b:X.mg x=J)(c:Ec x=Z (.type n))(d:x≠"__name__":=by ext)(hd:Cs x:=by ext):JE X (.Name x pos) (tD K M H0 λ_=>Z (.ty n)):=#[LO (W7 a b c (v:=.ty n) rfl d hd) λ_ _=>by erw[As]]
theorem pO{M:Fb}{x:Ae}{v:V}{d:D}(b:Gl X x)(h:∃u,X.mg x=Z u/\RelV v u)(hd:∀N H,As K N H d v)(a:Cs x:=by ext):JE X (.Name x pos) (tD K M H0 λ_=>Z d):=#[by
 obtain⟨u,c,r⟩:=h;exact LO (RE b c r a) hd]
end
section
variable{K:Ao}{M:Fb}{a b c e:Expr}{f g h:AB}
theorem vv(i:Nat){x:Ae}(a:NV X i x:=by exact EF):PE X (.Name x pos) (tD K M H0 λρ=>Bb ρ i):=nq a
theorem pP(i:Nat){x:Ae}(a:NV X i x:=by exact EF):JE X (.Name x pos) (tD K M H0 λρ=>Bb ρ i):=#[vv i a]
theorem vp(i:Nat){x:Ae}(a:NV X i x:=by exact EF):PE X (.Name x pos) (tP K M H0 λρ=>AU ρ i):=nr a
theorem pQ(i:Nat){x:Ae}(a:NV X i x:=by exact EF):JE X (.Name x pos) (tP K M H0 λρ=>AU ρ i):=#[vp i a]
theorem vq(i:Nat){x:Ae}(a:NV X i x:=by exact EF):PE X (.Name x pos) (tQ K M H0 λρ=>BI ρ i):=oE a
theorem pR(i:Nat){x:Ae}(a:NV X i x:=by exact EF):JE X (.Name x pos) (tQ K M H0 λρ=>BI ρ i):=#[vq i a]
theorem SI(i:Nat){x:Ae}(a:NV X i x:=by exact EF):JE X (.Name x pos) (Gz K M H0 λρ=>Co ρ i):=#[nU a]
theorem pS(i:Nat){x:Ae}{a:AD}(b:NV X i x:=by exact EF):JS X (.Return (Z (.Name x a)) pos) (tS K M H0 λρ=>C9 (DF ρ i)):=#[Yu rfl (λ_=>rfl) Ss b]
theorem pT(e:X.A.units+64<Aq)(c:JE X a (tP X.K M H0 f))(d:JE X b (tP X.K M H0 g)):JE X (.Compare a [.Eq] [b] pos) (tD X.K M H0 (Za Bu f g)):=#[have c:=c.h;have d:=d.h;MY (YK e) YM c d<|GU _ (by ext) (by ext)]
theorem pU(e:X.A.units+64<Aq)(c:JE X a (tP X.K M H0 f))(d:JE X b (tP X.K M H0 g)):JE X (.Compare a [.Lt] [b] pos) (tD X.K M H0 (Za E7 f g)):=#[have c:=c.h;have d:=d.h;MY (YU e) YV c d<|GU _ (by ext) (by ext)]
theorem pV(e:X.A.units+64<Aq)(c:JE X a (tP X.K M H0 f))(d:JE X b (tP X.K M H0 g)):JE X (.Compare a [.Gt] [b] pos) (tD X.K M H0 (Za EW f g)):=#[have c:=c.h;have d:=d.h;MY Xr (M9 _) c d<|GU _ (by ext) (by ext)]
theorem pW(e:X.A.units+64<Aq)(c:JE X a (tP X.K M H0 f))(d:JE X b (tP X.K M H0 g))(i:GV .In b=O':=by with_unfolding_all rfl):JE X (.Compare a [.In] [b] pos) (tD X.K M H0 (Za (Db O') f g)):=#[have c:=c.h;have d:=d.h;MY ((YP O' e).or lw) (YQ O') c d i]
theorem pX(e:X.A.units+64<Aq)(c:JE X a (tP X.K M H0 f))(d:JE X b (tP X.K M H0 g)):JT X (.Compare a [.Eq] [b] pos) (BQ X.K M H0 λρ=>AE (Za Bu f g ρ)):=#[have c:=c.h;have d:=d.h;JH (YK e) YM c d<|GU _ (by ext) (by ext)]
theorem pY(e:X.A.units+64<Aq)(c:JE X a (tP X.K M H0 f))(d:JE X b (tP X.K M H0 g)):JT X (.Compare a [.NotEq] [b] pos) (BQ X.K M H0 λρ=>AE (Za Ce f g ρ)):=#[have c:=c.h;have d:=d.h;JH (YL e) YN c d<|GU _ (by ext) (by ext)]
theorem pZ(e:X.A.units+64<Aq)(c:JE X a (tP X.K M H0 f))(d:JE X b (tP X.K M H0 g)):JT X (.Compare a [.Lt] [b] pos) (BQ X.K M H0 λρ=>AE (Za E7 f g ρ)):=#[have c:=c.h;have d:=d.h;JH (YU e) YV c d<|GU _ (by ext) (by ext)]
theorem p5(e:X.A.units+64<Aq)(c:JE X a (tP X.K M H0 f))(d:JE X b (tP X.K M H0 g)):JT X (.Compare a [.Gt] [b] pos) (BQ X.K M H0 λρ=>AE (Za EW f g ρ)):=#[have c:=c.h;have d:=d.h;JH Xr (M9 _) c d<|GU _ (by ext) (by ext)]
theorem p6(e:X.A.units+64<Aq)(c:JE X a (tP X.K M H0 f))(d:JE X b (tP X.K M H0 g)):JT X (.Compare a [.GtE] [b] pos) (BQ X.K M H0 λρ=>AE (Za KD f g ρ)):=#[have c:=c.h;have d:=d.h;JH lu (M9 _) c d<|GU _ (by ext) (by ext)]
theorem p7(e:X.A.units+64<Aq)(c:JE X a (tP X.K M H0 f))(d:JE X b (tP X.K M H0 g))(i:GV .NotIn b=O':=by with_unfolding_all rfl):JT X (.Compare a [.NotIn] [b] pos) (BQ X.K M H0 λρ=>AE (Za (Db J') f g ρ)):=#[have c:=c.h;have d:=d.h;JH ((YP J' e).or lx) (YQ J') c d i]
@[simp] noncomputable def Nj(F b:D->D->O D)(f g h:AB):AB:=λa=>(f a).bind λx=>(g a).bind λy=>match F x y with
  |some (.bl J')=>(h a).bind λz=>b y z
  |some (.bl O')=>Z (.bl O')
  |_=>J
theorem p8{r s:R2}{F t:D->D->O D}(A:Eh K r F)(k:Eh K s t){Q:VK}(q:tD K M H0 (Nj F t f g h) I H Q):Xt r s (tP K M H0 f) (tP K M H0 g) (tP K M H0 h) I H Q:=by
 obtain⟨b,d,R,e,q⟩:=q;unfold Nj at e;cases i:f b with|none=>rw[i]at e;cases e|some x=>
  cases l:g b with|none=>rw[i,l]at e;cases e|some y=>
   rw[i,l]at e;erw[BH]at e;refine#[b,x,R,i,λv Y j B=>#[b,y,R.st j,l,λu C c m=>?_]];have R2:=(R.st j).st c;split at e
   ·next n=>
    obtain⟨z,G,e⟩:=B4.mp e;refine A _ C v u x y _ _ R2.nh (B.same c) m n λw E a o=>#[J',by simpa only[As]using o,Ky #[b,z,R2.st a,G,λX P p L=>?_]];exact k _ P u X y z d Q (((R2.st a).st p)).nh ((m.same a).same p) L e λN S T W=>q N S ((((j.trans c).trans a).trans p).trans T) W
   ·next n=>
    cases e;exact A _ C v u x y _ _ R2.nh (B.same c) m n λw E a o=>#[O',by simpa only[As]using o,Kz<|q _ E ((j.trans c).trans a) G9]
   ·cases e
theorem p9{op d:CmpOp}{r m:R2}{F n:D->D->O D}(o:Ca X (DC op) r)(e:Ca X (DC d) m)(p:Eh K r F)(i:Eh K m n)(j:JE X a (tP K M H0 f))(k:JE X b (tP K M H0 g))(l:JE X c (tP K M H0 h))(s:lastMarks [op,d] [b,c]=O':=by with_unfolding_all rfl):JE X (.Compare a [op,d] [b,c] pos) (tD K M H0 (Nj F n f g h)):=#[have j:=j.h;have k:=k.h;have l:=l.h;(lA o e j k l s).mono λ_ _ _ q=>p8 p i q]
@[simp] noncomputable def ZM:O D->O Bool
  |some .non=>Z O'
  |some (.bl b)=>Z b
  |some (.int i)=>Z (i != 0)
  |some (.str y)=>if y.length<=Ax then Z ((y.length:Int) != 0)else J
  |some (.lst a)=>Z (!a.isEmpty)
  |some (.tup a)=>Z (!a.isEmpty)
  |_=>J
theorem Ad.isEmpty{N:Fb}(h:Ad K N H xs vs):vs.isEmpty=xs.isEmpty:=by
 cases xs with
 |nil=>erw[Ad]at h;subst h;rfl
 |cons x xs=>erw[Ad]at h;obtain⟨_,_,e,_⟩:=h;subst e;rfl
theorem qa(i:JE X a (tP X.K M H0 f))(o:∀b,isTrue a X.env b=(do let v <- b;standAt a.pos;Ee [v] (truthy v)):=by intro _;rfl):JT X a (BQ X.K M H0 λρ=>ZM (f ρ)):=#[have i:=i.h;(lC i o).mono λu H Q r=>by
  obtain⟨ρ,k,R,e,q⟩:=r;try dsimp only at e q
  unfold ZM at e;split at e
  ·next c=>cases e;exact#[ρ,_,R,c,λv d s g=>#[_,by rw[g.non];rfl,q d s]]
  ·next c=>cases e;exact#[ρ,_,R,c,λv d s g=>#[_,by rw[g.bl];rfl,q d s]]
  ·next c=>cases e;exact#[ρ,_,R,c,λv d s g=>#[_,by rw[g.int];rfl,q d s]]
  ·next c=>
   obtain⟨t,e⟩:=ZV e;cases e;exact#[ρ,_,R,c,λv d s g=>#[_,by rw[g.str];exact#[t,rfl],q d s]]
  ·next c=>
   cases e;refine#[ρ,_,R,c,λv d s g=>#[_,?_,q d s]];obtain⟨p,j,l,m,n⟩:=g;subst l;exact .inl #[j,m,by rw[n.isEmpty]]
  ·next c=>
   cases e;refine#[ρ,_,R,c,λv d s g=>#[_,?_,q d s]];obtain⟨p,j,l,m,n⟩:=g.tup;subst l;exact .inr #[j,m,by rw[n.isEmpty]]
  ·cases e]
@[simp] def Zs:D->A0
  |.lst a=>Z a
  |.tup a=>Z a
  |.str x=>Z (x.cps.toList.map λc=>D.str #[(T' [c])])
  |_=>J
theorem qb{l:Expr}(b:JE X l (tQ X.K M H0 f)):JI X tg l (tI X.K M H0 λρ=>(f ρ).bind Zs):=#[have b:=b.h;λa s c H g p m=>by
 obtain⟨ρ,j,R,e,q⟩:=m;obtain⟨d,k,e⟩:=B4.mp e;cases d with
 |lst n o=>
  cases o with
  |d=>cases e
  |i _ _=>cases e
  |l=>exact oH b a s c H g p #[ρ,j,R,by dsimp only;rw[k];exact e,q]
 |tup n=>exact oI b a s c H g p #[ρ,j,R,by dsimp only;rw[k];exact e,q]
 |str x=>exact oJ b a s c H g p #[ρ,j,R,by dsimp only;rw[k];exact e,q]
 |_=>cases e]
@[simp] def L7(i:Nat)(o:A0)(ρ:VE):DE:=match DF ρ i,o with
  |some a,Z b=>if a.length+b.length<=Ax then .next (ρ.set i (.own (a++b)))else .fail
  |_,_=>.fail
theorem qc{fl:VE->A0}{i:Nat}{x:Ae}{c:AD}(m:JE X e (tF K M H0 fl))(y:NV X i x:=by exact EF)(z:Ef (.Call (.Attribute (.Name x c) "extend" apos) [e] [] cpos) J pos.line X.env=AA O':=by rfl)(hz:BA X x c "extend" apos e cpos:=by exact Yn):JS X (.Expr (.Call (.Attribute (.Name x c) "extend" apos) [e] [] cpos) pos) (tS K M H0 λρ=>L7 i (fl ρ) ρ):=#[have m:=m.h;(OD (Hv O4 PySem.F.slot_list_extend PySem.F.type_list_extend mM (Gy y) (Z3 m A8 hz.s) hz.b hz.f hz.l hz.s hz.p) z).mono λQ A H B=>by
  obtain⟨ρ,R,q⟩:=B;cases g:DF ρ i with|none=>erw[g,L7]at q;exact BM q|some C=>
   cases n:fl ρ with|none=>erw[g,n,L7]at q;exact BM q|some j=>
    erw[g,n,L7]at q;split at q
    ·next hz=>
     have t:=Ss g;obtain⟨a,o,E,T,W,u,v⟩:=R.slot i _ t;have w:=Fp E;refine#[.ref a,w,.inl #[rfl,o,.inl<|.inl u],ρ,j,R,n,λp k G s Y r P=>?_];have L:=R.st s;have d:Ad K (Nf M ρ A) G j k:=P.nw λb N=>.inl<|.inl N;obtain⟨R2,S⟩:=L.chg (ys:=C++j) (ws:=o++k) t w ((v.same s).append d);exact#[a,p,o,k,rfl,rfl,s _ _ u,r,by rw[<- v.length,<- d.length];exact hz,q _ _ R2<|(Step.of_same s).trans S]
    ·exact BM q]
end
end L2
variable{SC xs:U L2.D}{ρ:L2.VE}{fa:L2.DD}{fl k':L2.Kd}{fo:L2.VE->O L2.Sl}{fx:L2.VE->O (L2.D×L2.VE)}
namespace L2
theorem ag{e:PySem.Expr}{t:TT}(h:JW X e t):JT X e t:=#[h.h.pt]
open PyProof.Rows PySem PySem.Spec
section
variable{K:Ao}
def Pn(i:Nat)(b c:O D)(ρ:VE):DE:=match DF ρ i,b,c with
 |some a,Z (.int k),Z d=>match D2 a.length k with
  |some j=>.next (ρ.set i (.own (a.set j d)))
  |none=>.fail
 |_,_,_=>.fail
set_option tactic.hygienic true in
theorem qd{M:Fb}{i:Nat}{x:Ae}{b c:AD}{g e:Expr}{fi f:AB}(p:JE X g (tP K M H0 fi))(r:JE X e (tD K M H0 f))(C:NV X i x:=by exact EF) (n:∀v,assign (.Subscript (.Name x b) g c) X.env v=(do
   let o <- Ee [v] (Ap (.Name x b) X.env);let s <- Ee [v,o] (Ap g X.env);standAt c
   Ee [v,o,s] (setItem o s v)
   release [v,o,s] []):=by intro _;rfl) (E:swapsWithSole [.Subscript (.Name x b) g c] e pos.line X.env=AA O':=by rfl) (t:swappedStores [.Subscript (.Name x b) g c] e X.env=AA J:=by rfl) (G:(Gx [.Subscript (.Name x b) g c] X.env).map (·.2)=[assign (.Subscript (.Name x b) g c) X.env]:=by rfl):JS X (.Assign [.Subscript (.Name x b) g c] e pos) (tS K M H0 λρ=>Pn i (fi ρ) (f ρ) ρ):=#[have p:=p.h;have r:=r.h;(RL r (RK (Gy C) p mz n) E t G).mono λD' I H W=>by
 obtain⟨ρ,R,q⟩:=W;try dsimp only at q
 unfold Pn at q;split at q
 ·next F k d L u N=>
  split at q
  ·next j P=>
   refine#[ρ,d,R,N,λv H1 z Q=>?_];have l:=Ss L;have y:=R.st z;obtain⟨a,A,T,z1,z2,S,B⟩:=y.slot i _ l;have n:=Fp T;refine#[.ref a,n,ρ,.int k,y,u,λw H2 m t=>?_];have R2:=y.st m;obtain⟨Y,S3⟩:=R2.chg (ys:=F.set j d) (ws:=A.set j v) l n (Ad.set j (B.same m)<|Q.same m);exact⟨a,A,k,j,rfl,t.int,m _ _ S,by rw[<- B.length];exact P,q _ _ Y<|(Step.of_same<|z.trans m).trans S3⟩
  ·exact BM q
 ·exact BM q]
def SJ(K:Ao)(r:V->U V->Hp->VK->Prop)(F:Ae->Eg):Prop:=∀(N:Fb)(H:Hp)(z:Ae)(c:U V)(e:U D)(d:D)(Q:VK),(∀a,N a->H a≠J)->Paired (Aw K N H) e c->F z e=Z d ->
 (∀v b,Ah H b->As K N b d v->Q v b)->r (.str z) c H Q
@[simp] def KJ(F:Ae->Eg)(f:AB)(b:DD):AB:=λa=>match f a with
  |some (.str z)=>((b a).bind EU).bind (F z)
  |_=>J
section
variable{M:Fb}{o e:Expr}{f:AB}{name:Ae}{id:String}{r:V->U V->Hp->VK->Prop}{F:Ae->Eg}
set_option tactic.hygienic true in
theorem ah(s:PlainAttrs "str")(slot:Slot "str" name id)(i:typeOf (.builtin id)=AA (.type "method_descriptor"))(t:Ks X id r)(u:SJ X.K r F)(j:JE X o (tP X.K M H0 f))(k:JA X (e::es) (CW X.K M H0 fa))(b:F6 o name X.env (Ap o X.env)=Ap o X.env:=by rfl) (g:((Au cpos (AC (e::es) X.env)).all (λx=>!x.1)&&(F7 cpos (F8 [] X.env)).all (λx=>x.1.isSome) && decide ((e::es).length+([]:U D1).length+(if([]:U D1).isEmpty then 0 else 1)<30))=J':=by rfl) (c:(apos.endLine==cpos.line)=J':=by rfl) (y:AC (e::es) X.env=(O',Ap e X.env)::AC es X.env:=by exact ZR rfl) (a:(Au cpos (AC es X.env)).any (·.1)=O':=by rfl):JE X (.Call (.Attribute o name apos) (e::es) [] cpos) (tD X.K M H0 (KJ F f fa)):=#[have j:=j.h;have k:=k.h;(Hv s slot i t j k b g c y a).mono λY H Q A=>by
 obtain⟨l,d,R,ex,q⟩:=A;unfold KJ at ex;split at ex
 ·next z B=>
  cases m:fa l with|none=>rw[m]at ex;cases ex|some C=>
   rw[m]at ex;obtain⟨E,G,ex⟩:=B4.mp ex;refine#[l,.str z,R,B,λv H1 n zA=>?_];rw[zA.str];refine#[rfl,l,C,R.st n,m,λP L p N=>?_];exact u _ L z P E d Q ((R.st n).st p).nh (O3 N G) ex λw S T W=>q w S ((n.trans p).trans T) W
 ·cases ex]
end
def JR:U D->O (U Ae)
 |[]=>Z []
 |.str b::r=>(JR r).map (b::·)
 |_=>J
theorem qe{bs:U Ae}(h:JR xs=Z bs):xs=bs.map D.str:=by
 induction xs generalizing bs with
 |nil=>cases h;rfl
 |cons x r a=>cases x<;>first|cases h;done|(erw[JR,B0]at h;obtain⟨_,e,rfl⟩:=h;rw[a e];rfl)
@[simp] theorem ai:∀(ns:U Ae),JR (ns.map D.str)=Z ns
  |[]=>rfl
  |n::ns=>by erw[AS,JR,ai ns];rfl
theorem aj{N:Fb}{H:Hp}:∀{bs:U Ae}{vs:U V},Ad K N H (bs.map D.str) vs->vs=bs.map V.str
 |[],_,h=>by simpa only[C1,Ad]using h
 |b::bs,_,h=>by
  obtain⟨v,r,e,a,t⟩:=h;subst e a;rw[aj t];rfl
@[simp] def Po(z:Ae):Eg
  |[.lst b]=>(JR b).bind λa=>if(a.map (·.length)).sum+a.length*z.length<=16777216 then Z (.str (Txt.join z a))else J
  |_=>J
set_option tactic.hygienic true in
theorem qf:SJ K (Ye K) Po:=by
 intro N H z m n d Q o h e q;unfold Po at e;split at e
 ·next g=>
  cases b:JR g with|none=>simp[b]at e|some i=>
   rw[b]at e;obtain⟨j,e⟩:=ZV e;cases e;obtain⟨v,rfl,k⟩:=Paired.one' h;obtain⟨a,p,rfl,c,f⟩:=k;rw[qe b]at f;rw[aj f]at c;exact#[z,a,i,rfl,rfl,c,j,q _ H (Ah.refl H) Pb]
 ·cases e
@[simp] def Nk(z:Ae):Eg
  |[.str y]=>Z (.int (Txt.find z y))
  |_=>J
set_option tactic.hygienic true in
theorem qg:SJ K Yd Nk:=by
 intro N H z b c d Q f h e q;unfold Nk at e;split at e
 ·next y=>
  cases e;obtain⟨v,rfl,a⟩:=Paired.one' h;exact#[z,y,rfl,by rw[a.str],q _ H (Ah.refl H) Fq]
 ·cases e
end
section
variable{s:Ab}
theorem Inv.turnedL{f:U Ac}(A:Inv X pins I H s)(g:∀b∈f,F5 X pins H b)(k:∀b o,b∉f->s.heap.get? b=Z o->h'.get? b=Z o):Inv X pins I H {s with heap:=h' }:=by
 have d:∀b u,H b=Z u->b∉f:=λb u e z=>by simp[(g b z).1]at e
 refine A.step (g':=s.gens) (d':=s.drawn) (t':=s.toks) (λb h=>?_) (λb o _ _ a e _=>k b o a e) (λb o _ _ a e _=>#[o.slots,k b o a e]) (λ_ _ _ _ n=>n)
  (λb o a e=>#[o,k b o a e]) (λ_ _ e=>e) (λ_ _ _ e=>e) (λb G e=>#[(T' []),by rw[e];simp]) (λm i=>?_) (λb u e=>?_) A.bare
 ·obtain⟨_,j,_,l,p,t⟩:=g b h;exact#[l,j,p,t]
 ·obtain⟨o,w,x,y,r⟩:=i;exact#[o,w,x,k _ o (λz=>(g _ z).2.1 rfl) y,r]
 ·refine(A.hok b u e).stay (λc v a q=>k c v ?_ q) (λ_ q=>q) λ_ _ q=>q;rcases a with z|z
  ·rw[z];exact d b u e
  ·exact d c _ z
theorem Inv.yielded{g:U Ac}{p:Ac}(K:Inv X pins I H s)(i:∀b∈g,F5 X pins H b)(k:∀b o,b∉g->s.heap.get? b=Z o->h'.get? b=Z o)(j:s.heap.objs.size<=p) (new:AY X.prog X.w (AG H p (.tup vs)) h' p (.tup vs)):Inv X pins I (AG H p (.tup vs)) {s with heap:=h' }:=by
 have d:∀b u,H b=Z u->b∉g:=λb u e z=>by simp[(i b z).1]at e
 have f:=K.hok.fresh j;refine K.step (g':=s.gens) (d':=s.drawn) (t':=s.toks) (ch:=g) (λb h=>?_) (λb o _ _ a e _=>k b o a e) (λb o _ _ a e _=>#[o.slots,k b o a e]) (λb o _ e n=>?_)
  (λb o a e=>#[o,k b o a e]) (λb l e=>?_) (λb o u e=>?_) (λb F e=>#[(T' []),?_]) (λm t=>?_) (λb u e=>?_) K.bare
 ·obtain⟨_,x,_,y,A,B⟩:=i b h;exact#[y,x,A,B]
 ·rw[Zm<|B9<|B6 (BC e) j];exact n
 ·rw[Zm<|ZW e f];exact e
 ·rw[Zm<|ZW e f];exact e
 ·rw[Zm<|ZW e f,e];simp
 ·obtain⟨o,C,E,G,r⟩:=t;exact#[o,C,E,k _ o (λz=>(i _ z).2.1 rfl) G,r]
 ·by_cases h:b=p
  ·subst h;rw[ZH]at e;cases e;exact new
  ·rw[Zm h]at e;refine(K.hok b u e).stay (λc v a q=>k c v ?_ q) (λc q=>by rw[Zm<|ZW q f];exact q) λc l q=>by rw[Zm<|ZW q f];exact q
   rcases a with z|z
   ·rw[z];exact d b u e
   ·exact d c _ z
end
theorem qh:Ec "enumerate"=Z (.type "enumerate"):=by decide +kernel
def E8:Nat->U D->U D
 |_,[]=>[]
 |k,d::a=>.tup [.int k,d]::E8 (k+1) a
theorem SM:∀(xs:U D)(k:Nat),(E8 k xs).length=xs.length
 |[],_=>rfl
 |_::xs,k=>by simp[E8,SM xs]
theorem ak:∀(xs:U D)(k i:Nat),(E8 k xs)[i]?=(xs[i]?).map λd=>D.tup [.int ((k+i:Nat):Int),d]
 |[],_,_=>by simp[E8]
 |x::xs,k,0=>by simp[E8]
 |x::xs,k,i+1=>by
  erw[E8,CC,ak xs];rw[show k+1+i=k+(i+1) by lia]
abbrev T3:=KT×V×V
noncomputable def DS:U T3->U V
 |[]=>[]
 |t::r=>t.2.1::t.2.2::DS r
def Cp:U T3->KT->O V
 |[],_=>J
 |t::r,k=>if t.1=k then Z t.2.2 else Cp r k
noncomputable def HC:U T3->KT->V->U T3
 |[],_,_=>[]
 |t::r,k,v=>(if t.1=k then(t.1,t.2.1,v)else t)::HC r k v
def Ej(tr:U T3)(k:KT)(kv v:V):U T3:=if(Cp tr k).isSome=J' then HC tr k v else tr++[(k,kv,v)]
theorem am(k:KT)(v:V):∀tr:U T3,(HC tr k v).map (·.1)=tr.map (·.1)
 |[]=>rfl
 |t::r=>by
  erw[HC,AS,am k v r];split<;>rfl
theorem ao{k:KT}:∀{tr:U T3},Cp tr k=J->k∉tr.map (·.1)
 |[],_=>by simp
 |t::r,h=>by
  unfold Cp at h;split at h
  ·cases h
  ·next e=>
   erw[AS,Bo,not_or];exact#[λz=>e z.symm,ao h]
theorem L8{tr:U T3}{k:KT}{kv v:V}(h:(tr.map (·.1)).Nodup):((Ej tr k kv v).map (·.1)).Nodup:=by
 unfold Ej;split
 ·rw[am];exact h
 ·next e=>
  rw[HD,HE];refine#[h,by simp,λa c b d=>?_];have f:Cp tr k=J:=by
   simp_all
  grind [ao]
theorem ap(k:KT)(v:V):∀tr:U T3,(HC tr k v).length=tr.length
 |[]=>rfl
 |t::r=>by simp[HC,ap k v r]
theorem aq(tr:U T3)(k:KT)(kv v:V):(Ej tr k kv v).length<=tr.length+1:=by
 unfold Ej;split
 ·rw[ap];exact Pp tr.length 1
 ·simp
theorem HF{a:At}(h:RelV (E3 a) u):Jl a u=J':=by
 cases a with
 |non=>cases h;rfl
 |int i=>obtain⟨t,rfl⟩:=h;exact jV i t
 |str x=>obtain⟨t,rfl⟩:=h;exact jW x t
theorem qi{a:At}(h:Jl a u=J'):RelV (E3 a) u:=by
 rcases Jm h with⟨rfl,rfl⟩|⟨i,t,rfl,rfl⟩|⟨x,t,rfl,rfl⟩
 ·rfl
 ·exact#[t,rfl]
 ·exact#[t,rfl]
abbrev RA:U T3->U (At×Aa)->Prop:=Paired λt u=>t.1=.at u.1/\t.2.1=E3 u.1/\RelV t.2.2 u.2
theorem ar{P:AM}{w:Ai}:∀{tr:U T3}{es:U GR},Kk w (tr.map (·.1)) (DS tr) es->(∀t∈tr,∃a,t.1=KT.at a)->∃us,RA tr us/\Pairs (ZB P w) es us/\∀e∈es,∃k,(ZB P w).is k e.key=J'/\e.hash=(ZB P w).hash k
 |[],es,h,_=>by
  obtain⟨_,rfl⟩:=h;exact#[[],.nil,.nil,λ_ z=>nomatch z]
 |t::r,es,h,l=>by
  obtain⟨kv,v,q,e,n,d,o,f,p,g,b,s⟩:=h;obtain⟨a,m⟩:=l t Ba;erw[DS,Pq]at d;obtain⟨d,i,c⟩:=d;subst d i o c;dsimp only at g b;rw[m]at g b;obtain⟨us,u,x,y⟩:=ar (P:=P) s λt A=>l t<|Be _ A;have b:t.2.1=E3 a:=b;rw[b]at f;refine#[(a,e.val)::us,.cons #[m,b,p] u,.cons (HF f) rfl x,λB j=>?_];rcases Bo.mp j with rfl|j
  ·exact#[a,HF f,g]
  ·exact y B j
theorem qk{P:AM}{w:Ai}{tr:U T3}{us:U (At×Aa)}{es:U GR}(h:RA tr us)(g:Pairs (ZB P w) es us)(a:∀e∈es,∃k,(ZB P w).is k e.key=J'/\e.hash=(ZB P w).hash k):Kk w (tr.map (·.1)) (DS tr) es:=by
 induction h generalizing es with|nil=>cases g;exact#[rfl,rfl]|@cons t _ r _ h _ d=>
  obtain⟨b,c,f⟩:=h;cases g with
  |@cons e _ es _ p1 i j=>
   refine#[t.2.1,t.2.2,DS r,e,es,rfl,rfl,?_,?_,?_,?_,d j λe l=>a e<|Be _ l]
   ·rw[c];exact qi p1
   ·rw[i];exact f
   ·obtain⟨k,m,n⟩:=a e Ba;have:=(ZB P w).inj _ _ _ m p1;subst this;dsimp only;rw[b];exact n
   ·dsimp only;rw[b];exact c
theorem RA.val{tr:U T3}{us:U (At×Aa)}(h:RA tr us)(a:At):Cy (Cp tr (.at a)) (valueAt us a):=by
 induction h with|nil=>exact G3|@cons t u _ _ h _ b=>
  unfold Cp valueAt;rw[h.1,List.find?_cons];by_cases e:u.1=a
  ·rw[if_pos (by rw[e])];erw[e,decide_true];exact h.2.2
  ·rw[if_neg<|λz=>e<|KT.at.inj z];erw[e,decide_false];exact b
theorem Cy.isS:∀{o:O V}{u:O Aa},Cy o u->o.isSome=u.isSome
 |some _,Z _,_=>rfl
 |none,J,_=>rfl
 |some _,J,h=>h.elim
 |none,Z _,h=>h.elim
theorem RA.rep{a:At}{v:V}(d:RelV v u){tr:U T3}{us:U (At×Aa)}(h:RA tr us):RA (HC tr (.at a) v) (us.map λkv=>if kv.1=a then(kv.1,u)else kv):=by
 induction h with|nil=>exact .nil|@cons t w _ _ h _ f=>
  refine .cons ?_ f;obtain⟨b,c,g⟩:=h;dsimp only;by_cases e:w.1=a
  ·rw[if_pos e,if_pos<|b.trans<|congrArg _ e];exact⟨b,c,d⟩
  ·rw[if_neg e,if_neg λz=>e<|KT.at.inj<|b.symm.trans z];exact⟨b,c,g⟩
theorem Paired.snoc'{a b:Type}{F:a->b->Prop}{x:a}{y:b}(h:F x y){l:U a}{m:U b}(t:Paired F l m):Paired F (l++[x]) (m++[y]):=t.snoc h
theorem qm{us:U (At×Aa)}{a:At}:(us.any λkv=>decide (kv.1=a))=(valueAt us a).isSome:=by
 unfold valueAt;grind
theorem RA.put{tr:U T3}{us:U (At×Aa)}{a:At}{v:V}(h:RA tr us)(b:RelV v u):RA (Ej tr (.at a) (E3 a) v) (stored us a u):=by
 unfold Ej stored;rw[qm,(h.val a).isS];by_cases e:(valueAt us a).isSome=J'
 ·rw[if_pos e,if_pos e];exact h.rep b
 ·rw[if_neg e,if_neg e];exact Paired.snoc' #[rfl,rfl,b] h
theorem RA.fst{tr:U T3}{us:U (At×Aa)}(h:RA tr us):tr.map (·.1)=(us.map (·.1)).map KT.at:=by
 induction h with
 |nil=>rfl
 |cons h _ a=>rw[AS,AS,AS,h.1,a]
abbrev RT:U T3->U (U At×Ac×Aa)->Prop:=Paired λt u=>t.1=.tup u.1/\t.2.1=.ref u.2.1/\RelV t.2.2 u.2.2
theorem au{P:AM}{w:Ai}:∀{tr:U T3}{es:U GR},Kk w (tr.map (·.1)) (DS tr) es->(∀t∈tr,∃l,t.1=KT.tup l)->∃us,RT tr us/\es=us.map (entryOfKey (BN (ZB P w)))
 |[],es,h,_=>by
  obtain⟨_,rfl⟩:=h;exact#[[],.nil,rfl]
 |t::r,es,h,g=>by
  obtain⟨kv,v,q,e,m,b,n,i,o,c,d,s⟩:=h;obtain⟨l,j⟩:=g t Ba;erw[DS,Pq]at b;obtain⟨b,f,a⟩:=b;subst b f n a;dsimp only at c d;rw[j]at c d;obtain⟨us,u,x⟩:=au (P:=P) s λt y=>g t<|Be _ y;obtain⟨p,k⟩:=(d:∃p,t.2.1=.ref p);rw[k]at i;obtain⟨z,A,B⟩:=e;cases(i:A=Cj p);refine#[(l,p,B)::us,.cons #[j,k,o] u,?_];rw[AS,<- x];have:z=(KT.tup l).hash w:=c;rw[this];rfl
theorem qo{P:AM}{w:Ai}{tr:U T3}(h:RT tr us):Kk w (tr.map (·.1)) (DS tr) (us.map (entryOfKey (BN (ZB P w)))):=by
 induction h with|nil=>exact#[rfl,rfl]|@cons t _ r _ h _ a=>
  refine#[t.2.1,t.2.2,DS r,_,_,rfl,rfl,?_,h.2.2,?_,?_,a]
  ·rw[h.2.1];rfl
  ·dsimp only;rw[h.1];rfl
  ·dsimp only;rw[h.1];exact#[_,h.2.1]
theorem RT.val{tr:U T3}(h:RT tr us)(l:U At):Cy (Cp tr (.tup l)) ((atKey us l).map (·.2)):=by
 induction h with|nil=>exact G3|@cons t u _ _ h _ a=>
  unfold Cp atKey;rw[h.1,List.find?_cons];by_cases e:u.1=l
  ·rw[if_pos (by rw[e])];erw[e,decide_true];exact h.2.2
  ·rw[if_neg<|λz=>e<|KT.tup.inj z];erw[e,decide_false];exact a
theorem RT.rep{l:U At}{v:V}(c:RelV v u){tr:U T3}(h:RT tr us):RT (HC tr (.tup l) v) (us.map (putAt l u)):=by
 induction h with|nil=>exact .nil|@cons t w _ _ h _ d=>
  refine .cons ?_ d;obtain⟨a,b,f⟩:=h;unfold putAt;by_cases e:w.1=l
  ·rw[if_pos e,if_pos<|a.trans<|congrArg _ e];exact⟨a,b,c⟩
  ·rw[if_neg e,if_neg λz=>e<|KT.tup.inj<|a.symm.trans z];exact⟨a,b,f⟩
theorem RT.put{tr:U T3}{l:U At}{p:Ac}{v:V}(h:RT tr us)(a:RelV v u):RT (Ej tr (.tup l) (.ref p) v) (storedH us l p u):=by
 unfold Ej storedH;have b:=(h.val l).isS;rw[Option.isSome_map]at b;rw[b];by_cases e:(atKey us l).isSome=J'
 ·rw[if_pos e,if_pos e];exact h.rep a
 ·rw[if_neg e,if_neg e];exact Paired.snoc' #[rfl,rfl,a] h
theorem RT.fst{tr:U T3}(h:RT tr us):tr.map (·.1)=(us.map (·.1)).map KT.tup:=by
 induction h with
 |nil=>rfl
 |cons h _ a=>rw[AS,AS,AS,h.1,a]
theorem aw{c d:Type}{f:c->d}(e:∀a b,f a=f b->a=b):∀{l:U c},(l.map f).Nodup->l.Nodup
 |[],_=>List.nodup_nil
 |a::l,h=>by
  grind
def By(K:Ao)(H:Hp):KT->V->Prop
 |.at a,v=>v=E3 a
 |.tup l,v=>∃p,v=.ref p/\B3 K H p (l.map E3)
theorem ax{P:AM}{w:Ai}:∀{a:U At}{us:U Aa},An (a.map E3) us->ItemsAre (ZB P w) a us
 |[],_,r=>by rw[C1]at r;cases r;exact .nil
 |k::a,_,r=>by
  cases r with
  |cons h t=>exact .cons (HF h)<|ax t
def He:KT->U T3->Prop
 |.at _,tr=>∀t∈tr,∃a,t.1=KT.at a
 |.tup _,tr=>∀t∈tr,∃l,t.1=KT.tup l
def Cf(K:Ao)(H:Hp)(a:Ac)(tr:U T3):Prop:=Rd H a (.dct (tr.map (·.1)) (DS tr))/\∀t∈tr,By K H t.1 t.2.1
section
variable{s:Ab}{p:Ac}{y v:V}{r:Aa}{o:O V}{A:Ag}{tr:U T3}{k:KT}
theorem IF{l:U At}(e:Inv X pins I H s)(h:B3 X.K H p (l.map E3)):(BN (ZB X.prog X.w)).is s.heap l p:=by
 obtain⟨a,r,⟨o,b,c,n,d⟩,_⟩:=e.tuple h;exact#[o,a.toArray,n,b,c,d,by simpa using ax r]
theorem Nl(q:Inv X pins I H s)(h:Cf X.K H a tr)(c:∀t∈tr,∃a,t.1=KT.at a):tr.length<=Ax/\(a==GS)=O'/\(tr.map (·.1)).Nodup/\∃us,RA tr us/\s.heap.DictOf (ZB X.prog X.w) a us:=by
 obtain⟨z,d,nd,o,f,g,i,j,k,l⟩:=h.1.ok q.hok;obtain⟨us,b,m,n⟩:=ar (P:=X.prog) l c;refine#[by simpa using z,d,nd,us,b,o,f,g,i,j,k,λe p=>n e (by simpa using p),m,?_];rw[b.fst]at nd;exact aw (λ_ _ z=>KT.at.inj z) nd
theorem KN(M:Inv X pins I H s)(h:Cf X.K H a tr)(j:∀t∈tr,∃l,t.1=KT.tup l):tr.length<=Ax/\(a==GS)=O'/\(tr.map (·.1)).Nodup/\∃us,RT tr us/\s.heap.DictOfH (BN (ZB X.prog X.w)) a us:=by
 obtain⟨z,k,nd,o,n,d,r,v,y,A⟩:=h.1.ok M.hok;obtain⟨us,f,B⟩:=au (P:=X.prog) A j;have c:=nd;rw[f.fst]at c;refine#[by simpa using z,k,nd,us,f,o,n,d,r,v,y,B,λx b=>?_,aw (λ_ _ z=>KT.tup.inj z) c];have all:∀{l:U T3} {m:U (U At×Ac×Aa)},RT l m->(∀t∈l,By X.K H t.1 t.2.1)->∀x∈m,(BN<|ZB X.prog X.w).is s.heap x.1 x.2.1:=by
  intro l m q;induction q with|nil=>intro _ x b;exact nomatch b|@cons t u F us g L C=>
   intro i x b;rcases Bo.mp b with e|b
   ·subst e;have:=i t Ba;rw[g.1,g.2.1]at this;obtain⟨p,d,E⟩:=this;cases d;exact IF M E
   ·exact C (λt G=>i t<|Be _ G) x b
 exact all f h.2 x b
theorem Cy.to:∀{v:V}{o:O Aa},Cy (Z v) o->∃w,o=Z w/\RelV v w
 |_,Z w,h=>#[w,rfl,h]
 |_,J,h=>h.elim
theorem qp{Q:AL}(r:A.units+1<Aq)(B:Inv X pins I H s)(h:Cf X.K H a tr)(j:He k tr)(m:By X.K H k y)(n:RelV y u)(o:Cp tr k=Z v)(q:∀d s',Inv X pins I H s'->RelV v d->Q d s'):wpAny (Af X.prog X.w) A (getItem (.ref a) u) Q E s:=by
 cases k with
 | «at» b=>
  cases m;obtain⟨z,hd,nd,t,rel,f⟩:=Nl B h j;have e:=rel.val b;rw[o]at e;obtain⟨d,g,c⟩:=e.to;exact wpAny_getItem_of (HF n) f.mapOf g<|q d _ (B.tok _) c
 |tup l=>
  obtain⟨p,rfl,C⟩:=m;cases(show u=Cj p from n);obtain⟨z,hd,nd,t,rel,f⟩:=KN B h j;have e:=rel.val l;rw[o]at e;obtain⟨d,g,c⟩:=e.to;obtain⟨x,G,i⟩:=B0.mp g;refine wpAny_getItem_heap (KO r) (IF B C) f G ?_;rw[i];exact q d _ (B.tok _) c
theorem ay(c:Bool){Q:AL}(g:A.units+1<Aq)(f:Inv X pins I H s)(h:Cf X.K H a tr)(i:He k tr)(j:By X.K H k y)(e:RelV y u)(q:∀s',Inv X pins I H s'->Q (.bool (bif c then !(Cp tr k).isSome else(Cp tr k).isSome)) s'):wpAny (Af X.prog X.w) A (DC (bif c then .NotIn else .In) u (.ref a)) Q E s:=by
 cases k with
 | «at» b=>
  cases j;obtain⟨z,hd,nd,n,rel,d⟩:=Nl f h i;rw[(rel.val b).isS]at q;cases c
  ·exact wpAny_in_of (HF e) hd d.mapOf<|q _<|f.tok _
  ·exact wpAny_notIn_of (HF e) hd d.mapOf<|q _<|f.tok _
 |tup l=>
  obtain⟨p,o,m⟩:=j;subst o;cases(show u=Cj p from e);obtain⟨z,hd,nd,n,rel,d⟩:=KN f h i;rw[(rel.val l).isS,Option.isSome_map]at q;cases c
  ·exact wpAny_in_heap (KO g) (IF f m) hd d<|q _<|f.tok _
  ·exact wpAny_notIn_heap (KO g) (IF f m) hd d<|q _<|f.tok _
theorem KP{ob:HO}(e:Inv X pins I H s)(c:MB (H a))(d:DP a s.heap h')(f:∃q,h'.get? a=Z q)(new:AY X.prog X.w (AG H a ob) h' a ob):Inv X pins I (AG H a ob) {s with heap:=h',toks:=t' }:=e.write c (.inl rfl) (λb q g z=>(d.2 b g).trans z) f new
def Dq(tr:U T3):HO:=.dct (tr.map (·.1)) (DS tr)
theorem SN{P:AM}{w:Ai}{us:U (At×Aa)}(z:tr.length<=Ax)(hd:(a==GS)=O')(nd:(tr.map (·.1)).Nodup)(rel:RA tr us)(dd:h'.DictOf (ZB P w) a us):AY P w H' h' a (Dq tr):=by
 obtain⟨o,b,c,d,f,g,h,i,k⟩:=dd;exact#[by simpa using z,hd,nd,o,b,c,d,f,g,qk rel i λe j=>h e (by simpa using j)]
theorem Pr{P:AM}{w:Ai}(z:tr.length<=Ax)(hd:(a==GS)=O')(nd:(tr.map (·.1)).Nodup)(rel:RT tr us)(dd:h'.DictOfH (BN (ZB P w)) a us):AY P w H' h' a (Dq tr):=by
 obtain⟨o,b,c,d,e,f,g,h,i⟩:=dd;refine#[by simpa using z,hd,nd,o,b,c,d,e,f,?_];rw[g];exact qo rel
theorem az(b:Bool)(j:A.units+1<Aq)(F:Inv X pins I H s)(e:H a=Z (Dq tr))(i:∀t∈tr,By X.K H t.1 t.2.1)(L:He k tr)(M:By X.K H k y)(B:RelV y u)(x:RelV v r)(T:tr.length<Ax) (q:∀h' t',Inv X pins I (AG H a (Dq (Ej tr k y v))) {s with heap:=h',toks:=t' }->DP a s.heap h'->Q () {s with heap:=h',toks:=t' }):wpAny (Af X.prog X.w) (bif b then A.in1 else A) (bif b then dictSet a u r else setItem (.ref a) u r) Q E s:=by
 have h:Cf X.K H a tr:=#[.inl e,i];have g:(Ej tr k y v).length<=Ax:=by have:=aq tr k y v;lia
 cases k with
 | «at» c=>
  cases M;obtain⟨z,hd,nd,C,rel,n⟩:=Nl F h L;have o:C.length<=Ax:=by rw[<- GQ rel];exact z
  cases b
  ·exact wpAny_setItem_pairs (HF B) n λh' d f=>q _ _ (KP F (by rw[e];exact G3) f (let⟨q,_,_,m,_⟩:=d;#[q,m]) (SN g hd (L8 nd) (rel.put x) d)) f
  ·exact wpAny_dictSet_pairs (HF B) n λh' d f=>q _ _ (KP F (by rw[e];exact G3) f (let⟨q,_,_,m,_⟩:=d;#[q,m]) (SN g hd (L8 nd) (rel.put x) d)) f
 |tup l=>
  obtain⟨p,rfl,N⟩:=M;cases(show u=Cj p from B);obtain⟨z,hd,nd,C,rel,n⟩:=KN F h L;have o:C.length<=Ax:=by rw[<- GQ rel];exact z
  cases b
  ·exact wpAny_setItem_heap (KO j) (IF F N) n λh' d f=>q _ _ (KP F (by rw[e];exact G3) f (let⟨q,_,_,m,_⟩:=d;#[q,m]) (Pr g hd (L8 nd) (rel.put x) d)) f
  ·exact wpAny_dictSet_heap (KO j) (IF F N) n λh' d f=>q _ _ (KP F (by rw[e];exact G3) f (let⟨q,_,_,m,_⟩:=d;#[q,m]) (Pr g hd (L8 nd) (rel.put x) d)) f
end
end L2
namespace PySem
section
variable{prog:AM}{w:Ai}{K:Type}[DecidableEq K]{knd:HeapKind prog w K}{A:Ag}{s:Ab}
theorem qq{d:Ac}{xs:U (K×Ac×Aa)}{k:K}{v:Aa}{Q:AL}(l:knd.room A)(b:knd.is s.heap k a)(r:s.heap.DictOfH knd d xs)(hsz:xs.length<=Ax)
  (t:∀p,atKey xs k=Z p->Q p.2 {s with toks:=s.toks+knd.draws k})
  (u:atKey xs k=J->∀h',h'.DictOfH knd d (storedH xs k a v)->DP d s.heap h'->Q v {s with heap:=h',toks:=s.toks+knd.draws k}):
  wpAny (Af prog w) A (dictSetDefault d (.ref a) v) Q E s:=by
 obtain⟨o,B,y,f,z,hd,i,h,m⟩:=r
 unfold dictSetDefault
 try with_reducible refine FC ?_
 refine Al (knd.pyHash l b ?_)
 refine Al (wpAny_dictFind_heap l b f hd i h m ?_ ?_)
 ·intro c
  have n:=not_mem_keys_of_get c
  refine Al (Ju (Al (wpAny_updateDictKeys (hz:=by have e:=size_of_entries i;lia) (s:={s with toks:=s.toks+knd.draws k}) f hd (AN (u (Ps c) _ #[_,_,y+1,LK _ f (Obj.isFreed_of_dict (SO hd _)),
   z.mapDictKeys _,SO hd _,?_,?_,?_] (JU ..))))))
  ·rw[storedH_new (Ps c)]
   simp[i,entryOfKey]
  ·rw[storedH_new (Ps c)]
   intro x g
   rcases Dw.mp g with g|g
   ·exact knd.keeps (h x g) f hd (JU ..)
   ·erw[EO]at g
    subst g
    exact knd.keeps b f hd (JU ..)
  ·rw[storedH_new (Ps c)]
   grind [HD,HE,AS,C1,EO]
 ·intro j p q
  refine Al (Nm (s:={s with toks:=s.toks+knd.draws k}) f hd ?_)
  rw[entry_at i j,q]
  exact Al (Ju (AN (t p (atKey_of_get m q))))
theorem qr{k:K}(d:Ac)(hd:(d==GS)=O')(dflt:Aa):MeetsIn prog w (Fk.«dict.setdefault» #[[.ref d,.ref a,dflt],[]]) (λA R s=>knd.room A.in1/\∃xs,knd.is s.heap k a/\s.heap.DictOfH knd d xs/\xs.length<=Ax/\(∀p,atKey xs k=Z p->R (.ok (.ret p.2)) {s with toks:=s.toks+knd.draws k})/\(atKey xs k=J->∀h',h'.DictOfH knd d (storedH xs k a dflt)->DP d s.heap h'->R (.ok (.ret dflt)) {s with heap:=h',toks:=s.toks+knd.draws k})):=.of_wp λA R s g=>by
  obtain⟨h,xs,b,f,i,j,l⟩:=g;refine Al ?_;refine Al<|SQ f.typeIs ?_;refine AN ?_;show wpAny _ _ (if(d==GS)=J' then _ else(dictSetDefault d (.ref a) dflt >>= _)) _ _ s
  rw[if_neg (by rw[hd];exact MA)];exact Al<|qq h b f i (λp m=>AN #[p.2,rfl,j p m]) λn h' c e=>AN #[dflt,rfl,l n h' c e]
end
end PySem
namespace L2
open PySem PySem.Spec PyProof.Rows
def aA(K:Ao):R2:=λx y H Q=>∃a tr k v,x=.ref a/\Cf K H a tr/\He k tr/\By K H k y/\Cp tr k=Z v/\Q v H
def SR(K:Ao)(neg:Bool):R2:=λx y H Q=>∃a tr k,y=.ref a/\Cf K H a tr/\He k tr/\By K H k x/\Q (.bl (neg != (Cp tr k).isSome)) H
def qt(K:Ao):OH:=λo i v H Q=>∃a tr k,o=.ref a/\H a=Z (Dq tr)/\(∀t∈tr,By K H t.1 t.2.1)/\He k tr/\By K H k i/\tr.length<Ax/\Q (AG H a (Dq (Ej tr k i v)))
def qu(K:Ao):V->U V->Hp->VK->Prop:=λx b H Q=>∃a tr k y z,x=.ref a/\b=[y,z]/\H a=Z (Dq tr)/\(∀t∈tr,By K H t.1 t.2.1)/\He k tr/\By K H k y/\tr.length<Ax /\
 (∀v,Cp tr k=Z v->Q v H)/\(Cp tr k=J->Q z (AG H a (Dq (Ej tr k y z))))
theorem Cf.typeIs{b:AQ}{s:Ab}{tr:U T3}(d:Inv X b I H s)(h:Cf X.K H a tr):s.TypeIs (.ref a) "dict":=by
 obtain⟨_,_,_,o,_,_,e,c,_⟩:=h.1.ok d.hok;exact#[o,e,c.1]
section
theorem qv(t:X.A.units+64<Aq):G5 X (aA X.K):=by
 intro b slice c s f H x y v u Q E g i h j;obtain⟨a,tr,k,z,rfl,hd,l,m,n,q⟩:=h;cases g;have o:=hd.typeIs E;refine Al ?_;refine Al<|wpAny_specialOf o PySem.F.slot_dict_getitem.lookup ?_;have fin:wpAny (Af X.prog X.w) X.A (subscripted slice O' (.ref a) u) (λr d=>wpAny (Af X.prog X.w) X.A (letTemporaryGo b (.ref a) r >>= λ_=>AA r) (EP X c f Q) X.xe d) X.xe s:=by
  rw[j];exact wpAny_operating<|qp (by lia) E hd l m i n λB C p e=>Al<|wpAny_letTemporaryGo<|AN ⟨z,H,p,e,q⟩
 exact AN<|Al fin
theorem aB(i:X.A.units+64<Aq):Ca X (DC .In) (SR X.K O'):=by
 intro b s j H x y v u Q m c d h;obtain⟨a,tr,k,rfl,hd,e,f,q⟩:=h;cases d;exact ay O' (by lia) m hd e f c λl g=>#[.bl (Cp tr k).isSome,H,g,rfl,by simpa using q]
theorem qw(i:X.A.units+64<Aq):Ca X (DC .NotIn) (SR X.K J'):=by
 intro b s j H x y v u Q m c d h;obtain⟨a,tr,k,rfl,hd,e,f,q⟩:=h;cases d;exact ay J' (by lia) m hd e f c λl g=>#[.bl<|!(Cp tr k).isSome,H,g,rfl,by simpa using q]
theorem aC(p:X.A.units+64<Aq):RJ X (qt X.K):=by
 intro c s r H o i v t w u Q z d f g h;obtain⟨a,tr,k,rfl,e,b,j,l,m,q⟩:=h;cases d;exact az O' (by lia) z e b j l f g m λx y n _=>#[_,n,q]
theorem aE(hu:X.A.units+64<Aq):Ks X "dict.setdefault" (qu X.K):=by
 intro M s I H x xs v i Q W rx rs h;obtain⟨a,tr,k,y,z,rfl,rfl,e,r,N,R,hl,T,S⟩:=h;cases rx;obtain⟨u1,Y,rfl,ry,o⟩:=rs.two;have hd:Cf X.K H a tr:=#[.inl e,r];have j:(Ej tr k y z).length<=Ax:=by have:=aq tr k y z;exact BZ this hl
 cases k with
 | «at» b=>
  cases R;obtain⟨t,m,nd,i,rel,n⟩:=Nl W hd N
  have u:i.length<=Ax:=by rw[<- GQ rel];exact t
  have c:=rel.val b
  refine call_meetsIn SS n.typeIs PySem.F.entry_dict_setdefault (PySem.F.args_dict_setdefault_3 _ _ _) (kt_meets_setdefault (ZB X.prog X.w) a (HF ry) m Y)
   #[i,n,u,λv' B=>?_,λC E f g=>?_]
  ·rw[B]at c
   cases d:Cp tr (.at b)with
   |none=>rw[d]at c;exact c.elim
   |some w=>rw[d]at c;exact#[w,H,W.tok _,c,T w d]
  ·rw[C]at c
   cases d:Cp tr (.at b)with
   |some w=>rw[d]at c;exact c.elim
   |none=>
    have G:∃q,E.get? a=Z q:=let⟨q,_,_,P,_⟩:=f;#[q,P]
    exact#[z,_,KP W (by rw[e];exact G3) g G (SN j m (L8 nd) (rel.put o) f),o,S d]
 |tup l=>
  obtain⟨p,ep,sq⟩:=R
  subst ep
  cases(show u1=Cj p from ry)
  obtain⟨t,m,nd,i,rel,n⟩:=KN W hd N
  have u:i.length<=Ax:=by rw[<- GQ rel];exact t
  have c:=rel.val l
  refine call_meetsIn SS n.typeIs PySem.F.entry_dict_setdefault (PySem.F.args_dict_setdefault_3 _ _ _) (qr (knd:=BN (ZB X.prog X.w)) (k:=l) a m Y)
   #[KO (by lia),i,IF W sq,n,u,λp' L=>?_,λC E f g=>?_]
  ·rw[L]at c
   cases d:Cp tr (.tup l)with
   |none=>rw[d]at c;exact c.elim
   |some w=>rw[d]at c;exact#[w,H,W.tok _,c,T w d]
  ·rw[C]at c
   cases d:Cp tr (.tup l)with
   |some w=>rw[d]at c;exact c.elim
   |none=>
    have G:∃q,E.get? a=Z q:=let⟨q,_,_,P,_⟩:=f;#[q,P]
    exact#[z,_,KP W (by rw[e];exact G3) g G (Pr j m (L8 nd) (rel.put o) f),o,S d]
theorem Inv.big(b:Inv X pins I H s):GS<s.heap.objs.size:=by
 have h:BU<s.heap.objs.size:=(b.mod.glob.keeps b.bk).lt;exact Ix (by ext) h
theorem IG:PE X (.Dict [] [] pos) (λ_ H Q=>∀p,H p=J->Q (.ref p) (AG H p (Dq []))):=λb s c H Q d h=>wpAny_Dict_empty #[.ref s.heap.objs.size,_,d.laid (a:=s.heap.objs.size) (o:=Dq []) (t':=s.toks) (λ_ _ q=>Br _ q) (Bf _) #[FD _,beq_eq_false_iff_ne.mpr<|B2<|B9 d.big,List.nodup_nil,_,(T' []),0,Cc _ rfl,⟨rfl,rfl,rfl⟩,rfl,rfl,rfl],rfl,h _<|d.hok.fresh<|Bf _]
end
noncomputable def Nn:D->O At
 |.non=>Z .non
 |.int i=>Z (.int i)
 |.str x=>Z (.str x)
 |_=>J
noncomputable def L9:U D->O (U At)
 |[]=>Z []
 |d::r=>(Nn d).bind λa=>(L9 r).map (a::·)
def Dh:D->O KT
 |.tup l=>(L9 l).map KT.tup
 |d=>(Nn d).map KT.at
noncomputable def aD:At->D
 |.non=>.non
 |.int i=>.int i
 |.str x=>.str x
def kD:KT->D
 |.at a=>aD a
 |.tup l=>.tup (l.map aD)
theorem aF{d:D}{a:At}(h:Nn d=Z a):d=aD a:=by
 unfold Nn at h;split at h<;>cases h<;>rfl
theorem aG:∀{l:U D}{b:U At},L9 l=Z b->l=b.map aD
 |[],_,h=>by cases h;rfl
 |d::r,b,h=>by
  obtain⟨a,c,h⟩:=B4.mp h;obtain⟨bs,e,h⟩:=B0.mp h;cases h;rw[AS,<- aF c,<- aG e]
set_option tactic.hygienic true in
theorem HG{d:D}{k:KT}(h:Dh d=Z k):d=kD k:=by
 unfold Dh at h;split at h
 ·next l=>
  obtain⟨c,b,h⟩:=B0.mp h;cases h;rw[aG b];rfl
 ·obtain⟨a,b,h⟩:=B0.mp h;cases h;rw[aF b];rfl
theorem qy(a:At):Nn (aD a)=Z a:=by cases a<;>rfl
theorem aH:∀(l:U At),L9 (l.map aD)=Z l
 |[]=>rfl
 |a::l=>by rw[AS];unfold L9;rw[qy,aH l];rfl
@[simp] theorem No(k:KT):Dh (kD k)=Z k:=by
  cases k with
  | «at» a=>cases a<;>rfl
  |tup l=>show(L9<|l.map aD).map KT.tup=_;rw[aH];rfl
@[simp] theorem ZEL:Dh .non=Z (.at .non):=rfl
@[simp] theorem ZEQ(i:Int):Dh (.int i)=Z (.at (.int i)):=rfl
@[simp] theorem ZEN(x:Ae):Dh (.str x)=Z (.at (.str x)):=rfl
theorem qA(a:At):Sk (aD a)=a:=by cases a<;>rfl
theorem qB(k:KT):MW (kD k)=k:=by
 cases k with
 | «at» a=>cases a<;>rfl
 |tup l=>
  unfold kD MW;induction l<;>grind [qA]
abbrev Bw:=U (KT×D)
variable{kvs:Bw}
noncomputable def Zb:Bw->U D
 |[]=>[]
 |p::r=>kD p.1::p.2::Zb r
noncomputable def Ek:U D->O Bw
 |[]=>Z []
 |k::v::r=>(Dh k).bind λa=>(Ek r).map ((a,v)::·)
 |_=>J
@[simp] theorem Fs:∀kvs:Bw,Ek (Zb kvs)=Z kvs
  |[]=>rfl
  |p::r=>by unfold Zb Ek;rw[No,Fs r];rfl
@[simp] theorem ZEP:Ek []=Z []:=rfl
theorem Gi:∀{xs:U D}{kvs:Bw},Ek xs=Z kvs->xs=Zb kvs
 |[],_,h=>by cases h;rfl
 |[_],_,h=>by cases h
 |k::v::r,kvs,h=>by
  obtain⟨c,a,h⟩:=B4.mp h;obtain⟨q,b,h⟩:=B0.mp h;cases h;unfold Zb;rw[<- HG a,<- Gi b]
theorem SU:∀kvs:Bw,JD (Zb kvs)=kvs.map (·.1)
 |[]=>rfl
 |p::r=>by unfold Zb JD;rw[qB,SU r];rfl
noncomputable def Zx:Bw->KT->O D
 |[],_=>J
 |t::r,k=>if t.1=k then Z t.2 else Zx r k
noncomputable def Ft:Bw->KT->D->Bw
 |[],_,_=>[]
 |t::r,k,v=>(if t.1=k then(t.1,v)else t)::Ft r k v
def ZY(kvs:Bw)(k:KT)(v:D):Bw:=if(Zx kvs k).isSome=J' then Ft kvs k v else kvs++[(k,v)]
def D6:KT->Bool
 |.at _=>J'
 |_=>O'
def Di(k:KT)(kvs:Bw):Bool:=kvs.all λp=>D6 p.1==D6 k
section
variable{K:Ao}{N:Fb}
abbrev PD(K:Ao)(N:Fb)(H:Hp):Bw->U T3->Prop:=Paired λp t=>p.1=t.1/\As K N H (kD p.1) t.2.1/\As K N H p.2 t.2.2
theorem aI{a:At}{v:V}(h:As K N H (aD a) v):v=E3 a:=by cases a<;>simpa only[aD,As,E3]using h
theorem aJ:∀{l:U At}{vs:U V},Ad K N H (l.map aD) vs->vs=l.map E3
 |[],_,h=>by simpa only[C1,Ad]using h
 |a::l,vs,h=>by
  obtain⟨v,r,e,b,c⟩:=h;rw[e,aI b,aJ c];rfl
theorem HH{k:KT}{v:V}(h:As K N H (kD k) v):By K H k v:=by
 cases k with| «at» a=>exact aI h|tup l=>
  obtain⟨p,d,e,b,c⟩:=h;rw[aJ c]at b;exact#[p,e,b]
theorem HI{k:KT}{v:V}(h:Aw K N H (kD k) v):As K N H (kD k) v:=by
 cases k with
 | «at» a=>cases a<;>exact h
 |tup l=>exact h
theorem KQ:∀{kvs:Bw}{vs:U V},Ad K N H (Zb kvs) vs->∃tr,vs=DS tr/\PD K N H kvs tr
 |[],vs,h=>#[[],by simpa only[Zb,Ad,DS]using h,.nil]
 |p::r,vs,h=>by
  obtain⟨v,t,e,a,b,i,c,d,f⟩:=h;obtain⟨tr,g,q⟩:=KQ f;exact#[(p.1,v,b)::tr,by rw[e,c,g];rfl,.cons #[rfl,a,d] q]
theorem PD.flat{tr:U T3}(h:PD K N H kvs tr):Ad K N H (Zb kvs) (DS tr):=by
 induction h with
 |nil=>exact Ad.nil
 |cons h _ a=>exact Ad.cons h.2.1<|Ad.cons h.2.2 a
theorem PD.fst{tr:U T3}(h:PD K N H kvs tr):kvs.map (·.1)=tr.map (·.1):=by
 induction h with
 |nil=>rfl
 |cons h _ a=>rw[AS,AS,h.1,a]
theorem PD.keys{tr:U T3}(h:PD K N H kvs tr):∀t∈tr,By K H t.1 t.2.1:=by
 induction h with|nil=>exact λ_ h=>nomatch h|cons h _ b=>
  intro x a;rcases Bo.mp a with rfl|a
  ·rw[<- h.1];exact HH h.2.1
  ·exact b x a
def KR(K:Ao)(N:Fb)(H:Hp):O D->O V->Prop
 |some d,Z v=>As K N H d v
 |none,J=>True
 |_,_=>False
theorem PD.val{tr:U T3}(h:PD K N H kvs tr)(k:KT):KR K N H (Zx kvs k) (Cp tr k):=by
 induction h with|nil=>exact G3|cons h _ a=>
  unfold Zx Cp;rw[h.1];split
  ·exact h.2.2
  ·exact a
theorem KR.isS:∀{o:O D}{u:O V},KR K N H o u->o.isSome=u.isSome
 |some _,Z _,_=>rfl
 |none,J,_=>rfl
 |some _,J,h=>h.elim
 |none,Z _,h=>h.elim
theorem PD.rep{k:KT}{d:D}{v:V}(hd:As K N H d v){tr:U T3}(h:PD K N H kvs tr):PD K N H (Ft kvs k d) (HC tr k v):=by
 induction h with|nil=>exact .nil|cons h _ a=>
  unfold Ft HC;rw[h.1];refine .cons ?_ a;split
  ·exact#[rfl,h.1 ▸ h.2.1,hd]
  ·exact h
theorem PD.put{tr:U T3}{k:KT}{d:D}{kv v:V}(h:PD K N H kvs tr)(a:As K N H (kD k) kv)(hd:As K N H d v):PD K N H (ZY kvs k d) (Ej tr k kv v):=by
 unfold ZY Ej;rw[(h.val k).isS];split
 ·exact h.rep hd
 ·exact Paired.snoc' #[rfl,a,hd] h
theorem PD.hom{k:KT}:∀{kvs:Bw}{tr:U T3},PD K N H kvs tr->Di k kvs=J'->He k tr
 |_,_,.nil,_=>by cases k<;>exact λ_ h=>nomatch h
 |p::kvs,t::tr,.cons ⟨g,_,_⟩ r,e=>by
  erw[Di,LY,CM]at e;have f:=PD.hom (k:=k) r e.2;have d:=e.1;rw[g]at d;cases k with
  | «at» a=>
   intro x c;rcases Bo.mp c with rfl|c
   ·cases c:x.1 with
    | «at» b=>exact#[b,rfl]
    |tup l=>rw[c]at d;cases d
   ·exact f x c
  |tup l=>
   intro x c;rcases Bo.mp c with rfl|c
   ·cases c:x.1 with
    | «at» b=>rw[c]at d;cases d
    |tup l=>exact#[l,rfl]
   ·exact f x c
theorem IH(h:Rd H a (.dct (JD (Zb kvs)) vs))(hd:Ad K N H (Zb kvs) vs):∃tr,Cf K H a tr/\PD K N H kvs tr:=by
 obtain⟨tr,e,p⟩:=KQ hd;subst e;rw[SU,p.fst]at h;exact#[tr,#[h,p.keys],p]
theorem HJ{tr:U T3}(p:PD K N H kvs tr):CO K .d a (Zb kvs) (DS tr)=Dq tr:=by
 unfold CO Dq;rw[SU,p.fst]
end
def DH:D->D->O D
 |.lst b .d,y=>(Ek b).bind λa=>(Dh y).bind λk=>if Di k a then Zx a k else J
 |_,_=>J
@[simp] theorem aK(kvs:Bw)(y:D):DH (.lst (Zb kvs) .d) y=(Dh y).bind λk=>if Di k kvs then Zx kvs k else J:=by simp[DH]
@[simp] theorem ZDL(y:D):DH (.lst [] .d) y=(Dh y).bind λk=>J:=by simp[DH,Zx]
def Dr(neg:Bool):D->D->O D
 |y,.lst b .d=>(Ek b).bind λa=>(Dh y).bind λk=>if Di k a then Z (.bl (neg != (Zx a k).isSome))else J
 |_,_=>J
@[simp] theorem Np(neg:Bool)(kvs:Bw)(y:D):Dr neg y (.lst (Zb kvs) .d)=(Dh y).bind λk=>if Di k kvs then Z (.bl (neg != (Zx kvs k).isSome))else J:=by simp[Dr]
@[simp] theorem ZEn(neg:Bool)(y:D):Dr neg y (.lst [] .d)=(Dh y).bind λk=>Z (.bl neg):=by simp[Dr,Zx,Di]
section
variable{K:Ao}{M:Fb}{e a b:Expr}{f g:AB}
set_option tactic.hygienic true in
theorem qC:Eh K (aA K) DH:=by
 intro N H x y s i d Q t f g e q;unfold DH at e;split at e
 ·next u=>
  obtain⟨j,l,e⟩:=B4.mp e;cases b:Dh i with|none=>rw[b]at e;cases e|some k=>
   rw[b]at e;obtain⟨m,e⟩:=ZV e;rw[Gi l]at f;obtain⟨p,v,n,r,hd⟩:=f;obtain⟨tr,o,h⟩:=IH r hd;rw[HG b]at g;have a:=h.val k;rw[e]at a;cases c:Cp tr k with
   |none=>rw[c]at a;exact a.elim
   |some w=>rw[c]at a;exact#[p,tr,k,w,n,o,h.hom m,HH<|HI g,c,q w H (Ah.refl H) a]
 ·cases e
set_option tactic.hygienic true in
theorem SV{neg:Bool}:Eh K (SR K neg) (Dr neg):=by
 intro N H x y g n d Q o b c e q;unfold Dr at e;split at e
 ·next s=>
  obtain⟨h,i,e⟩:=B4.mp e;cases a:Dh g with|none=>rw[a]at e;cases e|some k=>
   rw[a]at e;obtain⟨j,e⟩:=ZV e;cases e;rw[Gi i]at c;obtain⟨p,t,l,r,hd⟩:=c;obtain⟨tr,m,f⟩:=IH r hd;rw[HG a]at b;refine#[p,tr,k,l,m,f.hom j,HH<|HI b,?_];rw[<- (f.val k).isS];exact q _ H (Ah.refl H) G9
 ·cases e
theorem qD(e:X.A.units+64<Aq)(c:JE X a (tP X.K M H0 f))(d:JE X b (tP X.K M H0 g))(i:MR b):JE X (.Subscript a b pos) (tD X.K M H0 (Za DH f g)):=#[have c:=c.h;have d:=d.h;Ym (qv e) qC c d i]
theorem qE(e:X.A.units+64<Aq)(c:JE X a (tP X.K M H0 f))(d:JE X b (tP X.K M H0 g))(i:GV .In b=O':=by with_unfolding_all rfl):JE X (.Compare a [.In] [b] pos) (tD X.K M H0 (Za (Dr O') f g)):=#[have c:=c.h;have d:=d.h;MY (aB e) SV c d i]
theorem qF(e:X.A.units+64<Aq)(c:JE X a (tP X.K M H0 f))(d:JE X b (tP X.K M H0 g))(i:GV .In b=O':=by with_unfolding_all rfl):JT X (.Compare a [.In] [b] pos) (BQ X.K M H0 λρ=>AE (Za (Dr O') f g ρ)):=#[have c:=c.h;have d:=d.h;JH (aB e) SV c d i]
theorem qG(e:X.A.units+64<Aq)(c:JE X a (tP X.K M H0 f))(d:JE X b (tP X.K M H0 g))(i:GV .NotIn b=O':=by with_unfolding_all rfl):JT X (.Compare a [.NotIn] [b] pos) (BQ X.K M H0 λρ=>AE (Za (Dr J') f g ρ)):=#[have c:=c.h;have d:=d.h;JH (qw e) SV c d i]
theorem qH:JE X (.Dict [] [] pos) (Fm .d K M H0 λ_=>Z []):=#[IG.mono λf H Q a p b=>by
 obtain⟨g,c,R,e,q⟩:=a;cases e;exact LS (xs:=[]) (vs:=[]) (fl:=.d) (Ah.refl H) b Ad.nil q]
def II(i:Nat)(ok b:O D)(ρ:VE):DE:=match Hy ρ i,ok,b with
 |some c,Z y,Z d=>match Ek c,Dh y with
  |some a,Z k=>if Di k a&&decide (a.length<Ax)then .next (ρ.set i (.own (Zb (ZY a k d)) .d))else .fail
  |_,_=>.fail
 |_,_,_=>.fail
set_option tactic.hygienic true in
theorem qI{i:Nat}{x:Ae}{b c:AD}{j e:Expr}{fi f:AB}(T:X.A.units+64<Aq)(s:JE X j (tP X.K M H0 fi))(t:JE X e (tD X.K M H0 f))(S:NV X i x:=by exact EF) (p:∀v,assign (.Subscript (.Name x b) j c) X.env v=(do
   let r <- Ee [v] (Ap (.Name x b) X.env);let u <- Ee [v,r] (Ap j X.env);standAt c
   Ee [v,r,u] (setItem r u v)
   release [v,r,u] []):=by intro _;rfl) (Y:swapsWithSole [.Subscript (.Name x b) j c] e pos.line X.env=AA O':=by rfl) (m:swappedStores [.Subscript (.Name x b) j c] e X.env=AA J:=by rfl) (h1:(Gx [.Subscript (.Name x b) j c] X.env).map (·.2)=[assign (.Subscript (.Name x b) j c) X.env]:=by rfl):JS X (.Assign [.Subscript (.Name x b) j c] e pos) (tS X.K M H0 λρ=>II i (fi ρ) (f ρ) ρ):=#[have s:=s.h;have t:=t.h;(RL t (RK (Gy S) s (aC T) p) Y m h1).mono λD' I H z0=>by
 obtain⟨ρ,R,q⟩:=z0;try dsimp only at q
 unfold II at q;split at q
 ·next xs y d hr z hf=>
  split at q
  ·next B k C hk=>
   split at q
   ·next E=>
    rw[CM,decide_eq_true_eq]at E;refine#[ρ,d,R,hf,λv H1 W hv=>?_];have n:=Su hr;have G:=R.st W;have ex:=Gi C;subst ex;obtain⟨a,vs,e1,z1,z2,F,L⟩:=G.slot i _ n;have p:=Fp e1;refine#[.ref a,p,ρ,y,G,z,λw H2 l m=>?_];have R2:=G.st l;obtain⟨tr,dc,pd⟩:=IH (K:=X.K) (.inl<|l _ _ F) (L.same l);obtain⟨o,e',g⟩:=KQ<|L.same l;subst e';rw[HG hk]at m;have N:=g.put (k:=k) (HI m) (hv.same l);obtain⟨P,Q⟩:=R2.chg (fl2:=.d) (ys:=Zb<|ZY B k d) (ws:=DS<|Ej o k w v) n p N.flat;rw[HJ N]at P Q;refine⟨a,o,k,rfl,?_,g.keys,g.hom E.1,HH<|HI m,by rw[<- GQ g];exact E.2,q _ _ P<|(Step.of_same<|W.trans l).trans Q⟩;rw[<- HJ g];exact l _ _ F
   ·exact BM q
  ·exact BM q
 ·exact BM q]
end
theorem aL(k:KT)(v:D)(k':KT):∀kvs:Bw,Zx (Ft kvs k v) k'=if k=k' then(Zx kvs k').map (λ_=>v)else Zx kvs k'
 |[]=>by simp[Ft,Zx]
 |t::r=>by
  have a:=aL k v k' r;grind [Ft,Zx]
theorem aM(k:KT):∀(a b:Bw),Zx (a++b) k=match Zx a k with|some v=>Z v|none=>Zx b k
 |[],b=>by simp[Zx]
 |t::r,b=>by
  have c:=aM k r b;grind [Zx]
theorem SW(kvs:Bw)(k:KT)(v:D)(k':KT):Zx (ZY kvs k v) k'=if k=k' then Z v else Zx kvs k':=by
 unfold ZY;by_cases h:(Zx kvs k).isSome=J'
 ·rw[if_pos h,aL];by_cases e:k=k'
  ·subst e;cases a:Zx kvs k with
   |none=>rw[a]at h;cases h
   |some w=>rfl
  ·rw[if_neg e,if_neg e]
 ·grind [aM,Zx]
theorem aN{k:KT}{v:D}{p:KT×D}:∀{kvs:Bw},p∈Ft kvs k v->p∈kvs\/p=(k,v)
 |[],h=>nomatch h
 |t::r,h=>by
  rcases Bo.mp h with a|h
  ·grind [Ba]
  ·rcases aN h with h|h
   ·exact .inl<|Be _ h
   ·exact .inr h
theorem qJ{k:KT}{v:D}{p:KT×D}(h:p∈ZY kvs k v):p∈kvs\/p=(k,v):=by grind [ZY,aN]
theorem aO(k:KT)(v:D):∀kvs:Bw,(Ft kvs k v).length=kvs.length
 |[]=>rfl
 |t::r=>by simp[Ft,aO k v r]
theorem qK(kvs:Bw)(k:KT)(v:D):(ZY kvs k v).length<=kvs.length+1:=by
 unfold ZY;split
 ·rw[aO];exact Pp (Kq kvs) 1
 ·simp
theorem Pt(a:At)(h:∀p∈kvs,D6 p.1=J'):Di (.at a) kvs=J':=by
 unfold Di;rw[D4];intro p b;rw[h p b];rfl
theorem KS(l:U At)(h:∀p∈kvs,D6 p.1=O'):Di (.tup l) kvs=J':=by
 unfold Di;rw[D4];intro p a;rw[h p a];rfl
def tX(K:Ao)(M:Fb)(H0:Hp)(f:VE->O (D×VE)):TE:=λb H Q=>∃e d a,Bh K M H0 e b H/\f e=Z (d,a) /\
 ∀v c,Bh K M H0 a b c->Step M (Nf M e b) (Nf M a b) H c->As K (Nf M a b) c d v->Q v c
def aP(K:Ao)(M:Fb)(H0:Hp)(t:VE->O (Bool×VE)):TT:=λc H Q=>∃d b a,Bh K M H0 d c H/\t d=Z (b,a) /\
 ∀e,Bh K M H0 a c e->Step M (Nf M d c) (Nf M a c) H e->Q b e
def Nq(i:Nat)(c e:AB):VE->O (D×VE):=λb=>match Hy b i,c b,e b with
 |some f,Z y,Z d=>match Ek f,Dh y with
  |some a,Z k=>if Di k a&&decide (a.length<Ax)then
    (match Zx a k with
    |some v=>Z (v,b)
    |none=>Z (d,b.set i (.own (Zb (ZY a k d)) .d)))
   else J
  |_,_=>J
 |_,_,_=>J
section
variable{K:Ao}{M:Fb}{e a b ev:Expr}{f g fk fv:AB}
set_option tactic.hygienic true in
theorem aQ{i:Nat}{x:Ae}{c:AD}(hu:X.A.units+64<Aq)(z:JE X ek (tP X.K M H0 fk))(f:JE X ev (tD X.K M H0 fv))(hN:NV X i x:=by exact EF) (g:F6 (.Name x c) "setdefault" X.env (Ap (.Name x c) X.env)=Ap (.Name x c) X.env:=by rfl) (n:((Au cpos (AC [ek,ev] X.env)).all (λx=>!x.1)&&(F7 cpos (F8 [] X.env)).all (λx=>x.1.isSome) && decide ([ek,ev].length+([]:U D1).length+(if([]:U D1).isEmpty then 0 else 1)<30))=J':=by rfl) (j:(apos.endLine==cpos.line)=J':=by rfl) (o:AC [ek,ev] X.env=(O',Ap ek X.env)::AC [ev] X.env:=by exact ZR rfl) (p:AC [ev] X.env=(O',Ap ev X.env)::AC [] X.env:=by exact ZR rfl) (B:(Au cpos (AC [ev] X.env)).any (·.1)=O':=by rfl):JE X (.Call (.Attribute (.Name x c) "setdefault" apos) [ek,ev] [] cpos) (tX X.K M H0 (Nq i fk fv)):=#[have z:=z.h;have f:=f.h;(Hv SX SS PySem.F.type_dict_setdefault (aE hu) (Gy hN) (Z3 z (Z3 f A8 p) o) g n j o B).mono λI H Q z0=>by
  obtain⟨T,d,ρ',R,ex,q⟩:=z0;unfold Nq at ex;split at ex
  ·next xs y dv hr C E=>
   split at ex
   ·next l k G zA=>
    obtain⟨P,ex⟩:=ZV ex;rw[CM,decide_eq_true_eq]at P;have r:=Su hr;have L:=Gi G;subst L;obtain⟨a,vs,e1,z1,z2,W,z4⟩:=R.slot i _ r;have Y:=Fp e1;have tv:OW X.K "dict" (.ref a) H:=.inr<|.inr ⟨rfl,_,_,.inl W⟩;refine⟨.ref a,Y,tv,T,y,R,C,λw H1 s1 hw=>⟨T,dv,R.st s1,E,λv H2 s2 hv=>?_⟩⟩;have s:=s1.trans s2;have R2:=R.st s;obtain⟨tr,e',m⟩:=KQ<|z4.same s;subst e';rw[HG zA]at hw;have t:=HI<|hw.same s2;have b:=m.val k;refine#[a,tr,k,w,v,rfl,rfl,?_,m.keys,m.hom P.1,HH t,by rw[<- GQ m];exact P.2,λu N=>?_,λhn=>?_]
    ·rw[<- HJ m];exact s _ _ W
    ·rw[N]at b;cases e:Zx l k with|none=>rw[e]at b;exact b.elim|some d0=>
      rw[e]at b ex;cases ex;exact q u H2 R2 (Step.of_same s) b
    ·rw[hn]at b;cases e:Zx l k with|some d0=>rw[e]at b;exact b.elim|none=>
      rw[e]at ex;cases ex;have pp:=m.put (k:=k) t hv;obtain⟨R3,S⟩:=R2.chg (fl2:=.d) (ys:=Zb<|ZY l k d) (ws:=DS<|Ej tr k w v) r Y pp.flat;rw[HJ pp]at R3 S;exact q v _ R3 ((Step.of_same s).trans S)<|As.step S d v hv
   ·cases ex
  ·cases ex]
def Nr(fx:VE->O (D×VE))(g:AB):VE->O (Bool×VE):=λc=>match fx c with
 |some (d,a)=>match g a with
  |some y=>(AE (Ce d y)).map λb=>(b,a)
  |none=>J
 |none=>J
set_option tactic.hygienic true in
theorem qM(n:X.A.units+64<Aq)(f:JE X a (tX X.K M H0 fx))(i:JE X b (tP X.K M H0 g)):JT X (.Compare a [.NotEq] [b] pos) (aP X.K M H0 (Nr fx g)):=#[have f:=f.h;have i:=i.h;(Xs (YL n) f i<|GU _ (by ext) (by ext)).mono λo H Q r=>by
 obtain⟨s,l,c,R,ex,q⟩:=r;unfold Nr at ex;split at ex
 ·next d t x=>
  split at ex
  ·next y z=>
   obtain⟨b0,B,ex⟩:=B0.mp ex;cases ex;refine#[s,d,c,R,x,λv L j C E=>#[c,y,j,z,λu G e k=>?_]];exact YN (Nf M c o) G v u d y (.bl l) _ (j.st e).nh (E.p.same e) k (LQ B) λw N m F=>by
    exact#[l,F,q N ((j.st e).st m)<|C.trans<|Step.of_same<|e.trans m]
  ·cases ex
 ·cases ex]
def JV(c:O (Bool×VE))(b d:Ay):DE:=match c with
 |some (J',a)=>b a
 |some (O',a)=>d a
 |none=>.fail
theorem qO{c:Expr}{g i:U Az}{t:VE->O (Bool×VE)}{j l:Ay}(b:JT X c (aP K M H0 t))(d:JB X g (tS K M H0 j))(e:JB X i (tS K M H0 l)):JS X (.If c g i pos) (tS K M H0 λρ=>JV (t ρ) j l):=#[have b:=b.h;have d:=d.h;have e:=e.h;(OG b d e).mono λo r H n=>by
 obtain⟨ρ,R,q⟩:=n;try dsimp only at q
 cases f:t ρ with|none=>rw[f]at q;exact BM q|some p=>
  obtain⟨k,a⟩:=p;rw[f]at q;refine#[ρ,k,a,R,f,λs m S=>?_];cases k with
  |true=>refine Ky ?_;exact#[a,m,Bc.from S q]
  |false=>refine Kz ?_;exact#[a,m,Bc.from S q]]
end
open PySem.W
section
variable(lt:Nat->Nat->Bool)
structure WO(n:Nat):Prop where
 asym:∀a b,a<n->b<n->lt a b=J'->lt b a=O'
 neg:∀a b c,a<n->b<n->c<n->lt a c=J'->lt a b=J'\/lt b c=J'
def EJ(a b:Nat):Prop:=lt b a=O'
end
section
variable{lt:Nat->Nat->Bool}{n:Nat}(W:WO lt n)
include W
theorem WO.refl{a:Nat}(b:a<n):EJ lt a a:=by
 unfold EJ;cases h:lt a a with
 |false=>rfl
 |true=>have:=W.asym a a b b h;rw[h]at this;cases this
theorem WO.trans{a b c:Nat}(f:a<n)(g:b<n)(i:c<n)(d:EJ lt a b)(e:EJ lt b c):EJ lt a c:=by
 unfold EJ at *;cases h:lt c a with|false=>rfl|true=>
  rcases W.neg c b a i g f h with z|z
  ·rw[z]at e;cases e
  ·rw[z]at d;cases d
theorem WO.of_lt{a b:Nat}(c:a<n)(d:b<n)(h:lt a b=J'):EJ lt a b:=W.asym a b c d h
end
abbrev Bd(p:Array Nat)(i:Nat):Nat:=p.getD i 0
def HK(lt:Nat->Nat->Bool)(p:Array Nat)(k:Nat):Prop:=∀i j,i<=j->j<k->EJ lt (Bd p i) (Bd p j)
def JX(lt:Nat->Nat->Bool)(p:Array Nat)(k:Nat):Prop:=∀i j,i<=j->j<k->EJ lt (Bd p j) (Bd p i)
def Eqv(lt:Nat->Nat->Bool)(a b:Nat):Prop:=EJ lt a b/\EJ lt b a
def Bs(n:Nat)(p:Array Nat):Prop:=p.Perm (Bq n).toArray
theorem Bs.size{n:Nat}{p:Array Nat}(h:Bs n p):p.size=n:=by have:=h.size_eq;simpa using this
theorem Bs.lt{n:Nat}{p:Array Nat}(h:Bs n p){i:Nat}(c:i<n):Bd p i<n:=by
 have d:=h.size;have b:i<p.size:=Jr c d.symm;have e:p[i]∈p:=Array.getElem_mem b;have:=(h.mem_iff (a:=p[i])).mp e;simp_all
theorem Nt{p q:Array Nat}{i:Nat}(h:p[i]?=q[j]?):Bd p i=Bd q j:=by
 simp_all
theorem Nu{p:Array Nat}{i:Nat}(a:j<=p.size)(k:Nat):Bd (kas_rev p i j) k=if i<=k/\k<j then Bd p (i+j-1-k)else Bd p k:=by
 have:=getElem?_mirror_all (xs:=p) (i:=i) (j:=j) a k;by_cases h:i<=k/\k<j
 ·rw[if_pos h]at this ⊢;exact Nt this
 ·rw[if_neg h]at this ⊢;exact Nt this
theorem aR{p:Array Nat}{k d:Nat}(b:k<p.size)(hd:d<=k)(i:Nat):Bd (bubble p k d) i=if i=k-d then Bd p k else if k-d<i/\i<=k then Bd p (i-1)else Bd p i:=by
 have:=getElem?_bubble b d hd i;by_cases h:i=k-d
 ·rw[if_pos h]at this ⊢;exact Nt this
 ·rw[if_neg h]at this ⊢;by_cases a:k-d<i/\i<=k
  ·rw[if_pos a]at this ⊢;exact Nt this
  ·rw[if_neg a]at this ⊢;exact Nt this
theorem Bs.rev{n:Nat}{p:Array Nat}(h:Bs n p)(i j:Nat):Bs n (kas_rev p i j):=(mirror_perm p i j _).trans h
theorem Bs.bub{n:Nat}{p:Array Nat}(h:Bs n p)(k d:Nat):Bs n (bubble p k d):=(bubble_perm p k d).trans h
section
variable{lt:Nat->Nat->Bool}{n:Nat}(W:WO lt n){cmp:Nat->Nat->(Bool->Ab->Prop)->Ab->Prop}{s:Ab}(hc:∀i j C,i<n->j<n->C (lt i j) s->cmp i j C s)
include W hc
set_option tactic.hygienic true in
theorem SY{p:Array Nat}(h:Bs n p):∀(f m:Nat){Q:Nat->Ab->Prop},1<=m->m+f<=n->HK lt p m->(∀g,m<=g->g<=m+f->HK lt p g->(g=m+f\/lt (Bd p g) (Bd p (g-1))=J')->Q g s)->DJ cmp (kas_asc p f m) Q s
 |0,m,Q,o,r,k,q=>by
  rw[kas_asc,DJ]
  exact q m (Bf _) (Pp m 0) k (.inl rfl)
 |f+1,m,Q,o,r,k,q=>by
  rw[kas_asc,DJ]
  refine hc _ _ _ (h.lt (Dz r)) (h.lt (by lia)) ?_
  cases t:lt (Bd p m) (Bd p (m-1))with
  |true=>
   erw[if_true,DJ]
   exact q m (Bf _) (Pp m (f+1)) k (.inr t)
  |false=>
   erw[F9,if_false]
   refine SY h f (m+1) (Ku o) (by lia) (λi j l u=>?_) λg a b c d=>q g (Nat.le_of_succ_le a) (by lia) c (by rcases d with d|d;exact .inl (by lia);exact .inr d)
   rcases Ma j m with z|z
   ·exact k i j l z
   ·have e:j=m:=S0 z u
    subst e
    rcases Ma i j with y|y
    ·exact W.trans (h.lt (by lia)) (h.lt (i:=j-1) (by lia)) (h.lt (Dz r)) (k i (j-1) ((Pk o).mpr y) (Nat.sub_one_lt_of_lt o)) t
    ·have e:i=j:=Pu l y
     subst e
     exact W.refl (h.lt (Dz r))
theorem S2{p:Array Nat}(c:Bs n p){i:Nat}(f:i<j)(g:j<=n)(e:∀k,i<=k->k<j->Eqv lt (Bd p k) (Bd p (j-1)))(k:Nat)(d:k<n):Eqv lt (Bd (kas_rev p i j) k) (Bd p k):=by
 rw[Nu (by rw[c.size];exact g)];by_cases h:i<=k/\k<j
 ·rw[if_pos h];have a:=e (i+j-1-k) (by lia) (by lia);have b:=e k h.1 h.2;exact#[W.trans (c.lt (by lia)) (c.lt (by lia)) (c.lt<|Nat.lt_of_succ_le d) a.1 b.2,W.trans (c.lt<|Nat.lt_of_succ_le d) (c.lt (by lia)) (c.lt (by lia)) b.1 a.2]
 ·rw[if_neg h];exact#[W.refl<|c.lt d,W.refl<|c.lt d]
theorem aS{p q:Array Nat}(c:Bs n p)(d:Bs n q){k:Nat}(b:k<=n)(f:∀i,i<n->Eqv lt (Bd q i) (Bd p i))(h:JX lt p k):JX lt q k:=λi j e a=>W.trans (d.lt<|B6 a b) (c.lt<|B6 a b) (d.lt (by lia)) (f j<|B6 a b).1<|W.trans (c.lt<|B6 a b) (c.lt (by lia)) (d.lt (by lia)) (h i j e a) (f i (by lia)).2
set_option tactic.hygienic true in
theorem Pw:∀(f:Nat)(p:Array Nat)(m q:Nat){Q:Array Nat×Nat×Nat->Ab->Prop},Bs n p->1<=m->m+f<=n->q+1<=m->JX lt p m->(∀i,m-(q+1)<=i->i<m->Eqv lt (Bd p i) (Bd p (m-1))) ->
  (∀r u M,Bs n r->m<=u->u<=m+f->M+1<=u->JX lt r u->(∀i,u-(M+1)<=i->i<u->Eqv lt (Bd r i) (Bd r (u-1)))->Q (r,u,M) s)->DJ cmp (kas_desc f p m q) Q s
 |0,p,m,q,Q,l,v,t,N,w,A,x=>by
  rw[kas_desc,DJ]
  exact x p m q l (Bf _) (Pp m 0) N w A
 |f+1,p,m,q,Q,l,v,t,N,w,A,x=>by
  rw[kas_desc,DJ]
  refine hc _ _ _ (l.lt (Dz t)) (l.lt (by lia)) ?_
  have step:∀(r:Array Nat),Bs n r->JX lt r m->EJ lt (Bd r m) (Bd r (m-1))->JX lt r (m+1):=λr o h L i j B P=>by
   rcases Ma j m with z|z
   ·exact h i j B z
   ·have e:j=m:=S0 z P
    subst e
    rcases Ma i j with y|y
    ·exact W.trans (o.lt (Dz t)) (o.lt (i:=j-1) (by lia)) (o.lt (by lia)) L (h i (j-1) ((Pk v).mpr y) (Nat.sub_one_lt_of_lt v))
    ·have e:i=j:=Pu B y
     subst e
     exact W.refl (o.lt (Dz t))
  cases L:lt (Bd p m) (Bd p (m-1))with
  |true=>
   have C:=W.of_lt (l.lt (Dz t)) (l.lt (by lia)) L
   erw[if_true]
   have E:∀(r:Array Nat),Bs n r->∀i,m+1-(0+1)<=i->i<m+1->Eqv lt (Bd r i) (Bd r (m+1-1)):=λr o i a b=>by
    have e:i=m:=S0 a b
    subst e
    exact#[W.refl (o.lt (Dz t)),W.refl (o.lt (Dz t))]
   by_cases T:q>0
   ·erw[T,if_true]
    have o:=l.rev (m-(q+1)) m
    have G:=S2 W hc l (i:=m-(q+1)) (j:=m) (by lia) (Sa t) A
    have K:=aS W hc l o (k:=m) (Sa t) (λi Y=>G i Y) w
    have em:Bd (kas_rev p (m-(q+1)) m) m=Bd p m:=by rw[Nu (by rw[l.size];exact Sa t),if_neg (by lia)]
    have H:EJ lt (Bd (kas_rev p (m-(q+1)) m) m) (Bd (kas_rev p (m-(q+1)) m) (m-1)):=by
     rw[em]
     exact W.trans (l.lt (Dz t)) (l.lt (by lia)) (o.lt (by lia)) C (G (m-1) (by lia)).2
    exact Pw f _ (m+1) 0 o (Ku v) (by lia) (Ku v) (step _ o K H) (E _ o) λR m2 F a b c d e g=>x R m2 F a (Nat.le_of_succ_le b) (by lia) d e g
   ·erw[T,if_false]
    exact Pw f _ (m+1) 0 l (Ku v) (by lia) (by lia) (step _ l w C) (E _ l) λR m2 F a b c d e g=>x R m2 F a (by lia) (by lia) d e g
  |false=>
   erw[F9,if_false,DJ]
   refine hc _ _ _ (l.lt (by lia)) (l.lt (by lia)) ?_
   cases hd:lt (Bd p (m-1)) (Bd p m)with
   |true=>
    erw[if_true,DJ]
    exact x p m q l (Bf _) (by lia) N w A
   |false=>
    erw[F9,if_false]
    refine Pw f _ (m+1) (q+1) l (by lia) (by lia) (by lia) (step _ l w hd) (λi a b=>?_) λR m2 F a b c d e g=>x R m2 F a (by lia) (by lia) d e g
    show Eqv lt (Bd p i) (Bd p m)
    rcases Ma i m with z|z
    ·have:=A i (by lia) z
     exact#[W.trans (l.lt (by lia)) (l.lt (i:=m-1) (by lia)) (l.lt (by lia)) this.1 L,W.trans (l.lt (by lia)) (l.lt (i:=m-1) (by lia)) (l.lt (by lia)) hd this.2]
    ·have e:i=m:=by lia
     subst e
     exact#[W.refl (l.lt (by lia)),W.refl (l.lt (by lia))]
theorem aT{p:Array Nat}{m e:Nat}{Q:Nat×Array Nat->Ab->Prop}(g:Bs n p)(k:1<=m)(r:m<=e)(t:e<=n)(l:JX lt p m) (q:∀d h,Bs n h->1<=d->d<=e->HK lt h d->Q (d,h) s):DJ cmp (kas_tail3 m e p) Q s:=by
 unfold kas_tail3;rw[Px];have f:=g.rev 0 m;refine SY W hc f (e-m) m k (by lia) (λi j o u=>?_) λd a b c _=>?_
 ·rw[Nu (by rw[g.size];lia),Nu (by rw[g.size];lia),if_pos (by lia),if_pos (by lia)];exact l (0+m-1-j) (0+m-1-i) (by lia) (by lia)
 ·rw[DJ];exact q d _ f (by lia) (by lia) c
theorem qP{p:Array Nat}{m f:Nat}{Q:Nat×Array Nat->Ab->Prop}(k:Bs n p)(v:m+1<=f)(l:f<=n)(r:JX lt p (m+1)) (q:∀h j,Bs n j->1<=h->h<=f->HK lt j h->Q (h,j) s):DJ cmp (kas_descPart m f p) Q s:=by
 unfold kas_descPart;rw[Px];refine Pw W hc (f-(m+1)) p (m+1) 0 k (by lia) (by lia) (by lia) r (λi a b=>?_) λj h t a b c d e g=>?_
 ·have e:i=m:=by lia
  subst e;exact#[W.refl<|k.lt (by lia),W.refl<|k.lt (by lia)]
 ·by_cases o:t>0
  ·erw[o,if_true];exact aT W hc (a.rev _ _) (by lia) (by lia) l (aS W hc a (a.rev _ _) (by lia) (λi u=>S2 W hc a (by lia) (by lia) g i u) e) q
  ·erw[o,if_false];exact aT W hc a (by lia) (by lia) l e q
theorem qQ{p:Array Nat}{Q:Nat×Array Nat->Ab->Prop}(g:Bs n p)(G:1<=n)(q:∀w h,Bs n h->1<=w->w<=n->HK lt h w->Q (w,h) s):DJ cmp (kas_count n p) Q s:=by
 unfold kas_count;rw[Px];refine SY W hc g (n-1) 1 (Nat.le_of_ble_eq_true rfl) (by lia) (λi j o A=>?_) λm a b c d=>?_
 ·have e:i=0:=by lia
  have F:j=0:=Nat.lt_one_iff.mp A;subst e F;exact W.refl<|g.lt<|Nat.zero_lt_of_lt G
 ·by_cases B:m=n
  ·subst B;erw[beq_self_eq_true,if_true,DJ];exact q m p g a (Bf m) c
  ·have L:(m==n)=O':=by simpa using B
   have u:lt (Bd p m) (Bd p<|m-1)=J':=by
    rcases d with d|d
    ·exact absurd (by lia) B
    ·exact d
   erw[L,F9,if_false];have l:∀(h:Array Nat),Bs n h->(∀i,i<m->Eqv lt (Bd h i) (Bd h<|m-1))->lt (Bd h m) (Bd h<|m-1)=J'->DJ cmp (kas_descPart m n h) Q s:=λh f t M=>
    qP W hc f (by lia) (Bf n) (λi j o A=>by
     rcases Ma j m with z|z
     ·exact W.trans (f.lt (by lia)) (f.lt (i:=m-1) (by lia)) (f.lt (by lia)) (t j z).1 (t i<|Kv o z).2
     ·have e:j=m:=S0 z A;subst e;rcases Ma i j with y|y
      ·exact W.trans (f.lt (by lia)) (f.lt (i:=j-1) (by lia)) (f.lt (by lia)) (W.of_lt (f.lt (by lia)) (f.lt (by lia)) M) (t i y).2
      ·have e:i=j:=Pu o y;subst e;exact W.refl<|f.lt (by lia)) q
   by_cases C:m>1
   ·erw[C,if_true,DJ];refine hc _ _ _ (g.lt<|Nat.zero_lt_of_lt G) (g.lt (by lia)) ?_;cases N:lt (Bd p 0) (Bd p<|m-1)with
    |true=>
     exact q m p g a (by lia) c
    |false=>
     have f:=g.rev 0 m;have t:∀i,i<m->Eqv lt (Bd p i) (Bd p<|m-1):=λi v=>#[c i (m-1) ((Pk a).mpr v)<|Nat.sub_one_lt_of_lt a,W.trans (g.lt (by lia)) (g.lt (i:=0) (by lia)) (g.lt (by lia)) N (c 0 i (by lia) v)];have r:=λk E=>S2 W hc g (i:=0) (j:=m) (by lia) (by lia) (λk _ E=>t k E) k E;have em:Bd (kas_rev p 0 m) m=Bd p m:=by rw[Nu (by rw[g.size];lia),if_neg (by lia)]
     refine l _ f (λi v=>?_) ?_
     ·have H:=r i (by lia);have x:=r (m-1) (by lia);have K:=t i v;exact#[W.trans (f.lt (by lia)) (g.lt (i:=i) (by lia)) (f.lt (by lia)) H.1 (W.trans (g.lt (by lia)) (g.lt (i:=m-1) (by lia)) (f.lt (by lia)) K.1 x.2),
       W.trans (f.lt (by lia)) (g.lt (i:=m-1) (by lia)) (f.lt (by lia)) x.1 (W.trans (g.lt (by lia)) (g.lt (i:=i) (by lia)) (f.lt (by lia)) K.2 H.2)]
     ·rw[em];have x:=r (m-1) (by lia);rcases W.neg (Bd p m) (Bd (kas_rev p 0 m)<|m-1) (Bd p<|m-1) (g.lt (by lia)) (f.lt (by lia)) (g.lt (by lia)) u with z|z
      ·exact z
      ·have:=x.2;unfold EJ at this;rw[z]at this;cases this
   ·have e:m=1:=by lia
    subst e;refine l p g (λi v=>?_) u;have e:i=0:=by lia
    subst e;exact#[W.refl<|g.lt (by lia),W.refl<|g.lt (by lia)]
set_option tactic.hygienic true in
theorem S5{p:Array Nat}(c:Bs n p){k:Nat}(h:k<n)(j:HK lt p k):∀(f l r:Nat){Q:Nat->Ab->Prop},l<=r->r<=k->r<=l+f->(∀i,i<l->EJ lt (Bd p i) (Bd p k))->(∀i,r<=i->i<k->lt (Bd p k) (Bd p i)=J') ->
  (∀m,m<=k->(∀i,i<m->EJ lt (Bd p i) (Bd p k))->(∀i,m<=i->i<k->lt (Bd p k) (Bd p i)=J')->Q m s)->DJ cmp (kas_place p k f l r) Q s
 |0,l,r,Q,v,o,w,t,u,q=>by
  rw[kas_place,DJ]
  have e:l=r:=Pu v w
  subst e
  exact q l o t u
 |f+1,l,r,Q,v,o,w,t,u,q=>by
  rw[kas_place]
  by_cases d:l≥r
  ·have e:l=r:=Pu v d
   subst e
   rw[if_pos d,DJ]
   exact q l o t u
  ·rw[if_neg d,DJ]
   refine hc _ _ _ (c.lt h) (c.lt (by lia)) ?_
   cases x:lt (Bd p k) (Bd p ((l+r)/2))with
   |true=>
    erw[if_true]
    refine S5 c h j f l ((l+r)/2) (by lia) (by lia) (by lia) t (λi a b=>?_) q
    have g:=j ((l+r)/2) i a b
    rcases W.neg (Bd p k) (Bd p i) (Bd p ((l+r)/2)) (c.lt h) (c.lt (Ix b h)) (c.lt (by lia)) x with z|z
    ·exact z
    ·unfold EJ at g;rw[z]at g;cases g
   |false=>
    erw[F9,if_false]
    refine S5 c h j f ((l+r)/2+1) r (by lia) o (by lia) (λi a=>?_) u q
    exact W.trans (c.lt (by lia)) (c.lt (i:=(l+r)/2) (by lia)) (c.lt h) (j i ((l+r)/2) (Nat.le_of_lt_succ a) (by lia)) x
set_option tactic.hygienic true in
theorem aU:∀(f:Nat)(p:Array Nat)(k:Nat){Q:Array Nat->Ab->Prop},Bs n p->k+f=n->HK lt p k->(∀u,Bs n u->HK lt u n->Q u s)->DJ cmp (kas_bin f p k) Q s
 |0,p,k,Q,g,w,h,q=>by
  rw[kas_bin,DJ]
  have e:k=n:=Nat.add_right_cancel w
  subst e
  exact q p g h
 |f+1,p,k,Q,g,w,h,q=>by
  rw[kas_bin,Px]
  refine S5 W hc g (k:=k) (by lia) h k 0 k (FD k) (Bf _) (Nat.le_add_left k 0) (λi z=>by lia) (λi a b=>by lia) λl a b c=>?_
  refine aU f _ (k+1) (g.bub _ _) (by lia) (λi j m y=>?_) q
  have o:k<p.size:=by rw[g.size];lia
  have v:k-(k-l)=l:=Nat.sub_sub_self a
  rw[aR o (Nat.sub_le k l),aR o (Nat.sub_le k l),v]
  by_cases x:i=l
  ·rw[if_pos x]
   by_cases d:j=l
   ·rw[if_pos d];exact W.refl (g.lt (by lia))
   ·rw[if_neg d,if_pos (by lia)]
    exact W.of_lt (g.lt (by lia)) (g.lt (by lia)) (c (j-1) (by lia) (by lia))
  ·rw[if_neg x]
   by_cases r:l<i/\i<=k
   ·rw[if_pos r,if_neg (by lia),if_pos (by lia)]
    exact h (i-1) (j-1) (Nat.sub_le_sub_right m 1) (by lia)
   ·rw[if_neg r]
    by_cases d:j=l
    ·rw[if_pos d];exact b i (by lia)
    ·rw[if_neg d]
     by_cases t:l<j/\j<=k
     ·rw[if_pos t];exact h i (j-1) (by lia) (by lia)
     ·rw[if_neg t];exact h i j m (by lia)
theorem qS{Q:Array Nat->Ab->Prop}(g:1<=n)(q:∀f,Bs n f->HK lt f n->Q f s):DJ cmp (kas_sort n) Q s:=by
 unfold kas_sort;rw[Px];refine qQ W hc (Array.Perm.refl _) g λm f a b c d=>?_;by_cases h:m<n
 ·erw[h,if_true];have e:=Nat.max_eq_left b;rw[e];exact aU W hc (n-m) f m a (Nat.add_sub_of_le c) d q
 ·have e:m=n:=by lia
  subst e;erw[Hq,if_false,DJ];exact q f a d
end
section
variable{prog:AM}{w:Ai}{A:Ag}{s:Ab}
theorem qT{l b:Ac}{a:Array Aa}{r:Bool}{n n2:Nat}{c:O Ac}{f d:Array (O Aa)}{Q:Bool->Ab->Prop}(e:s.heap.get? l=Z {cls:=.type "list",dict:=dd,data:=.seq items n,slots:=f})(g:s.heap.get? b=Z {cls:=.type "list",dict:=c,data:=.seq a n2,slots:=d})(i:FJ A.in1 s items.toList a.toList r) (j:A.units<Aq) (h:Q r s):wpAny (Af prog w) A (oneLt' J' (.ref l) (.ref b)) Q E s:=by
 rw[oneLt'_eq];refine Al<|wpAny_cRoomFor j ?_;refine Al<|wpAny_callSpecialIfBound?_slot ⟨_,e,rfl⟩ PySem.F.slot_list_lt<|call_meets PySem.F.slot_list_lt ⟨_,e,rfl⟩ PySem.F.entry_list_lt (PySem.F.args_list_lt_2 _ _) (Yg l b items a n n2 dd c f d r) #[e,g,i,?_];exact Ij h
end
section
variable{s:Ab}{N:Fb}
theorem qU(S:Inv X pins I H s){prog:AM}{w:Ai}(A:Ag)(hu:A.units+40<Aq)(b fin:Bool){Q:Bool->Ab->Prop}:∀(xs ys:U D)(a c:U V)(d f:U Aa)(i:Nat)(r:Bool),FP (ltN 5) xs ys=Z r->Ad X.K N H xs a->Ad X.K N H ys c->An a d->An c f->fin=decide (xs.length<ys.length)->(b=O'\/i≠0\/((∀x,xs.head?=Z x->∃n,x=.int n)/\∀y,ys.head?=Z y->∃n,y=.int n))->Q r s->KatLex prog w A b fin Q (d.zip f) i s:=by
 intro xs;induction xs with
 |nil=>
  intro ys a c d f i r h m o C E t T q;erw[Ad]at m;subst m;cases C;refine kat_nil ?_;cases ys with
  |nil=>erw[FP]at h;cases h;rw[t];exact q
  |cons y ys=>erw[FP]at h;cases h;rw[t];simpa using q
 |cons x xs R=>
  intro ys a c d f i r h m o C E t T q;erw[Ad]at m;obtain⟨w1,t1,rfl,g,G⟩:=m;cases C with
  |cons j F=>
   cases ys with
   |nil=>
    erw[Ad]at o;subst o;cases E;erw[FP]at h;cases h;refine kat_nil ?_;rw[t];simpa using q
   |cons y ys=>
    erw[Ad]at o;obtain⟨w2,t2,rfl,k,L⟩:=o;cases E with
    |cons l M=>
     obtain⟨P,h⟩:=ZV h;rw[CM]at P;have v:=(Ng S ZT A x y _ _ _ _ (by unfold ZT;lia) P.1 P.2 g.p k.p j l).2.1;refine kat_cons ?_;split at h
     ·next e=>
      rw[e]at v;refine v prog w _ _ ?_;unfold KatGo;exact R ys _ _ _ _ (i+1) r h G L F M (by rw[t];simp) (.inr<|.inl<|B2<|Nat.zero_ne_add_one i) q
     ·next e=>
      rw[Bool.not_eq_true]at e;rw[e]at v;refine v prog w _ _ ?_;refine kat_no ?_;by_cases B:(b&&i==0)=J'
      ·rw[B];have u:b=J'/\i=0:=by simpa using B
       rcases T with z|z|⟨z1,z2⟩
       ·simp[u.1]at z
       ·exact absurd u.2 z
       ·obtain⟨n1,rfl⟩:=z1 x rfl;obtain⟨n2,rfl⟩:=z2 y rfl;have g1:=g.p.int;have g2:=k.p.int;subst g1 g2;obtain⟨k1,rfl⟩:=j;obtain⟨k2,rfl⟩:=l;cases h;exact oneLt_int q
      ·rw[Bool.not_eq_true]at B;rw[B];refine kat_one _ _ ?_;exact SG S 5 A x y _ _ _ _ r (by unfold ZT;lia) h g.p k.p j l prog w _ (PySem.W.BoolBack Q) q
def Cq(b:O Bool)(k:D):Prop:=match b with
 |some J'=>∃i r,k=.tup (.int i::r)
 |some O'=>∃f r,k=.tup (.tup f::r)
 |none=>∃r,k=.lst r
abbrev Nv:O Bool->SortKind
 |some b=>tuples' b
 |none=>oneType'
theorem Cq.tup{b:Bool}{k:D}(h:Cq (Z b) k):∃f r,k=.tup (f::r):=by
 cases b with
 |true=>obtain⟨i,r,e⟩:=h;exact#[_,_,e]
 |false=>obtain⟨i,r,e⟩:=h;exact#[_,_,e]
theorem qV(S:Inv X pins I H s){prog:AM}{w:Ai}(A:Ag)(y:A.units+40<Aq)(b r:Bool){k1 k2:D}{t u:V}{v x:Aa}{Q:Bool->Ab->Prop}(h:ltN 6 k1 k2=Z r)(m1:Cq (Z b) k1)(m2:Cq (Z b) k2) (z:As X.K N H k1 t) (B:As X.K N H k2 u) (C:RelV t v) (G:RelV u x) (q:Q r s):wpAny (Af prog w) A (keyLt' (tuples' b) v x) Q E s:=by
 obtain⟨F,L,i⟩:=m1.tup;obtain⟨M,P,j⟩:=m2.tup;subst i j;obtain⟨a1,k,i,T,d⟩:=z;obtain⟨a2,l,j,R,e⟩:=B;subst i j;cases C;cases G;obtain⟨a,f,p1,_⟩:=S.tuple T;obtain⟨c,g,Y,_⟩:=S.tuple R;obtain⟨o1,m,_,n1,n⟩:=p1;obtain⟨o2,o,_,n2,p⟩:=Y;refine kat_lt m n o p ?_;have l1:=d.length;have l2:=e.length;have l3:=f.length;have l4:=g.length;have:=qU S (prog:=prog) (w:=w) (N:=N) A y b (decide<|a.toArray.size<c.toArray.size) (Q:=Q) (F::L) (M::P) k l a c 0 r h d e f g (by rw[BV,BV,<- l3,<- l4,<- l1,<- l2]) (by
  cases b with|false=>exact .inl rfl|true=>
   obtain⟨i1,_,i⟩:=m1;obtain⟨i2,_,j⟩:=m2;grind) q
 simpa using this
theorem qW(S:Inv X pins I H s){prog:AM}{w:Ai}(A:Ag)(P:A.units+40<Aq)(b:O Bool)(r:Bool){k1 k2:D}{o t:V}{v:Aa}{Q:Bool->Ab->Prop}(h:ltN 6 k1 k2=Z r)(m1:Cq b k1)(m2:Cq b k2) (x:As X.K N H k1 o) (y:As X.K N H k2 t) (z:RelV o u) (B:RelV t v) (q:Q r s):wpAny (Af prog w) A (keyLt' (Nv b) u v) Q E s:=by
 cases b with|some b=>exact qV S A P b r h m1 m2 x y z B q|none=>
  obtain⟨T,a⟩:=m1;obtain⟨R,c⟩:=m2;subst a c;obtain⟨a1,Y,a,q1,d⟩:=x.p;obtain⟨a2,vs2,c,q2,e⟩:=y.p;subst a c;cases z;cases B;obtain⟨C,f,⟨⟨cls,dd,data,sl⟩,n1,g,i,G,j⟩,_⟩:=S.list q1;obtain⟨F,k,⟨⟨L,dd2,data2,sl2⟩,n2,l,m,M,n⟩,_⟩:=S.list q2;subst i j m n;exact qT g l (by simpa using YT S 5 (SG S 5) A (by unfold ZT;lia) T R _ _ _ _ h d e f k) (by lia) q
set_option tactic.hygienic true in
theorem qX(S:Inv X pins I H s){M:Model}(b:Bool):∀(c:U D)(kvs:U V)(us:U Aa),Ad X.K N H c kvs->An kvs us->(∀k∈c,Cq (Z b) k)->∃fs,KatTups s.heap us fs/\fs.length=us.length/\∀v∈fs,Looks M s.heap (typeOf v) (.type (if b then "int" else "tuple")):=by
 intro c;induction c with
 |nil=>
  intro kvs us d r _;erw[Ad]at d;subst d;cases r;exact#[[],KatTups.nil,rfl,λ_ h=>nomatch h]
 |cons k c L=>
  intro kvs us d r C;erw[Ad]at d;obtain⟨v,t,rfl,P,R⟩:=d;cases r with
  |cons Y rt=>
   obtain⟨fs,h1,h2,h3⟩:=L t _ R rt λk l=>C k<|Be _ l;have m:=C k Ba;obtain⟨f,g,rfl⟩:=m.tup;obtain⟨a,vs,rfl,q,dl⟩:=P;cases Y;obtain⟨its,x,⟨o,ho,hc,n,hd⟩,_⟩:=S.tuple q;obtain⟨w,vs',rfl,G,_⟩:=dl;cases x with
   |cons j rt1=>
    rename_i u us';refine#[u::fs,KatTups.cons ho hc hd (by simp) h1,by simp[h2],λv y=>?_];rcases Bo.mp y with e|y
    ·subst e;intro A Q E s' l F;cases b with
     |true=>
      obtain⟨i,_,e⟩:=m;cases e;have g:=G.p.int;subst g;obtain⟨t,rfl⟩:=j;exact LJ rfl F
     |false=>
      obtain⟨i,_,e⟩:=m;cases e;obtain⟨a2,vs2,rfl,q2,_⟩:=G;cases j;obtain⟨_,_,⟨o2,z,B,_⟩,_⟩:=S.tuple q2;exact LJ #[o2,l _ _ z,B] F
    ·exact h3 v y
theorem qY(C:Inv X pins I H s){M:Model}:∀(b:U D)(kvs:U V)(us:U Aa),Ad X.K N H b kvs->An kvs us->(∀k∈b,Cq J k)->∀u∈us,Looks M s.heap (typeOf u) (.type "list"):=by
 intro b;induction b with
 |nil=>
  intro kvs us d r _;erw[Ad]at d;subst d;cases r;simp_all
 |cons k b i=>
  intro kvs us d r h;erw[Ad]at d;obtain⟨v,t,rfl,j,l⟩:=d;cases r with
  |cons m rt=>
   intro u c;rcases Bo.mp c with e|c
   ·subst e;obtain⟨g,rfl⟩:=h k Ba;obtain⟨a,z,rfl,q,_⟩:=j.p;cases m;obtain⟨_,_,⟨o,n,w,x,_⟩,_⟩:=C.list q;intro A Q E B f y;exact LJ #[o,f _ _ w,x] y
   ·exact i t _ l rt (λk f=>h k<|Be _ f) u c
theorem qZ(j:Inv X pins I H s){M:Model}{A:Ag}(b:O Bool)(a:U D)(kvs:U V)(us:U Aa)(d:Ad X.K N H a kvs)(r:An kvs us)(c:∀k∈a,Cq b k)(e:2<=us.length){Q:SortKind->Ab->Prop}(q:Q (Nv b) s):wpAny M A (keyKind' us.toArray) Q E s:=by
 cases b with
 |some b=>
  obtain⟨h,f,i,g⟩:=qX j b a kvs us d r c;refine kat_kind f (by lia) g (by cases b<;>rfl) ?_;have em:(Value.type (if b=J' then "int" else "tuple") != Value.type "tuple")=b:=by cases b<;>rfl
  rw[em];exact q
 |none=>exact kas_kind e (qY j a kvs us d r c) rfl rfl q
structure Off(X:Cx)(pins:AQ)(a:Ac):Prop where
 nL:a≠X.env.locals
 s0:X.s₀.heap.objs.size<=a
 cl:∀x c,X.env.cells.lookup x=Z c->c≠a
 pn:∀p∈X.pn++pins,p.1≠a
 nf:a∉X.fs
theorem Inv.off(g:Inv X pins I H s)(h:s.heap.objs.size<=a):Off X pins a where
 nL:=λe=>by have b:=g.lt;rw[<- e]at b;exact absurd (B6 b h)<|Hq _
 s0:=BZ g.sz h;cl:=λx c e z=>by
  obtain⟨v,o,d,_⟩:=g.cell x c e;have b:=BC d;grind
 pn:=λp f z=>by
  have b:=BC (g.pin p f).1;grind
 nf:=g.nofs h
theorem Inv.pin1(g:Inv X pins I H s)(c:H a=J)(f:Off X pins a)(e:s.heap.get? a=Z o)(d:∀v,o.data≠.cell v):Inv X (pins++[(a,o)]) I H s:=g.pins_of λp b=>by
  rcases Dw.mp b with b|b
  ·exact g.pin p<|Dk _ b
  ·erw[EO]at b;subst b;exact#[e,c,f.nL,f.nf,d]
theorem Inv.catch{d:U Aa}{n:Nat}(l:Inv X pins I H s)(h:H a=J)(f:Off X pins a)(e:s.heap.get? a=Z {cls:=.type "list",data:=.seq d.toArray n})(i:An vs d)(hz:vs.length<=Ax):Inv X pins I (AG H a (.lst vs)) s:=by
 have ne:∀b u,H b=Z u->b≠a:=λb u q z=>by simp[z,h]at q
 have:=l.step (h':=s.heap) (g':=s.gens) (d':=s.drawn) (t':=s.toks) (ch:=[a]) (H':=AG H a<|.lst vs) (λb g=>by
   have e:b=a:=by simpa using g
   subst e;exact#[.inr f.s0,f.nL,f.cl,f.pn]) (λb o _ _ _ q _=>q) (λb o _ _ _ q _=>#[o.slots,q]) (λb o g _ n=>by rw[Zm<|λz=>g (by simp[z])];exact n) (λb o _ q=>#[o,q])
  (λb j q=>by rw[Zm<|ne _ _ q];exact q) (λb o u q=>by rw[Zm<|ne _ _ q];exact q) (λb A q=>#[(T' []),by rw[Zm<|ne _ _ q,q];simp]) (λm k=>k) (λb u q=>by
   by_cases g:b=a
   ·subst g;rw[ZH]at q;cases q;exact#[hz,d,n,i,e]
   ·rw[Zm g]at q;exact(l.hok b u q).stay (λc v _ r=>r) (λc r=>by rw[Zm<|ne _ _ r];exact r) λc j r=>by rw[Zm<|ne _ _ r];exact r) l.bare
 exact this
end
def DK(F:U Sl->O Rv)(x:D):D:=((F [.val x]).map CY).getD .non
def CD(F:U Sl->O Rv)(x y:D):Bool:=match ltN 6 (DK F x) (DK F y)with
 |some J'=>J'
 |_=>O'
theorem aV{F:U Sl->O Rv}{x y:D}{r:Bool}(h:ltN 6 (DK F x) (DK F y)=Z r):CD F x y=r:=by
 unfold CD;rw[h];cases r<;>rfl
structure Bn(F:List Sl->Option Rv)(xs:List D):Prop where
 few:xs.length<64
 tells:∀x∈xs,∃r,F [.val x]=Z r
 mode:∃b,∀x∈xs,Cq b (DK F x)
 cmp:∀x∈xs,∀y∈xs,∃r,ltN 6 (DK F x) (DK F y)=Z r
 asym:∀x∈xs,∀y∈xs,CD F x y=J'->CD F y x=O'
 neg:∀x∈xs,∀y∈xs,∀z∈xs,CD F x z=J'->CD F x y=J'\/CD F y z=J'
 anti:∀x∈xs,∀y∈xs,CD F x y=O'->CD F y x=O'->x=y
def IJ(lt:D->D->Bool)(x:D):U D->U D
 |[]=>[x]
 |y::r=>if lt x y then x::y::r else y::IJ lt x r
def E9(lt:D->D->Bool):U D->U D
 |[]=>[]
 |x::r=>IJ lt x (E9 lt r)
theorem S7(lt:D->D->Bool)(x:D):∀l,(IJ lt x l).Perm (x::l)
 |[]=>.refl _
 |y::r=>by
  unfold IJ;split
  ·exact .refl _
  ·exact((S7 lt x r).cons y).trans<|.swap x y r
theorem Py(lt:D->D->Bool):∀l,(E9 lt l).Perm l
 |[]=>.refl _
 |x::r=>(S7 lt x _).trans<|(Py lt r).cons x
theorem aX{F:U Sl->O Rv}{xs:U D}(h:Bn F xs){x:D}(f:x∈xs):∀l:U D,(∀y∈l,y∈xs)->l.Pairwise (λa b=>CD F b a=O')->(IJ (CD F) x l).Pairwise λa b=>CD F b a=O'
 |[],_,_=>by simp[IJ]
 |y::r,g,j=>by
  obtain⟨k,m⟩:=Mb.mp j;have i:=g y Ba;unfold IJ;split
  ·next d=>
   refine Mb.mpr #[λz c=>?_,j];rcases Bo.mp c with e|c
   ·subst e;exact h.asym x f z i d
   ·cases n:CD F z x with|false=>rfl|true=>
     rcases h.neg z (g z<|Be _ c) y i x f n with q|q
     ·simp[k z c]at q
     ·simp[h.asym x f y i d]at q
  ·next d=>
   rw[Bool.not_eq_true]at d;refine Mb.mpr #[λz c=>?_,aX h f r (λz c=>g z<|Be _ c) m];rcases Bo.mp ((S7 (CD F) x r).subset c)with e|c
   ·subst e;exact d
   ·exact k z c
theorem aY{F:U Sl->O Rv}{xs:U D}(h:Bn F xs):∀l:U D,(∀y∈l,y∈xs)->(E9 (CD F) l).Pairwise λa b=>CD F b a=O'
 |[],_=>.nil
 |x::r,c=>aX h (c x Ba) _ (λy d=>c y<|Be _<|(Py _ r).subset d) (aY h r λy d=>c y<|Be _ d)
def FQ(F:U Sl->O Rv)(xs:U D):A0:=gd (Bn F xs) (Z (E9 (CD F) xs))
theorem Bn.same{F:U Sl->O Rv}{ys:U D}(h:Bn F xs)(c:ys.Perm xs)(d:ys.Pairwise λa b=>CD F b a=O'):ys=E9 (CD F) xs:=List.Perm.eq_of_pairwise (λa b e f g i=>h.anti a (c.subset e) b ((Py _ xs).subset f) i g) d (aY h xs λ_ j=>j) (c.trans (Py _ xs).symm)
theorem q5{F:U Sl->O Rv}(h:Bn F xs):FQ F xs=Z (E9 (CD F) xs):=LX h
theorem Ta{F:U Sl->O Rv}{ys:U D}(h:FQ F xs=Z ys):Bn F xs/\ys=E9 (CD F) xs:=by grind [FQ,gd]
section
variable{s:Ab}{N:Fb}
theorem Tb{K:Ao}{b:U D}{vs:U V}(h:Ad K N H b vs):∀(a:U Nat),(∀j∈a,j<b.length)->Ad K N H (a.map λj=>b.getD j .non) (a.map λj=>vs.getD j .non)
 |[],_=>Ad.nil
 |j::a,c=>by
  have f:=c j Ba;obtain⟨v,e,d⟩:=h.get<|CK f;refine Ad.cons ?_<|Tb h a λk g=>c k<|Be _ g;simp_all
theorem Nw{vs:U V}{us:U Aa}(h:An vs us):∀(b:U Nat),An (b.map λj=>vs.getD j .non) (b.map λj=>us.getD j .none)
 |[]=>.nil
 |j::b=>by
  refine .cons ?_<|Nw h b;induction h generalizing j with|nil=>simp;rfl|cons a _ c=>
   cases j<;>simp_all
theorem aZ(zB:Inv X pins I H s){prog:AM}{w:Ai}(A:Ag)(hu:A.units+40<Aq){F:U Sl->O Rv}{f:U D}(h:Bn F f){kvs:U V}{us items:U Aa}
  (d:Ad X.K N H (f.map (DK F)) kvs) (r:An kvs us) (g:items.length=f.length) {P:PySem.Fin->Ab->Prop} {T:SortSt->Sem PySem.Fin}
  (q:∀(p:U Nat) (st:SortSt),p.Perm (Bq f.length)->(p.map λj=>f.getD j .non)=E9 (CD F) f->Array.map (λx=>x.2) (arrOf st)=(p.map λj=>items.getD j .none).toArray->failedOf st=J->wpAny (Af prog w) A (T st) P E s):
  wpAny (Af prog w) A (do
   let kind <- if items.toArray.size<2 then AA general' else keyKind' us.toArray
   let((),s) <- (if items.toArray.size<2 then AA ()else sortRuns').run (SortSt.mk' kind (us.toArray.zip items.toArray) (T' []) 7 J)
   T s) P E s:=by
 have l1:=d.length
 have l2:=r.length
 rw[Bi]at l1
 by_cases t:items.toArray.size<2
 ·rw[if_pos t]
  erw[t,if_true]
  have u:us.length=items.length:=by lia
  rw[BV]at t
  refine Al (AN ?_)
  refine Al ?_
  refine AN ?_
  refine q (Bq f.length) (SortSt.mk' general' (us.toArray.zip items.toArray) (T' []) 7 J) (.refl _) ?_ ?_ rfl
  ·have e:(Bq f.length).map (λj=>f.getD j .non)=f:=by
    apply JM
    intro i
    by_cases g:i<f.length
    ·simp[g]
    ·simp[g]
   rw[e]
   refine h.same (.refl _) ?_
   match f,g with
   |[],_=>exact .nil
   |[a],_=>exact List.pairwise_singleton _ _
   |a::b::c,g=>simp at g;lia
  ·have e:(Bq f.length).map (λj=>items.getD j .none)=items:=by
    rw[<- g]
    apply JM
    intro i
    by_cases g:i<items.length
    ·simp[g]
    ·simp[g]
   rw[e]
   rw[List.zip_toArray,List.map_toArray]
   congr 1
   exact List.map_snd_zip (Nat.le_of_eq u.symm)
 ·rw[if_neg t]
  erw[t,if_false]
  rw[BV]at t
  obtain⟨b,m⟩:=h.mode
  refine Al (qZ zB b (f.map (DK F)) kvs us d r (λk hk=>by
   obtain⟨x,hx,rfl⟩:=Bp.mp hk
   exact m x hx) (by lia) ?_)
  have u:us.length=items.length:=by lia
  have S:(us.toArray.zip items.toArray).size=f.length:=by simp;lia
  have hr:=kas_range (us.toArray.zip items.toArray)
  rw[S]at hr
  have zA:SortSt.mk' (Nv b) (us.toArray.zip items.toArray) (T' []) 7 J=kas_st (Nv b) (us.toArray.zip items.toArray) (Bq f.length).toArray:=by
   unfold kas_st;rw[hr]
  refine Al ?_
  rw[zA]
  have W:WO (λi j=>CD F (f.getD i .non) (f.getD j .non)) f.length:=by
   have mem:∀i,i<f.length->f.getD i .non∈f:=λi g=>by
    have y:f.getD i .non=f[i]:=by simp[FR,g]
    rw[y];exact Hb g
   exact#[λa b z m Y=>h.asym _ (mem a z) _ (mem b m) Y,λa b c z m hc Y=>h.neg _ (mem a z) _ (mem b m) _ (mem c hc) Y]
  have hc:∀i j (C:Bool->Ab->Prop),i<f.length->j<f.length->C (CD F (f.getD i .non) (f.getD j .non)) s->kas_cmp prog w A (Nv b) (us.toArray.zip items.toArray) i j C s:=λi j C n o hq=>by
   unfold kas_cmp
   rw[kat_item u,kat_item u]
   have mem:∀i,i<f.length->f.getD i .non∈f:=λi g=>by
    have y:f.getD i .non=f[i]:=by simp[FR,g]
    rw[y];exact Hb g
   obtain⟨rr,B⟩:=h.cmp _ (mem i n) _ (mem j o)
   rw[aV B]at hq
   have R:∀i,i<f.length->∃v,As X.K N H (DK F (f.getD i .non)) v/\RelV v (us.getD i .none):=λi g=>by
    have y:f.getD i .non=f[i]:=by simp[FR,g]
    obtain⟨v,ev,dv⟩:=d.get (i:=i) (d:=DK F f[i]) (by simp[g])
    refine#[v,by rw[y];exact dv,?_]
    have:=Nw r [i]
    cases this with
    |cons a _=>
     have e2:kvs.getD i .non=v:=by simp[FR,ev]
     rw[<- e2]
     exact a
   obtain⟨v1,dv1,rv1⟩:=R i n
   obtain⟨v2,dv2,rv2⟩:=R j o
   exact qW zB A hu b rr B (m _ (mem i n)) (m _ (mem j o)) dv1 dv2 rv1 rv2 hq
  refine kas_runs (Q:=λ_ st L=>wpAny (Af prog w) A (T st) P E L) (G:=λp L=>L=s/\Bs f.length p/\HK (λi j=>CD F (f.getD i .non) (f.getD j .non)) p f.length) (by lia) h.few (λp st L hp z hf hg=>?_) (qS W hc (by lia) λp a b=>#[rfl,a,b])
  obtain⟨rfl,hB,hS⟩:=hg
  have l:p.toList.Perm (Bq f.length):=by
   have:=hB.toList
   simpa using this
  refine q p.toList st l ?_ (kat_snds u z) hf
  refine h.same ?_ ?_
  ·have e:(Bq f.length).map (λj=>f.getD j .non)=f:=by
    apply JM
    intro i
    by_cases g:i<f.length
    ·simp[g]
    ·simp[g]
   have:=l.map λj=>f.getD j .non
   rw[e]at this
   exact this
  ·rw[List.pairwise_map]
   rw[List.pairwise_iff_getElem]
   intro i j g M hij
   have:=hS i j (Nat.le_of_succ_le hij) (by simp at M;exact Jr M hp)
   unfold EJ Bd at this
   simp at g M
   simpa[Array.getD,g,M]using this
theorem q8(i:Inv X pins I H s){prog:AM}{w:Ai}(A:Ag)(f:A.units+40<Aq){F:U Sl->O Rv}{b:U D}(h:Bn F b){kvs:U V}{us items:U Aa} (d:Ad X.K N H (b.map (DK F)) kvs) (r:An kvs us) (g:items.length=b.length) {c:Nat} {e:Aa} {P:PySem.Fin->Ab->Prop} (q:∀(p:U Nat) (st:SortSt),p.Perm (Bq b.length)->(p.map λj=>b.getD j .non)=E9 (CD F) b->Array.map (λx=>x.2) (arrOf st)=(p.map λj=>items.getD j .none).toArray->failedOf st=J->wpAny (Af prog w) A (ksk_tail a O' c e st) P E s):
  wpAny (Af prog w) A (ksk_end a O' items.toArray c e us.toArray) P E s:=by
 unfold ksk_end
 exact aZ i A f h d r g q
end
section
variable{s:Ab}{N:Fb}
abbrev Dm(a:U Aa)(n:Nat):Obj:={cls:=.type "list",data:=.seq a.toArray n}
theorem Inv.rawset{c its':U Aa}{n:Nat}{f:Array Aa->Array Aa}(k:Inv X pins I H s)(d:H a=J)(o:Off X pins a)(e:s.heap.get? a=Z (Dm c n))(g:f c.toArray=its'.toArray):∃h,(s.heap.update a (FH f)).get? a=Z (Dm its' h)/\Inv X pins I H {s with heap:=s.heap.update a (FH f)}:=by
 have q:=PySem.IsL.update e f;rw[g]at q;exact#[_,q,k.turned (t':=s.toks) (λb u i j=>(LL s.heap (FH f)<|B2 i).trans j) d o.nL (.inr o.s0) o.cl o.pn]
theorem Tc(a:U Aa)(n:Nat)(v:O Aa):(Dm a n).data≠.cell v:=nofun
theorem Off.more{b:Ac}(f:Off X pins a)(h:b≠a):Off X (pins++[(b,o)]) a:=#[f.nL,f.s0,f.cl,λp c=>by
  rw[<- Mc]at c;rcases Dw.mp c with c|c
  ·exact f.pn p c
  ·erw[EO]at c;subst c;exact h,f.nf]
theorem Inv.pinGet(b:Inv X pins I H s)(h:(a,o)∈pins):s.heap.get? a=Z o/\H a=J:=#[(b.pin _<|Dk _ h).1,(b.pin _<|Dk _ h).2.1]
theorem q9{prog:AM}{w:Ai}(A:Ag){D c:Ac}{d m:Nat}{us out:U Aa}{P:PySem.Fin->Ab->Prop}{st:SortSt}(e:Inv X (pins++[(D,Dm [] d)]++[(c,Dm us m)]) I H s) (j:Off X pins D) (n:Off X pins c) (ne:D≠c) (g:us.length<=Ax) (h:Array.map (λx=>x.2) (arrOf st)=out.toArray) (o:failedOf st=J) (k:An vs out) (hz:vs.length<=Ax) (q:∀s',Inv X pins I (AG H D (.lst vs)) s'->P (.done (.ret .none)) s'):wpAny (Af prog w) A (ksk_tail D O' d (.ref c) st) P E s:=by
 obtain⟨gk,p⟩:=e.pinGet<|Dk _ Ba;obtain⟨r,hd⟩:=e.pinGet<|Ii _<|Dk _ Ba;have t:=e.unpinned;obtain⟨n2,B,l⟩:=t.rawset (f:=λ_=>(T' [])) (its':=[]) p (n.more ne) gk rfl;refine Al<|Nx gk rfl ?_ (by simpa using g) (by simp);refine Al<|wpAny_letGo ?_;obtain⟨b,_⟩:=l.pinGet (a:=D) (Dk _ Ba);refine Al<|seqEpoch_at b rfl ?_;have u:Inv X pins I H _:=l.unpinned;have i:out.length<=Ax:=by rw[<- k.length];exact hz
 obtain⟨n3,v,y⟩:=u.rawset (f:=λ_=>out.toArray) (its':=out) hd j b rfl;erw[F9,if_false,h];refine Al<|Nx b rfl ?_ (by simp) (by simp;exact Ku i);have z:(d != d)=O':=by simp
 rw[o];erw[z,F9,if_false];exact AN<|q _<|y.catch hd j v k hz
variable{k:Nat}{fn:Ac}{fd:Cd}{F:U Sl->O Rv}
theorem ra(i:AR X.prog X.w X.K X.mg X.base Bm k fn fd ps (A1 X.K F))(h:Binds X.K fd ps [])(W:Inv X pins I H s)(A:Ag)(p:AI k A)(t:CJ X.prog X.w X.K X.mg X.base A X.stack s H)(j:∀a,N a->H a≠J){x:D}{v:V}(d:As X.K N H x v)(B:RelV v u){r:Rv}(l:F [.val x]=Z r) {Q:AL} (q:∀u' s' c H',Inv X pins I H' s'->Ah H H'->As X.K N H' (DK F x) c->RelV c u'->Q u' s'):wpAny (Af X.prog X.w) A (call (.ref fn) [u]) Q E s:=by
 have f:A1 X.K F [v] H (λc H'=>Ah H H'/\As X.K N H' (DK F x) c) E0:=by
  refine#[N,[.val x],r,j,?_,l,λc H' m n=>#[m,?_]]
  ·exact#[v,[],rfl,d,rfl]
  ·have e:DK F x=CY r:=by unfold DK;rw[l];rfl
   rw[e];cases r with|val y=>exact n|own S o=>
    obtain⟨a,C,G,P,L,M⟩:=n;exact#[a,C,G,.of (λz=>j a z P) L,M.nw λb h=>.inl<|.inl h]
 have R:([u]:U Aa).length=ps.length:=by
  have:=i.len _ _ _ _ f;simp_all
 refine wpAny_call<|LB (i.run A X.stack s H ⟨[u],[]⟩ [u] [v] _ E0 p t (by simpa using h s [u] W.kIn (by simpa using R)) (.cons B .nil) f) λr s' g=>?_;cases r with|error e=>exact BM g|ok o=>
  cases o with
  |ret u'=>
   obtain⟨c,H',Y,T,m,hd⟩:=W.after g;grind
  |next=>exact BM g
  |brk=>exact BM g
  |cont=>exact BM g
set_option tactic.hygienic true in
theorem Ah.none{H H':Hp}(h:Ah H H'){a:Ac}(e:H' a=J):H a=J:=by
 cases q:H a with
 |none=>rfl
 |some o=>rw[h a o q]at e;cases e
theorem rb(Fo:AR X.prog X.w X.K X.mg X.base Bm k fn fd ps (A1 X.K F))(hb:Binds X.K fd ps [])(A:Ag)(hr:AI k A)(hu:A.units+40<Aq)(hA:∀s H,CJ X.prog X.w X.K X.mg X.base X.A X.stack s H->CJ X.prog X.w X.K X.mg X.base A X.stack s H) {g h:Ac} {n e0:Nat} (zA:Inv X (pins++[(g,Dm [] n)]++[(h,Dm [] e0)]) I H s) (nh:∀a,N a->H a≠J) {items:U Aa} {xs:U V} {c:U D} (fD:Off X pins g) (B:Off X pins h) (ne:g≠h) (C:An xs items) (G:Ad X.K N H c xs) (ok:Bn F c) {P:PySem.Fin->Ab->Prop} (q:∀s' H' vs,Inv X pins I (AG H' g (.lst vs)) s'->Ah H H'->H' g=J->Ad X.K N H' (E9 (CD F) c) vs->P (.done (.ret .none)) s'):wpAny (Af X.prog X.w) A (ksk_rest g (.ref fn) O' items.toArray n (.ref h)) P E s:=by
 have l1:=G.length;have l2:=C.length;have few:=ok.few;have hsl:=Il;refine Al<|Ju ?_;refine Al<|wpAny_forIn_array' _ (λAH _ s'=>∃(done:U Aa) (H':Hp) (i:U Aa) (d:U V) (L:Nat),items=done++AH/\i.length=done.length/\Inv X (pins++[(g,Dm [] n)]++[(h,Dm i L)]) I H' s'/\Ah H H'/\An d i/\Ad X.K N H' ((c.take done.length).map<|DK F) d) _ ?_ ?_ items.toArray PUnit.unit ?_
 ·rintro u AH b s1 ⟨done,H1,i,d,L,o,hl,l,sm,M,t⟩;have S:done.length<c.length:=by
   grind
  have y:=CK S;generalize c[done.length]=x at y;obtain⟨v,hv,dv⟩:=G.get y;have ru:RelV v u:=by
   have:=Nw C [done.length];cases this with
   |cons a _=>
    simp_all
  obtain⟨r,hF⟩:=ok.tells x<|LF y;refine Al<|wpAny_attempt ?_;refine ra Fo hb l A hr (hA _ _ l.env0) (λa Q z=>nh a Q<|sm.none z) (dv.same sm) ru hF λT s2 v' H2 I2 m W Y=>?_;obtain⟨gk,hk⟩:=I2.pinGet<|Dk _ Ba;have I3:=I2.unpinned;obtain⟨n3,g3,I4⟩:=I3.rawset (f:=λx=>x.push T) (its':=i++[T]) hk (B.more ne) gk (by simp);refine Al<|Nx gk rfl ?_ (by simp;lia) (by simp;lia);refine AN ?_;refine⟨done++[u],H2,i++[T],d++[v'],n3,by rw[o];simp,by simp[hl],I4.pin1 hk (B.more ne) g3<|Tc _ _,sm.trans m,M.append<|.cons Y .nil,?_⟩;have e:(c.take (done++[u]).length).map (DK F)=(c.take done.length).map (DK F)++[DK F x]:=by
   rw[FG,List.length_singleton,List.take_succ,y];simp
  rw[e];exact(t.same m).append<|Ad.cons W Ad.nil
 ·rintro b s1 ⟨done,H1,i,d,L,o,hl,l,sm,M,t⟩;rw[D0]at o;subst o;obtain⟨gk,hk⟩:=l.pinGet (a:=h) (Dk _ Ba);obtain⟨gd',hd⟩:=l.pinGet (a:=g) (Ii _<|Dk _ Ba);refine Al<|listItems_at gk rfl ?_;have ht:c.take items.length=c:=Nh (by lia);rw[ht]at t;refine q8 (N:=N) l A hu ok t M (by lia) λp st hp hs Q hf=>?_;have hpl:p.length=c.length:=by have:=hp.length_eq;simpa using this
  refine q9 A l fD B ne (by lia) Q hf (Nw C p) (by rw[Bi];lia) λs' R=>?_;refine q s' H1 _ R sm hd ?_;rw[<- hs];exact Tb (G.same sm) p λj hj=>by have:=hp.subset hj;simpa using this
 ·exact#[[],H,[],[],e0,by simp,rfl,zA,Ah.refl H,.nil,Ad.nil]
theorem re(G:AR X.prog X.w X.K X.mg X.base Bm k fn fd ps (A1 X.K F))(B:Binds X.K fd ps [])(A:Ag)(L:AI k A)(M:A.units+40<Aq)(R:∀s H,CJ X.prog X.w X.K X.mg X.base X.A X.stack s H->CJ X.prog X.w X.K X.mg X.base A X.stack s H) (W:Inv X pins I H s) (Q:∀a,N a->H a≠J) {c:Ac} {items:U Aa} {T:Nat} {xs:U V} {j:U D} (g:s.heap.get? c=Z (Dm items T)) (t:H c=J) (l:Off X pins c) (v:An xs items) (y:Ad X.K N H j xs) (ok:Bn F j) {P:PySem.Fin->Ab->Prop} (q:∀s' H' vs,Inv X pins I (AG H' c (.lst vs)) s'->Ah H H'->H' c=J->Ad X.K N H' (E9 (CD F) j) vs->P (.done (.ret .none)) s'):wpAny (Af X.prog X.w) A (ksk_tree c (.ref fn) O') P E s:=by
 have l1:=y.length;have l2:=v.length;have few:=ok.few;have S:=Il;refine Al<|listItems_at g rfl ?_;obtain⟨n1,z,Y⟩:=W.rawset (f:=λ_=>(T' [])) (its':=[]) t l g rfl;refine Al<|Nx g rfl ?_ (by simp;lia) (by simp);refine Al<|seqEpoch_at z rfl ?_;refine Al<|wpAny_newTuple ?_ (by simp;lia);generalize m:({heap:=s.heap.update c<|FH λx=>(T' []),gens:=s.gens,drawn:=s.drawn,toks:=s.toks,os:=s.os}:Ab)=d at *;have n:d.heap.get? c=Z (Dm [] n1):=by rw[<- m];exact z
 have p:=Y.kept (t':=d.toks) (λb u e=>Br {cls:=.type "tuple",data:=.seq items.toArray} e);have g2:=Br {cls:=.type "tuple",data:=.seq items.toArray} n;generalize r:({heap:=d.heap.push {cls:=.type "tuple",data:=.seq items.toArray},gens:=d.gens,drawn:=d.drawn,toks:=d.toks,os:=d.os}:Ab)=h at *;have i:h.heap.get? c=Z (Dm [] n1):=by rw[<- r];exact g2
 refine Al<|wpAny_newList ?_ (by simp);have I3:=p.kept (t':=h.toks) (λb u e=>Br (Dm [] 0) e);have g3:=Br (Dm [] 0) i;have gk:=Cc h.heap (o:=Dm [] 0) rfl;have C:=p.off<|Bf h.heap.objs.size;have hK:H h.heap.objs.size=J:=p.fresh;have ne:c≠h.heap.objs.size:=B9<|BC i;refine FC ?_;exact rb (N:=N) G B A L M R ((I3.pin1 t l g3<|Tc _ _).pin1 hK (C.more ne) gk<|Tc _ _) Q l C ne v y ok q
theorem rf(t:AR X.prog X.w X.K X.mg X.base Bm k fn fd ps (A1 X.K F))(m:Binds X.K fd ps [])(p:AI (k+2) X.A)
  (T:Inv X pins I H s) (v:∀a,N a->H a≠J) {xs:U V} {h:U D} (x:BL X.K H a xs) (B:Ad X.K N H h xs) (ok:Bn F h) {Q:VK}
  (q:∀d vs H',Ah H H'->H d=J->H' d=Z (.lst vs)->Ad X.K (λb=>N b\/b=d) H' (E9 (CD F) h) vs->Q (.ref d) H'):
  wpAny (Af X.prog X.w) X.A (call (.builtin "sorted") [.ref a] [("key",.ref fn)]) (EP X pins I Q) X.xe s:=by
 obtain⟨c,r,⟨o,n,C,E,G,hd⟩,hz⟩:=T.list x
 have l2:=r.length
 refine wpAny_call (Td plain_sorted entry_sorted ?_)
 have L:checkBuiltinCall "sorted" #[[.ref a],[("key",.ref fn)]]=AA ():=by rfl
 refine AN ?_
 have R:checkCount "sorted" 1 1 1=AA ():=rfl
 show wpAny _ _ (do checkCount "sorted" 1 1 1;let y <- collect (.ref a);let l <- newList y;let _ <- Ee [l] (call (.builtin "list.sort") [l] [("key",.ref fn)]);ret l) _ _ _
 refine Al (AN ?_)
 refine Al (wpAny_collect_seq a (.inl rfl) C E hd (λS Y=>?_) (by simp;lia))
 have i:=T.kept (t':=s.toks) Y
 refine Al (wpAny_newList ?_ (by simp;lia))
 generalize hs1:({heap:=S,gens:=s.gens,drawn:=s.drawn,toks:=s.toks,os:=s.os}:Ab)=f at *
 have I2:=i.kept (t':=f.toks) (λb u e=>Br (Dm c 0) e)
 have g:=Cc f.heap (o:=Dm c 0) rfl
 have fD:=i.off (Bf f.heap.objs.size)
 have j:H f.heap.objs.size=J:=i.fresh
 refine Al (FC ?_)
 refine wpAny_call (Td PySem.F.slot_list_sort.plain PySem.F.entry_list_sort ?_)
 refine PySem.F.slot_list_sort.check _ _ _ _ _ _ _ _ #[_,g,rfl] rfl ?_
 refine re (N:=N) t m X.A.in1.in1 p.in1.in1 ?_ (λs H e=>e.in1.in1) I2 v g j fD r B ok λs' H' vs P sm hn dv=>?_
 ·have:=p.un;show X.A.units+1+1+40<_;lia
 ·refine AN ?_
  refine#[.ref _,_,P,rfl,q _ vs _ (λb u e=>?_) j ZH ?_]
  ·rw[Zm (λz=>by rw[z,j]at e;cases e)];exact sm b u e
  ·exact Ad.step (M:=λ_=>False) #[λb u e z=>by
    rw[Zm (λz=>by rw[z,hn]at e;cases e)];exact e,λb m=>by
    grind] _ _ dv
end
section
variable{M:Fb}{k:Nat}{fn:Ac}{fd:Cd}{F:U Sl->O Rv}{e:Expr}{f:AB}{x y:Ae}{p kpos:AD}
def KU(F:U Sl->O Rv)(f:AB):VE->A0:=λa=>match f a with
 |some (.lst b)=>FQ F b
 |_=>J
set_option tactic.hygienic true in
theorem rg(Fo:AR X.prog X.w X.K X.mg X.base Bm k fn fd ps (A1 X.K F))(hr:AI (k+2) X.A)(hg:Gl X x)(hm:X.mg x=J)(hv:Ec x=Z (.builtin "sorted"))(l:Gl X y)(m:X.mg y=Z (.ref fn))(hb:Binds X.K fd ps [])(n:JE X e (tP X.K M H0 f)) (hn:x≠"__name__":=by ext) (o:Cs x:=by ext) (d:Cs y:=by ext) (L:AC [e] X.env=(O',Ap e X.env)::AC [] X.env:=by exact ZR rfl):JE X (.Call (.Name x p) [e] [#[Z "key",.Name y p2,kpos]] pos) (tF X.K M H0 (KU F f)):=#[have n:=n.h;by
 intro b s g H Q zA h;obtain⟨r,ys,R,i,q⟩:=h;refine MP<|Hr zA hg hm hv ?_ hn o;unfold KU at i;split at i
 ·next S hf=>
  obtain⟨ok,rfl⟩:=Ta i;have T:=(Z3 n (A8) L) pos b s g H (λj c=>∃v,j=[v]/\Ah H c/\Aw X.K (Nf M r g) c (.lst S) v) zA #[r,.lst S,R,hf,λv c t z=>#[v,rfl,t,z]];have B:=l7 (nm:=Z "key") (kpos:=kpos) (RE (v:=.ref fn) (pos:=p2) l m rfl d) (l6 (X:=X));rw[L]at T ⊢;refine callWith_builtin_kwB rfl rfl ?_;refine Al<|AT T λus t C=>?_;obtain⟨j,c,I1,r1,v,rfl,sm,z⟩:=C;refine Al<|AN ?_;refine FC ?_;refine Al<|AT (B pos b t g c (λW Y=>W=[.ref fn]/\Y=c) I1 #[rfl,rfl]) λks s2 C=>?_;obtain⟨W,Y,I2,r2,rfl,rfl⟩:=C;refine Al<|AN ?_;refine AN ?_;obtain⟨u,rfl,ru⟩:=ER r1;obtain⟨u2,rfl,E⟩:=ER r2;cases E;obtain⟨a,ws,rfl,sq,dl⟩:=z;cases ru;have R1:=R.st sm;exact rf (N:=Nf M r g) Fo hb hr I2 R1.nh sq dl ok λda j H' s' G P dv=>q da j H' (sm.trans s') (sm.none G) P dv
 ·cases i]
end
end L2
variable{kvs:L2.Bw}
namespace L2
open PySem PySem.Spec PyProof.Rows
section
@[simp] theorem ZBT(xs:U D):Yz (.lst xs)=Z xs:=rfl
end
open PySem.W
theorem rh:typeLookup (.type "list") ("keys":Ae)=AA J:=am_miss_of_fast (by kernel_rfl)
theorem ri{prog:AM}{w:Ai}{A:Ag}{s:Ab}{f:Array Aa}{Q:O Aa->Ab->Prop}(p:PlainL s.heap a f)(i:A.handled=J) (q:∀h' h,(∀b o,s.heap.get? b=Z o->h'.get? b=Z o)->Q J {s with heap:=h',toks:=h}):wpAny (Af prog w) A (getAttr? (.ref a) "keys") Q E s:=by
 obtain⟨o,n,e,j,hd,k⟩:=p;obtain⟨c,u,v,l⟩:=o;subst j hd k;obtain⟨m,g,d,h,os⟩:=s;have ty:∀t,(#[m,g,d,t,os]:Ab).TypeIs (.ref a) "list":=λ_=>#[_,e,rfl];have l1:=sub_AttributeError;have x:=F.slot_list_getattribute.lookup;have y:=F.slot_list_getattribute.bind<|.ref a;have l4:=am_list_getattr_none;unfold getAttr? getAttrBy? getAttrBy;repeat(any_goals(first
  |assumption
  |exact ty _
  |((with_reducible show wpAny _ _ (call (Value.builtin "list.__getattribute__") _ _) _ _ _)
    refine call_meets F.slot_list_getattribute (ty _) am_entry_list_getattribute (F.args_list_getattribute_2 _ _) (meets_getattribute_miss_list a f n l "keys" _ rh (by decide +kernel) (by decide +kernel)) #[e,i,λr z B new=>?_])
  |wp_step))
 obtain⟨C,G,ex⟩:=new.there;unfold getattributeRaised;repeat(any_goals(wp_step))
 exact q r _ new.keeps
theorem a0:entryFor table "dict.update.loop"=Z Fk.«dict.update.loop»:=entryFor_of_tree (by kernel_rfl)
theorem a7:plainId "dict.update.loop"=J':=by decide +kernel
theorem a9{K:Ao}{k:KT}{v:V}(h:By K H k v)(s:Ah H H'):By K H' k v:=by
 cases k with
 | «at» a=>exact h
 |tup l=>obtain⟨p,e,b⟩:=h;exact#[p,e,b.same s]
noncomputable def GB:Bw->U D->O Bw
 |a,[]=>Z a
 |a,.tup [y,d]::r=>match Dh y with
  |some k=>if Di k a&&decide (a.length<Ax)then GB (ZY a k d) r else J
  |none=>J
 |_,_=>J
theorem rj{M:Model}{A:Ag}{s:Ab}{p:Ac}{a:Array Aa}{Q:U Aa->Ab->Prop}(h:IsTup s.heap p a)(q:Q a.toList s):wpAny M A (Builtin.Dict.pairItems (.ref p)) Q E s:=by
 obtain⟨o,e,b,n,hd⟩:=h;refine Al<|LJ ⟨o,e,b⟩ ?_;refine Al<|Al<|wpAny_load e ?_;rw[hd];exact AN<|AN q
section
variable{A:Ag}{it l:Ac}{N:Fb}{us:U Aa}
set_option tactic.hygienic true in
theorem bc(hu:A.units+1<Aq)(hA:A.in1.handled=J)(hH:H a=J)(f:F5 X pins H it)(h:it≠a)(n:l≠it)(x:l≠a):∀(G:U D)(vs:U V)(ws:U Aa)(i:Nat)(s:Ab)(kvs:Bw)(tr:U T3)(c:Bw),
  us.drop i=ws->An vs ws->Ad X.K N H G vs->PD X.K N H kvs tr->Inv X pins I (AG H a (Dq tr)) s->s.heap.IsListIter it l i->s.heap.IsList l us.toArray->GB kvs G=Z c ->
  (∀s' z,Inv X pins I (AG H a (Dq z)) s'->PD X.K N H c z->R (.ok (.ret .none)) s') ->
  codeAny (Af X.prog X.w) A (.builtin "dict.update.loop" #[[.ref a,.ref it,AV (i:Int),.none],[]]) R s
 |[],vs,ws,i,s,kvs,tr,c,hd,M,P,m,W,j,F,g,q=>by
  cases P
  cases M
  cases g
  refine JC a0 ?_
  have Q:us.toArray[i]?=J:=by
   have:=List.drop_eq_nil_iff.mp hd
   simp[this]
  refine Al (wpAny_pyNext_list_end hA j F Q λh' ke=>?_)
  have L:=W.turned (t':=s.toks) (λb o T e=>ke b o T e) (by rw[Zm h];exact f.1) f.2.1 f.2.2.2.1 f.2.2.2.2.1 f.2.2.2.2.2
  exact Al (AN (AN (q _ tr L m)))
 |d::G,vs,ws,i,s,kvs,tr,c,hd,M,P,m,W,j,F,g,q=>by
  obtain⟨v,S,rfl,d1,Y⟩:=P
  cases M with
  |@cons _ u _ B rv hv'=>
  unfold GB at g
  split at g
  ·cases ‹_::_=[]›
  ·next y dd r e1=>
   cases e1
   cases hk:Dh y with
   |none=>simp[hk]at g
   |some k=>
    rw[hk]at g
    obtain⟨hc,g⟩:=ZV g
    rw[CM,decide_eq_true_eq]at hc
    have ey:=HG hk
    subst ey
    obtain⟨p,vs2,rfl,sq,dl⟩:=d1
    obtain⟨kv,r2,rfl,dk,vv,r3,rfl,dv,rfl⟩:=dl
    cases rv
    have hat:us.toArray[i]?=Z (.ref p):=by
     have h0:(us.drop i)[0]?=Z (Cj p):=by rw[hd];rfl
     simpa using h0
    have hd':us.drop (i+1)=B:=by
     rw[<- List.tail_drop,hd];rfl
    refine JC a0 ?_
    refine Al (wpAny_pyNext_list_item j F hat λh' C sb=>?_)
    have L:=W.turned (t':=s.toks) (λb o T e=>(sb.2 b T).trans e) (by rw[Zm h];exact f.1) f.2.1 f.2.2.2.1 f.2.2.2.2.1 f.2.2.2.2.2
    have sm:Ah H (AG H a (Dq tr)):=Z5 hH
    obtain⟨its,rv2,ht,_⟩:=L.tuple (sq.same sm)
    obtain⟨u1,u2,rfl,r1,r2⟩:=MN rv2
    have hl':h'.IsList l us.toArray:=F.at λo e=>(sb.2 l n).trans e
    refine Al (FC ?_)
    refine Al (wpAny_tryCatch (rj ht ?_))
    refine FC ?_
    refine az J' hu L ZH (λt ht=>a9 (m.keys t ht) sm) (m.hom hc.1) (a9 (HH dk) sm) r1 r2 (by have:=GQ m;lia) λh2 t2 I2 E=>?_
    rw[j3]at I2
    refine AN #[LN a7 _,?_]
    have e2:AV ((i:Int)+1)=AV ((i+1:Nat):Int):=by simp
    refine bc hu hA hH f h n x G S B (i+1) _ (ZY _ k dd) (Ej tr k kv vv) c hd' hv' Y (m.put dk dv) I2 ?_ ?_ g q
    ·obtain⟨o,e,hh⟩:=C
     exact#[o,(E.2 it h).trans e,hh]
    ·exact hl'.at λo e=>(E.2 l x).trans e
  ·cases g
theorem rk(L:X.calm=J')(hu:X.A.units+64<Aq){s:Ab}{Q:VK}(R:Inv X pins I H s){m:U D}(M:BL X.K H l vs)(G:Ad X.K N H m vs)(P:GB [] m=Z kvs) (q:∀tr p,H p=J->PD X.K N H kvs tr->Q (.ref p) (AG H p (Dq tr))):wpAny (Af X.prog X.w) X.A (call (.type "dict") [.ref l]) (EP X pins I Q) E s:=by
 obtain⟨us,Y,v,hz⟩:=R.list M;have g:l<s.heap.objs.size:=by obtain⟨o,n,e,_⟩:=v;exact BC e
 have y:X.A.handled=J:=R.ok.hd L;refine callType_codes (Q₁:=λx C=>x=.ref s.heap.objs.size/\C={s with heap:=s.heap.push {cls:=.type "dict",data:=.dict (T' [])} }) F.kt_called_dict (F.kt_typeCall_dict_1 (.ref l)) F.entry_dict_init (kt_code_dict_new (.ref l) #[rfl,rfl]) ?_;rintro x C ⟨rfl,rfl⟩;have h:H s.heap.objs.size=J:=R.hok.fresh<|Bf _;have I1:Inv X pins I (AG H s.heap.objs.size<|Dq []) {s with heap:=s.heap.push {cls:=.type "dict",data:=.dict (T' [])} }:=
  R.laid (a:=s.heap.objs.size) (o:=Dq []) (t':=s.toks) (λ_ _ z=>Br _ z) (Bf _) #[FD _,beq_eq_false_iff_ne.mpr<|B2<|B9 R.big,List.nodup_nil,_,(T' []),0,Cc _ rfl,⟨rfl,rfl,rfl⟩,rfl,rfl,rfl]
 have c:PlainL (s.heap.push {cls:=.type "dict",data:=.dict (T' [])}) l us.toArray:=by
  obtain⟨o,n,e,i⟩:=v;exact#[o,n,Br _ e,i]
 have j:Shared.TypeIs {s with heap:=s.heap.push {cls:=.type "dict",data:=.dict (T' [])} } (.ref s.heap.objs.size) "dict":=#[_,Cc _ rfl,rfl];refine#[j,F.args_dict_init_2 _ _,?_];refine Al<|Al<|SQ j ?_;refine AN ?_;show wpAny _ _ (Builtin.Dict.updateFrom "dict.__init__" s.heap.objs.size (.ref l) [] .none) _ _ _
 refine Al<|LJ (T:="list") (by obtain⟨o,n,e,i,_⟩:=c;exact#[o,e,i]) ?_;refine Al<|ri c y λf B r=>?_;have t:=I1.kept (h':=f) (t':=B) r;have k:PlainL f l us.toArray:=by
  obtain⟨o,n,e,i⟩:=c;exact#[o,n,r _ _ e,i]
 refine Al<|Ju ?_;refine Al<|OJ k.isList ?_;have I3:=t.kept (h':=f.push {cls:=.type "list_iterator",data:=.fields (T' [.ref l,.int 0 0])}) (t':=B) λb o e=>Br _ e;have d:s.heap.objs.size<f.objs.size:=BC<|r _ _<|Cc _ rfl;have fp:F5 X pins H f.objs.size:=t.fpOk (Bf _) (by
  have:=t.hok.fresh (a:=f.objs.size) (Bf _);rw[Zm<|Hs d]at this;exact this)
 refine AN #[LN a7 _,?_];refine bc (A:=X.A.in1) (N:=N) (us:=us) (by show X.A.units+1+1<Aq;lia) y h fp (Hs d) (B9<|Ix g d) (B9 g) m vs us 0 _ [] [] kvs rfl Y G .nil I3 ⟨_,Cc _ rfl,rfl,rfl⟩ ?_ P λs' u I' pd=>?_
 ·exact k.isList.push _
 ·exact#[rfl,.ref s.heap.objs.size,_,I',rfl,q u _ h pd]
end
theorem rl:Ec "dict"=Z (.type "dict"):=by kernel_rfl
def HL(f:AB):VE->A0:=λa=>match f a with
 |some (.lst b)=>(GB [] b).map Zb
 |_=>J
section
variable{M:Fb}{e:Expr}{f:AB}{p:AD}
set_option tactic.hygienic true in
theorem rm(y:X.calm=J')(z:X.A.units+64<Aq)(B:Gl X "dict")(C:X.mg "dict"=J)(l:JE X e (tP X.K M H0 f))(t:AC [e] X.env=(O',Ap e X.env)::AC [] X.env:=by exact ZR rfl):JE X (.Call (.Name "dict" p) [e] [] pos) (Fm .d X.K M H0 (HL f)):=#[have l:=l.h;by
 intro g s i H Q W h;obtain⟨j,ys,R,c,q⟩:=h;unfold HL at c;split at c
 ·next m E=>
  obtain⟨n,G,c⟩:=B0.mp c;cases c;have F:=(Z3 l (A8) t) pos g s i H (λo k=>∃v,o=[v]/\Ah H k/\Aw X.K (Nf M j i) k (.lst m) v) W #[j,.lst m,R,E,λv k w r=>#[v,rfl,w,r]];refine Call_<|Hr W B C rl<|MJ (AT F λus w L=>?_) (by rw[t]) rfl;obtain⟨o,k,N,P,v,rfl,sm,r⟩:=L;obtain⟨u,rfl,T⟩:=ER P;obtain⟨a,ws,rfl,S,dl⟩:=r;cases T;refine rk y z N S dl G λtr b Y x=>?_;have:=LS sm Y x.flat q;rw[HJ x]at this;grind
 ·cases c]
theorem rn{K:Ao}(i:Nat){x:Ae}{a:AD}(b:NV X i x:=by exact EF):JS X (.Return (Z (.Name x a)) pos) (tS K M H0 λρ=>JJ (Hy ρ i)):=#[Yu rfl (λ_=>rfl) Su b]
end
section
variable{K:Ao}{M:Fb}
theorem ro{st:Az}:JS X st (tS K M H0 λ_=>.fail):=#[λa s b H D d ⟨c,R,q⟩=>BM q]
end
structure GC(K:Ao)(C:Ac):Prop where
 ga:findIn K (.ref C) "__getattribute__"=Z (Z (.builtin "BaseException.__getattribute__"))
 cl:findIn K (.ref C) "__class__"=Z (Z (.builtin "object.__class__"))
 gr:findIn K (.ref C) "__getattr__"=Z J
 bx:subIn K (.ref C) (.type "BaseException")=Z J'
 ob:subIn K (.ref C) (.type "object")=Z J'
 ty:typeIn K (.ref C)=Z (.type "type")
 is:∃cd,clsIn K C=Z cd
section
variable{prog:AM}{w:Ai}{A:Ag}{h:Ak}{g:Array GenState}{d:Drawn}{t:Nat}{os:OsState}{e:Ac}{K:Ao}
theorem rp(X:K.In h)(F:GC K C)(p:Fl e C h)(i:R (.ok (.ret (.ref C))) #[h,g,d,t,os]):codeAny (Af prog w) A (.call (.builtin "getset_descriptor.__get__") #[[.builtin "object.__class__",.ref e,.ref C],[]]) R ⟨h,g,d,t,os⟩:=by
 obtain⟨o,j,a,b,k⟩:=p;have c:=PySem.F.typeOf_object_class;have f:Looks (Af prog w) h (isSubtype (.ref C)<|.type<|".".intercalate ("object.__class__".cutAt '.').dropLast) J':=by rw[PySem.F.owner_object_class];exact looks_subIn X F.ob
 refine Td PySem.F.slot_gs_get.plain PySem.F.entry_gs_get<|PySem.F.slot_gs_get.check _ _ _ _ _ _ _ _ c (PySem.F.args_gs_get _ _ _) ?_;repeat(any_goals(first|assumption|(with_reducible refine Pz a ?_;rw[b])|(with_reducible refine Looks.at f ?_)|wp_step))
 refine#[Code.quiet_builtin _ (by decide +kernel),JC PySem.F.entry_object_class ?_];repeat(any_goals(first|assumption|(with_reducible refine Pz a ?_;rw[b])|wp_step))
theorem rq{a:Tok}{Q:Fin->Ab->Prop}(X:K.In h)(F:GC K C)(p:Fl e C h)(i:Q (.done (.ret (.ref C))) #[h,g,d,t,os]):wpAny (Af prog w) A (Fk.«object.__getattribute__» #[[.ref e,.str "__class__" a],[]]) Q E ⟨h,g,d,t,os⟩:=by
 obtain⟨o,j,b,c,k⟩:=id p;have f:Looks (Af prog w) h (typeLookup (.ref C) "__class__") _:=looks_findIn X F.cl;have l:=PySem.F.typeOf_object_class;have m:=PySem.F.slot_gs_get.lookup;have n:=PySem.F.slot_gs_set.lookup;repeat(any_goals(first|assumption|(with_reducible refine Pz b ?_;rw[c])|(with_reducible refine Looks.at f ?_)|wp_step))
 refine rp X F p ?_;repeat(any_goals(first|assumption|wp_step))
theorem rz{M:Model}{a:Aa}(X:K.In h)(F:GC K C)(p:Fl e C h)(b:Q () #[h,g,d,t,os]):wpAny M A (checkBuiltinCall "BaseException.__getattribute__" #[[.ref e,a],[]]) Q E ⟨h,g,d,t,os⟩:=by
 obtain⟨o,l,c,f,m⟩:=p;have i:builtinKind "BaseException.__getattribute__"=Z .slot:=by decide +kernel
 have j:splitId "BaseException.__getattribute__"=Z ("BaseException","__getattribute__"):=by decide +kernel
 have k:Looks M h (isSubtype (.ref C)<|.type "BaseException") J':=looks_subIn X F.bx;have n:=PySem.F.args_bexc_ga (.ref e) a;erw[checkBuiltinCall,i,j];refine Al ?_;unfold isInstance;repeat(first|(with_reducible refine Pz c ?_;rw[f])|(with_reducible refine Looks.at k ?_)|wp_step)
 exact b
theorem rA{a:Tok}(X:K.In h)(F:GC K C)(p:Fl e C h)(b:R (.ok (.ret (.ref C))) #[h,g,d,t,os]):codeAny (Af prog w) A (.call (.builtin "BaseException.__getattribute__") #[[.ref e,.str "__class__" a],[]]) R ⟨h,g,d,t,os⟩:=Td PySem.F.excAttr_ValueError.ga.plain PySem.F.entry_bexc_ga<|rz X F p<|rq X F p b
theorem rB{a:Tok}{Q:AL}(X:K.In h)(F:GC K C)(p:Fl e C h)(j:Q (.ref C) #[h,g,d,t,os]):wpAny (Af prog w) A (getAttrBy (.ref e) (.str "__class__" a) O') Q E ⟨h,g,d,t,os⟩:=by
 obtain⟨o,k,b,c,l⟩:=id p;have f:Looks (Af prog w) h (typeLookup (.ref C) "__getattribute__") _:=looks_findIn X F.ga;have L2:Looks (Af prog w) h (typeLookup (.ref C) "__getattr__") _:=looks_findIn X F.gr;have m:=PySem.F.excAttr_ValueError.ga.bind<|.ref e;have i:(Value.builtin "BaseException.__getattribute__"==Value.builtin "object.__getattribute__")=O':=by decide +kernel
 have n:(onTheHeap (Cj C)&&Value.builtin "BaseException.__getattribute__"==Value.builtin "object.__getattribute__")=O':=by rw[i];rfl
 repeat(any_goals(first|assumption|(with_reducible refine Pz b ?_;rw[c])|(with_reducible refine Looks.at f ?_)|(with_reducible refine Looks.at L2 ?_)|wp_step))
 refine rA X F p ?_;repeat(any_goals(first|assumption|wp_step))
theorem rC{s:Ab}{Q:O Aa->Ab->Prop}(X:K.In s.heap)(F:GC K C)(p:Fl e C s.heap)(a:Q (Z (.ref C)) {s with toks:=s.toks+1}):wpAny (Af prog w) A (getAttr? (.ref e) "__class__") Q E s:=by
 obtain⟨h,g,d,t,os⟩:=s;repeat(any_goals(first|assumption|with_reducible apply rB X F p|wp_step))
theorem rD(F:GC K C):KitX K (.ref e) (.ref C) (Fl e C) where
 ty:=λM h X p=>by
  obtain⟨o,l,d,f,m⟩:=p;intro A Q E s k q;exact Al<|wpAny_loadPart (k _ _ d)<|AN (by rw[f];exact q)
 it:=λM h X _=>by
  obtain⟨g,a⟩:=F.is;unfold clsIn at a;split at a
  ·rename_i b;intro A Q E s k q;unfold isType loadHead;exact Al<|wpAny_loadPart (k _ _<|X _ _ b)<|AN q
  ·cases a
 ne:=λh i r j n t X c=>by
  obtain⟨g,a⟩:=F.is;refine Bool.eq_false_iff.mpr λq=>?_;obtain rfl:C=i:=Value.ref.inj<|beq_iff_eq.mp q;unfold clsIn at a;split at a
  ·rename_i b;have z:=(X _ _ b).symm.trans c;cases z
  ·cases a
 ca:=λX p k=>rC X F p k
end
structure FS(B:Ak)(l:List Env)(e:Ac)(C fl:Aa)(h:Ak):Prop where
 stay:B.StaysIn h
 new:B.get? e=J
 fun_:h.FunFrames B l
 rcd:∃oe vs,h.get? e=Z oe/\oe.cls=C/\oe.data=.fields vs/\vs[2]?=Z .none/\(vs[1]?=Z .none\/∃T oT ts,vs[1]?=Z (.ref T)/\B.get? T=J/\T≠e/\h.get? T=Z oT/\oT.data=.fields ts/\ts[3]?=Z fl)
section
variable{M:Model}{A:Ag}{s:Ab}{B:Ak}{l outer:U Env}{env:Env}{e L:Ac}{C fl:Aa}
theorem FS.outs{h:Ak}(a:FS B (env::outer) e C fl h):FS B outer e C fl h:=#[a.stay,a.new,a.fun_.2.2,a.rcd]
theorem PB{h:Ak}{b x:Ac}{a:Obj}{ws:Array Aa}(c:h.get? b=Z o)(nf:∀vs,o.data≠.fields vs)(d:h.get? x=Z a)(e:a.data=.fields ws):b≠x:=by grind
theorem bf{head:Aa}{N:Bool}{j:Obj}{vs:Array Aa}(n:A.frames=Z (env::outer))(K:env.frame=Z L)(st:B.StaysIn s.heap)(nw:B.get? e=J)(k:s.heap.FunFrames B (env::outer))
  (l:s.heap.get? e=Z j) (T:j.cls=C) (f:j.data=.fields vs) (P:vs[2]?=Z .none) (hz:1<vs.size) (q:∀h',FS B (env::outer) e C (AV L) h'->s.heap.UpToSlots h'->Q () {s with heap:=h' }):
  wpAny M A (do let a <- frameOf env;let pl <- entryPlaceOf L N;let b <- EntryCells.newEntry head a .none (AV L) .none pl;setField (.ref e) 1 b) Q E s:=by
 have Y:e∉(env::outer).filterMap (·.frame):=λp=>by
  obtain⟨_,o,g,z⟩:=k.mem p
  rw[l]at g;cases g;exact z vs f
 refine Al (wpAny_frameOf_fun n k K λc sg=>Al (wpAny_entryPlaceOf λw r=>?_))
 unfold EntryCells.newEntry newFields;refine Al (Jv ?_ (r.sizeOk5 _ _ _ _ _))
 have x:c.get? e=Z j:=(sg.2.1 e Y).trans l
 have G:B.StaysIn c:=λb o z=>(sg.2.1 b λp=>by rw[(k.mem p).1]at z;cases z).trans (st b o z)
 generalize g:({cls:=.type "traceback",dict:=J,data:=.fields ([head,.ref L,.none,AV L,.none]++(if w.isEmpty then Dx 6 GP else w)).toArray}:Obj)=i
 have t:∃m,i.data=.fields m/\m[3]?=Z (AV L):=by subst g;exact#[_,rfl,by simp]
 have u:i.isFreed=O':=by subst g;rfl
 obtain⟨m,td,t3⟩:=t
 have H:=Br (h:=c) i x
 refine Ny H f hz (q _ ?_ ?_)
 all_goals
  have R:=Md f (·.setIfInBounds 1 (Cj c.objs.size))
  have e3:=LK (Obj.mapFields (·.setIfInBounds 1 (Cj c.objs.size))) H (Te R)
  have ne:c.objs.size≠e:=Hs (BC x)
  have kp:∀b o,b≠e->c.get? b=Z o->((c.push i).update e (Obj.mapFields (·.setIfInBounds 1 (Cj c.objs.size)))).get? b=Z o:=λb o z d=>by
   rw[LL _ _ (B2 z)];exact Br _ d
 ·refine#[λb o z=>kp b o (λy=>by rw[y,nw]at z;cases z) (G b o z),nw,k.of_keeps λb o d nf=>?_,_,_,e3,(Obj.cls_mapFields _ _).trans T,R,by rw[Array.getElem?_setIfInBounds_ne (by ext)];exact P,.inr #[c.objs.size,i,m,by simp[hz],G.fresh,ne,?_,td,t3]]
  ·obtain⟨F,v⟩:=sg.2.2 b o d
   exact#[_,kp b _ (PB d nf l f) v,rfl]
  ·rw[LL _ _ (B2 ne)];exact Cc c u
 ·intro b o d nf
  obtain⟨F,v⟩:=sg.2.2 b o d
  exact#[F,kp b _ (PB d nf l f) v]
theorem bg{T:Ac}{g h:Obj}{i:Array Aa}{v:Aa}(st:B.StaysIn s.heap)(m:s.heap.FunFrames B l)(n:s.heap.get? e=Z h)(p:B.get? T=J)(ne:T≠e)(f:s.heap.get? T=Z g)(c:g.data=.fields i)(hz:3<i.size) (q:∀h',B.StaysIn h'->h'.FunFrames B l->h'.get? e=Z h->(∃j k,h'.get? T=Z j/\j.data=.fields k/\k[3]?=Z v)->s.heap.UpToSlots h'->Q () {s with heap:=h' }):wpAny M A (setField (.ref T) 3 v) Q E s:=by
 refine Ny f c hz ?_;have a:∀b,b≠T->(s.heap.update T<|Obj.mapFields (·.setIfInBounds 3 v)).get? b=s.heap.get? b:=λb z=>LL _ _<|B2 z;refine q _ (λb o z=>(a b λy=>by rw[y,p]at z;cases z).trans (st b o z)) (m.of_keeps λb o d nf=>#[o,(a b<|PB d nf f c).trans d,rfl]) ((a e<|B2 ne).trans n)
  #[_,_,LK _ f<|Te<|Md c _,Md c _,by simp[hz]] λb o d nf=>#[o.slots,(a b<|PB d nf f c).trans d]
theorem bh(b:A.frames=Z (env::outer))(g:env.frame=Z L)(a:FS B (env::outer) e C .none s.heap)(q:∀h',FS B (env::outer) e C (AV L) h'->s.heap.UpToSlots h'->Q () {s with heap:=h' }):wpAny M A (noteFrame (.ref e) env) Q E s:=by
 obtain⟨st,nw,k,v,w,c,d,f,l,r⟩:=a;unfold noteFrame;erw[g];rcases r with r|⟨T,x,y,r,p,ne,m,n,o⟩
 ·refine Al<|Ev c f r ?_;rw[if_neg (by ext)];exact bf b g st nw k c d f l (Tf.mp r).1 q
 ·refine Al<|Ev c f r ?_;rw[if_pos (show(Cj T != GP)=J' by simp)];refine Al<|Ev m n o ?_;rw[if_neg (show ¬ (GP==AV L)=J' by simp[AV])];exact Al<|bg st k c p ne m n (Tf.mp o).1 λh' h i j _ u=>bf (s:={s with heap:=h' }) b g h nw i j d f l (Tf.mp r).1 λd a t=>q d a (u.trans t)
theorem Tg(a:FS B l e C fl s.heap)(q:∀h',FS B l e C .none h'->s.heap.UpToSlots h'->Q () {s with heap:=h' }):wpAny M A (setFlight (.ref e) J) Q E s:=by
 obtain⟨st,nw,h,i,j,b,k,c,m,r⟩:=a;unfold setFlight;rcases r with r|⟨T,G,H,r,n,ne,o,p,t⟩
 ·refine Al<|Ev b c r ?_;rw[if_neg (by ext)];exact AN<|q s.heap ⟨st,nw,h,i,j,b,k,c,m,.inl r⟩<|.refl _
 ·refine Al<|Ev b c r ?_;rw[if_pos (show(Cj T != GP)=J' by simp)];exact bg st h b n ne o p (Tf.mp t).1 λh' d f g ⟨v,w,x,y,z⟩ u=>q h' #[d,nw,f,i,j,g,k,c,m,.inr #[T,v,w,r,n,ne,x,y,z]] u
theorem rE(b:A.frames=Z (env::outer))(c:env.frame=Z L)(a:FS B (env::outer) e C .none s.heap)(q:∀h',FS B outer e C .none h'->s.heap.UpToSlots h'->Q () {s with heap:=h' }):wpAny M A (leaving env (.ref e)) Q E s:=by
 exact Al<|bh b c a λd f g=>Tg f λh i j=>q h i.outs<|g.trans j
theorem _root_.L2.AY.ob{P:AM}{w:Ai}{H:Hp}{h:Ak}{x:Ac}{o:HO}(z:AY P w H h x o):∃ob,h.get? x=Z ob:=by
 cases o with
 |lst a=>obtain⟨_,_,_,_,q⟩:=z;exact#[_,q]
 |tup a=>obtain⟨_,_,_,ob,q,_⟩:=z;exact#[_,q]
 |dct c d=>obtain⟨_,_,_,ob,_,_,q,_⟩:=z;exact#[_,q]
 |ins D e b=>obtain⟨_,_,_,q,_⟩:=z;exact#[_,q]
 |own y=>exact z
 |xd b=>obtain⟨_,⟨_,_,_,q,_⟩,_⟩:=z;exact#[_,q]
 |rng lo g=>obtain⟨_,_,_,q⟩:=z;exact#[_,q]
 |frz ob u=>exact#[_,z.1]
 |tbl i=>exact#[_,z]
 |met f y=>exact#[_,z]
 |ext j=>exact z.2.1
def bi(P:AM)(w:Ai)(l:U Env)(H H':Hp)(s:Ak)(e C:Ac)(h:Ak):Prop:=
 Ah H H'/\Un (Ck l) [] H H' s h/\∃B,Cb P w H' B/\(∀b o,s.get? b=Z o->H b=J->b∉Ck l->B.get? b=Z o)/\FS B l e (.ref C) .none h
def JY(P:AM)(w:Ai):DZ:=λouter H s E e b=>∃a C c,e=.ref a/\b.os=s.os/\AllBare b.gens/\bi P w outer H c s.heap a C b.heap/\E (.ref C) J c
def KV(Y:Cx)(b:AQ)(I:St)(H:Hp)(C:Ac)(e:Aa)(s':Ab):Prop:=
 ∃a c f d,e=.ref a/\Inv Y b I c d/\Ah H c/\s'.os=d.os/\AllBare s'.gens/\bi Y.prog Y.w Y.stack c f d.heap a C s'.heap
theorem KV.from{b:AQ}{d:Hp}{C:Ac}{v:Aa}(sm:Ah H d)(t:KV Y b I d C v s'):KV Y b I H C v s':=by
 obtain⟨a,e,f,g,h,i,c,r⟩:=t;exact#[a,e,f,g,h,i,sm.trans c,r]
theorem bj{fs:U Ac}{l:U Env}{m:Hp}{s q h:Ak}{P:AM}{w:Ai}{C:Aa}(d:Un fs [] H m s q)(p:Un (Ck l) [] m H' q h)(y:Cb P w H' B)(k:∀b o,q.get? b=Z o->m b=J->b∉Ck l->B.get? b=Z o) (A:∀b o,s.get? b=Z o->H b=J->b∈Ck l->b∈fs) (sm:Ah m H') (a:FS B l e C fl h) (st:B.StaysIn h') (E:h.UpToSlots h'):Un fs [] H H' s h':=by
 have nx:∀b:Ac,b∉([]:U Ac):=λb=>by simp
 have fr:∀b o,q.get? b=Z o->m b=J->b∈Ck l->∃r,h'.get? b=Z {o with slots:=r}:=λb o z n f=>by
  obtain⟨r,c⟩:=p.any z n<|nx b;obtain⟨_,t,g,nf⟩:=a.fun_.mem f;rw[c]at g;cases g;obtain⟨i,F⟩:=E b _ c nf;simp_all
 refine#[λb o z n f _=>?_,λb o z n f _=>?_,λb o z n _=>?_,λb o z _=>?_,λb v z=>p.tups b v<|d.tups b v z,λb o u z=>p.frzs b o u<|d.frzs b o u z,λb G z=>?_]
 ·exact st b o<|k b o (d.keep b o z n f<|nx b) (d.free b o z n<|nx b) λj=>f<|A b o z n j
 ·obtain⟨r,c⟩:=d.slot b o z n f<|nx b;by_cases j:b∈Ck l
  ·obtain⟨i,g⟩:=fr b _ c (d.free b o z n<|nx b) j;exact⟨i,g⟩
  ·exact#[r,st b _<|k b _ c (d.free b o z n<|nx b) j]
 ·obtain⟨t,c⟩:=d.there b o z<|nx b;exact p.free b t c (d.free b o z n<|nx b)<|nx b
 ·obtain⟨x,c⟩:=d.there b o z<|nx b;cases f:m b with
  |none=>
   by_cases j:b∈Ck l
   ·obtain⟨i,g⟩:=fr b x c f j;exact#[_,g]
   ·exact#[x,st b _<|k b _ c f j]
  |some u=>
   obtain⟨K,g⟩:=(y b u<|sm b u f).ob;exact⟨K,st b _ g⟩
 ·obtain⟨m1,c⟩:=d.tbls b G z;obtain⟨m2,g⟩:=p.tbls b _ c;grind [Array.append_assoc]
theorem rF{P:AM}{w:Ai}{h:Ak}{fs:U Ac}(a:Cb P w H h)(nf:∀b∈fs,H b=J):Cb P w H (hideAll h fs):=λx o z=>(a x o z).stay (λb u c q=>hideAll_get _ q λd=>by
  grind) (λ_ q=>q) λ_ _ q=>q
theorem rG{a:AQ}{s:Ab}{D x:Ac}{vs:U Aa}(l:Inv Y a I H s)(m:Heap.MadeExcOf s.heap h' x (.ref D) vs):KV Y a I H D (.ref x) {s with heap:=h' }:=by
 have e:=l.stack;have c:∀env∈Y.stack,∀b,env.frame=Z b->b∈Y.stack.filterMap (·.frame):=by grind
 have f:(hideAll s.heap<|Ck Y.stack).get? x=J:=by
  cases q:(hideAll s.heap<|Ck Y.stack).get? x with
  |none=>rfl
  |some o=>have:=of_hideAll _ q;simp[m.new]at this
 have d:=funFrames_hide e c;obtain⟨i,g,j,k⟩:=m.there;exact#[x,H,H,s,rfl,l,Ah.refl H,rfl,l.bare,Ah.refl H,Un.kept m.keeps,hideAll s.heap<|Ck Y.stack,rF l.hok l.stkFree,λb o z n h=>hideAll_get _ z h,#[λb o z=>m.keeps b o<|of_hideAll _ z,f,d.of_keeps λb o z _=>#[o,m.keeps b o z,rfl],_,_,g,rfl,rfl,rfl,.inl rfl]]
theorem rH{e:AQ}{D:Ac}{v:Aa}{m:XK}(ys:Y.stack=Y.env::Y.outer)(h:Y.env.frame=Z Y.env.locals)(p:Y.ex=[])(f:Ah Y.H₀ H)(t:KV Y e I H D v s')(s:∀H',Ah Y.H₀ H'->m (.ref D) J H'):wpAny M Y.A (leaving Y.env v) (λ_ i=>JY Y.prog Y.w Y.outer Y.H₀ Y.s₀ m v i) E s':=by
 obtain⟨x,l,H',L,rfl,F,sm,os,C,a,u,B,q,j,c⟩:=t;have g:=F.ok.frames;rw[ys]at c u j g;refine rE g h c λN r G=>#[x,D,H',rfl,os.trans F.os,C,#[(f.trans sm).trans a,?_,B,q,λb o z n d=>?_,r],s H'<|(f.trans sm).trans a]
 ·have b0:=F.base;rw[p]at b0;refine bj b0 u q j (λb o z n d=>?_) a c r.stay G;rcases Bo.mp (show b∈Y.env.locals::Ck Y.outer by unfold Ck at d ⊢;rw[OC,h]at d;exact d)with y|y
  ·exact absurd (y ▸ BC z)<|Nat.not_lt.mpr F.ok.above
  ·exact y
 ·have b0:=F.base;rw[p]at b0;refine j b o (b0.keep b o z n d (by simp)) (b0.free b o z n (by simp)) λk=>?_;rcases Bo.mp (show b∈Y.env.locals::Ck Y.outer by unfold Ck at k ⊢;rw[OC,h]at k;exact k)with y|y
  ·exact absurd (y ▸ BC z)<|Nat.not_lt.mpr F.ok.above
  ·exact d y
end
noncomputable abbrev Cx.hand(Y:Cx)(x:Ac):Cx:={Y with A:=Y.A.mark (Z (.ref x)),calm:=O'}
section
variable{H2:Hp}{s s2:Ab}{x D G:Ac}{fl f0:Aa}{B h:Ak}
theorem Inv.hand(a:Inv Y pins I H s)(x:Ac):Inv (Y.hand x) pins I H s:=#[#[a.ok.mod,a.ok.kind,a.ok.glob,a.ok.blt,a.ok.above,a.ok.inj,a.ok.has,a.ok.cab,(λz=>nomatch z),a.ok.frames,a.ok.stk,a.ok.exf,a.ok.bs,a.ok.bsz,a.ok.noex,a.ok.exfs,a.ok.funs,a.ok.frf],a.os,a.bare,a.base,a.loc,a.cell,a.free,a.freeC,a.pin,a.hok,a.len]
theorem Inv.back(ok:Y.Ok)(a:Inv (Y.hand x) pins I H s):Inv Y pins I H s:=#[ok,a.os,a.bare,a.base,a.loc,a.cell,a.free,a.freeC,a.pin,a.hok,a.len]
theorem bn(R:Inv Y pins I H2 s2)(os:s'.os=s2.os)(H:AllBare s'.gens)(sm:Ah H2 H')(u:Un (Ck Y.stack) [] H2 H' s2.heap h)(l:Cb Y.prog Y.w H' B)(A:∀b o,s2.heap.get? b=Z o->H2 b=J->b∉Ck Y.stack->B.get? b=Z o) (p:FS B Y.stack x (.ref D) f0 h) (a:FS B Y.stack x (.ref D) fl h') (F:h.UpToSlots h'):H2 x=J/\Ah H2 (AG H' x (.ext (Fl x D)))/\Inv Y pins I (AG H' x (.ext (Fl x D))) {s' with heap:=h' }:=by
 have g:H' x=J:=by
  cases q:H' x with
  |none=>rfl
  |some o=>obtain⟨ob,z⟩:=(l x o q).ob;simp[a.new]at z
 have L:s2.heap.get? x=J:=by
  cases q:s2.heap.get? x with|none=>rfl|some o=>
   cases C:H2 x with|some M=>rw[sm x M C]at g;cases g|none=>
    by_cases E:x∈Ck Y.stack
    ·obtain⟨_,o3,i,nf⟩:=p.fun_.mem E;obtain⟨r,s,j,_,t,_⟩:=p.rcd;rw[j]at i;cases i;exact absurd t<|nf s
    ·have:=A x o q C E;rw[a.new]at this;cases this
 have d:=bj (Un.refl (fs:=Ck Y.stack)) u l A (λ_ _ _ _ z=>z) sm p a.stay F;have f:∀b o,H' b=Z o->(AG H' x<|.ext<|Fl x D) b=Z o:=λb o q=>by rw[Zm<|ZW q g];exact q
 refine#[sm.free g,λb o q=>f b o<|sm b o q,R.call' (s':={s' with heap:=h' }) (ch:=[]) os #[d.keep,d.slot,λb o z n N=>?_,d.there,λb G z=>f b _ (d.tups b G z),λb o v z=>f b _ (d.frzs b o v z),λb K z=>?_] (λb v q=>?_) H (λb z=>absurd z (by simp))]
 ·rw[Zm (λy=>by rw[y,L]at z;cases z)];exact d.free b o z n N
 ·obtain⟨m,q⟩:=d.tbls b K z;exact#[m,f b _ q]
 ·by_cases e:b=x
  ·subst e;rw[ZH]at q;cases q;obtain⟨r,s,j,t,i,Q,_⟩:=a.rcd;exact#[#[r,s,j,t,i,Q],#[r,j],λh1 h2 ⟨o,T,P,y2⟩ k=>#[o,T,k o P,y2]]
  ·rw[Zm e]at q;exact(l b v q).stay (λc o _ z=>a.stay c o z) (λc z=>f c _ z) λc G z=>f c _ z
theorem Inv.gone{h:Bx}{k:Nat}(A:Inv Y pins I H s)(l:h'.Ns Y.env.locals h)(a:DP Y.env.locals s.heap h'):Inv Y pins (Dx Y.N.length J) H {s with heap:=h',toks:=k}:=by
 have lt:∀b o,Y.s₀.heap.get? b=Z o->b≠Y.env.locals:=λb o z=>B9<|B6 (BC z) A.ok.above;refine⟨A.ok,A.os,A.bare,⟨λb o z n f e=>(a.2 b<|lt b o z).trans<|A.base.keep b o z n f e,λb o z n f e=>?_,A.base.free,λb o z e=>?_,A.base.tups,A.base.frzs,A.base.tbls⟩,⟨h,l,λi y v x g _=>?_⟩,λy c z=>?_,A.free,A.freeC,λp m=>?_,λb v q=>?_,by simp⟩
 ·obtain⟨r,q⟩:=A.base.slot b o z n f e;exact#[r,(a.2 b<|lt b o z).trans q]
 ·obtain⟨t,q⟩:=A.base.there b o z e;exact#[t,(a.2 b<|lt b o z).trans q]
 ·rw[Jq]at g;split at g<;>cases g
 ·obtain⟨w,q⟩:=A.cell y c z;exact#[w,q.sameBut a<|A.cne y c z]
 ·obtain⟨z,n,ne,nf,u⟩:=A.pin p m;exact#[(a.2 p.1 ne).trans z,n,ne,nf,u]
 ·refine(A.hok b v q).stay (λc o d z=>(a.2 c λy=>?_).trans z) (λ_ z=>z) λ_ _ z=>z;have j:=A.free;rcases d with d|d
  ·rw[d]at y;simp[y,j]at q
  ·simp[y,j]at d
theorem rJ{i:Nat}{h n:Ae}{np:AD}{b0:Az}{a:U Az}{AH:U ExceptHandler}{v:Aa}{Q:Flow->Ab->Prop}{Q':VK}(ys:Y.stack=Y.env::Y.outer)(yf:Y.env.frame=Z Y.env.locals)(t:KV Y pins I H D v s')
  (hm:Y.mg h=Z (.ref G)) (hg:Gl Y h) (hx:exmOne Y.K (.ref D) (.ref G)=Z J') (hN:Y.N.Nodup) (hi:Y.N[i]?=Z n) (m:Y.env.scope.names.lookup n=Z .local)
  (k:∀x o j,H x=J->Ah H o->Inv (Y.hand x) pins (I.set i (Z (.ref x))) o j->o x=Z (.ext (Fl x D)) ->
   wpAny (Af Y.prog Y.w) (Y.A.mark (Z (.ref x))) (execs (b0::a) Y.env) (λf s4=>∃u vv b H',f=.ret u/\Inv (Y.hand x) pins b H' s4/\RelV vv u/\Q' vv H') (λ_ _=>False) j)
  (fin:∀u vv b H' M,Inv Y pins b H' M->RelV vv u->Q' vv H'->Q (.ret u) M) (hd:Cs h:=by ext):
  wpAny (Af Y.prog Y.w) Y.A (noteFrame v Y.env) (λ_ s2=>wpAny (Af Y.prog Y.w) Y.A (setFlight v J) (λ_ j=>wpAny (Af Y.prog Y.w) Y.A (handleBy v Y.env (.ExceptHandler (Z (.Name h np)) (Z n) (b0::a) pos::AH)) Q E j) E s2) E s':=by
 obtain⟨x,H2,H',s2,rfl,S,e,os,P,sm,u,B,T,R,d⟩:=t
 have g:=S.ok.frames
 have c:=d
 rw[ys]at g c
 refine bh g yf c λh4 a4 p=>Tg a4 λh5 l r=>?_
 rw[<- ys]at l
 have up:=p.trans r
 obtain⟨_,sm5,I5⟩:=bn S os P sm u T R d l up
 obtain⟨oe,vs,e1,e2,e3,_⟩:=id l.rcd
 have LT:Looks (Af Y.prog Y.w) h5 (typeOf (.ref x)) (.ref D):=λA' Q' E' s' kk q=>by
  unfold typeOf;exact Al (wpAny_loadPart (kk _ _ e1) (AN (by rw[e2];exact q)))
 refine wpAny_handleBy_cons (codeAny_handlers_test ?_) (by intro q;cases q)
 refine MD (I5.hand x) hg hm ?_ hd
 refine(exm_one I5.kIn LT hx).here ?_
 refine codeAny_handlers_suite_as (Tg (s:={s' with heap:=h5}) l λh6 a6 y=>?_)
 obtain⟨C,F,I6⟩:=bn (s':=s') S os P sm u T R d a6 (up.trans y)
 refine Rz (X:=Y.hand x) (I6.hand x) hN hi (.inl m) (v:=.ref x) rfl (λs7 I7=>?_) (.inr m)
 refine EN (k x _ s7 (e.free C) (e.trans F) I7 ZH) (λf s8 hf=>?_) λ_ _ z=>z.elim
 obtain⟨uu,vv,b,H8,rfl,I8,rv,q⟩:=hf
 obtain⟨m8,n8,_⟩:=id I8.loc
 refine wpAny_nameGoes m n8 (by rw[S.ok.kind];rfl) λh9 m9 n9 L=>?_
 exact fin uu vv _ H8 _ ((I8.back S.ok).gone n9 L) rv q
end
def EY(Y:Cx)(a:AQ)(I:St)(H:Hp)(c:Ae)(e:Aa)(s':Ab):Prop:=∃D,nsIn Y.K BU c=Z (Z (.ref D))/\KV Y a I H D e s'
def KW(Y:Cx):Prop:=∀e s,¬ Y.xe e s
theorem EY.from{a:AQ}{b:Hp}{c:Ae}{v:Aa}(sm:Ah H b)(t:EY Y a I b c v s'):EY Y a I H c v s':=by
 obtain⟨D,e,t⟩:=t;exact#[D,e,t.from sm]
structure XT(Y:Cx)(K:Ao)(M:Fb)(H0:Hp)(st:Az)(h:VE->Option Ae):Prop where
 h:∀pins s I H ρ c,Inv Y pins I H s->Bh K M H0 ρ I H->h ρ=Z c->wpAny (Af Y.prog Y.w) Y.A (exec st Y.env) (λ_ _=>False) (EY Y pins I H c) s
structure XS(Y:Cx)(K:Ao)(M:Fb)(H0:Hp)(st:Az)(h:VE->Option Ae):Prop where
 h:∀pins s I H ρ c,Inv Y pins I H s->Bh K M H0 ρ I H->h ρ=Z c->wpAny (Af Y.prog Y.w) Y.A (exec st Y.env) (λ_ _=>False) (λe s'=>∃σ' H1,Ah H0 H1/\EY Y pins σ' H1 c e s') s
section
variable{K:Ao}{a b:U Az}
@[simp] def D7(t:O Bool)(a b:O Ae):O Ae:=match t with
  |some J'=>a
  |some O'=>b
  |none=>J
structure Ti(K:Ao)(D:Ac):Prop where
 ex:∃nm q N bs bm hdct sn sub ab col dd k0 k1 k2 k3 k5,K.lookup D=Z (excClassObj nm q D N bs bm hdct sn sub ab col dd k0 k1 k2 k3 k5 "ValueError.__new__")/\tailIn K [.type "ValueError",.type "Exception",.type "BaseException",.type "object"] bm=J'/\nsOkIn K N=J'/\nsIn K N "__init__"=Z J
end
section
variable{K:Ao}{M:Fb}{x:Ac}
def rK(K:Ao):U V->Hp->VK->Prop:=λe H Q=>∃a C d c b,e=[.ref a,d]/\(∀u,RelV d u->u=c)/\H a=Z (.ext (Fl a C))/\GC K C/\kitOne K (.ref C) c=Z b/\Q (.bl b) H
theorem rL:ED Y (.builtin "isinstance") (rK Y.K):=by
 intro d s k H l m Q p r h;obtain⟨a,C,n,c,b,rfl,f,g,F,e,q⟩:=h;obtain⟨u,v,rfl,i,j⟩:=MN r;cases i;cases f v j;exact kia_one (rD F) p.kIn (show AY Y.prog Y.w H s.heap a (.ext<|Fl a C)from p.hok a _ g).1 e (λz=>nomatch z) λo=>#[.bl b,H,p.tok _,rfl,q]
@[simp] noncomputable def Gj(i:Nat)(a:U Ae)(f:Ae->Bool)(ρ:VE):O D:=match ρ[i]? with
  |some (.exc c)=>if a.contains c=J' then Z (.bl (f c))else J
  |_=>J
set_option tactic.hygienic true in
theorem bo{b:Expr}{e:V}{g:Aa}{n m:Ae}{j p:AD}(i:Nat)(v:U Ae)(f:Ae->Bool)(x:Y.K=K)(y:Y.N[i]?=Z n)(k:Lv Y.env.scope n)(A:PE Y b (tC e))(B:∀u,RelV e u->u=g) (E:∀c C,v.contains c=J'->nsIn K BU c=Z (Z (.ref C))->GC K C/\kitOne K (.ref C) g=Z (f c)) (G:Gl Y m) (X:Y.mg m=J) (P:Ec m=Z (.builtin "isinstance")) (L:m≠"__name__":=by ext) (l:Cs m:=by ext) (hd:Cs n:=by ext) (o:(n==("__classdict__":Ae))=O':=by ext) (w:AC [.Name n j,b] Y.env=(O',Ap (.Name n j) Y.env)::AC [b] Y.env:=by exact ZR rfl) (r:AC [b] Y.env=(O',Ap b Y.env)::AC [] Y.env:=by exact ZR rfl) (s:(Au pos (AC [b] Y.env)).any (·.1)=O':=by rfl):JE Y (.Call (.Name m p) [.Name n j,b] [] pos) (tD K M H0 (Gj i v f)):=#[(XO rL G X P (Z3 (RD y k hd o) (Z3 A A8 r) w) L l w s).mono λI H Q h=>by
 subst x;obtain⟨ρ,d,R,z,q⟩:=h;unfold Gj at z;split at z
 ·next c S=>
  obtain⟨t,z⟩:=ZV z;cases z;obtain⟨a,C,T,W,e3⟩:=R.slot i _ S;obtain⟨F,kk⟩:=E c C t W;exact#[.ref a,Fp T,a,C,e,g,f c,rfl,B,e3,F,kk,q _ H (Ah.refl H) (by erw[As])]
 ·cases z]
end
theorem Me:KW X.nox:=λ_ _ z=>z
abbrev rM:U Aa:=[.type "ValueError",.type "Exception",.type "BaseException",.type "object"]
noncomputable def Gk(t c:Ae):Bool:=c==t||t=="CubeError"||t=="ValueError"
section
variable{K:Ao}{D G:Ac}{b:Bool}{cd:ClassData}
theorem mk_of{nm q:Ae}{N:Ac}{bs a:U Aa}{hdct:Bool}{sn:U Ae}{sub:U Aa}{ab:Bool}{col:O Bool}{k0 k1 k2 k3 k5:O Aa} (l:K.lookup D=Z (excClassObj nm q D N bs a hdct sn sub ab col dd k0 k1 k2 k3 k5 "ValueError.__new__")) (e:excIn K D rM "ValueError.__new__"=J'):Ti K D:=by
 unfold excIn at e;rw[l]at e;change (((((_&&_)&&_)&&_)&&_)&&_)=J' at e;erw[CM,beq_iff_eq,Nz]at e;exact#[nm,q,N,bs,a,hdct,sn,sub,ab,col,dd,k0,k1,k2,k3,k5,l,e.1.1.2,e.1.2,e.2]
theorem bp{t:Aa}(z:clsIn K G=Z cd)(y:typeIn K (.ref G)=Z (.type "type"))(s:subIn K t (.ref G)=Z b):kitCls K t (.ref G)=Z b:=by
 unfold kitCls;simp_all
theorem kit_ne(ne:(Cj C==Cj G)=O')(z:clsIn K G=Z cd)(y:typeIn K (.ref G)=Z (.type "type"))(s:subIn K (.ref C) (.ref G)=Z b):kitOne K (.ref C) (.ref G)=Z b:=by
 unfold kitOne;grind [bp]
theorem kit_self:kitOne K (.ref C) (.ref C)=Z J':=by
 unfold kitOne;simp_all
theorem kit_V(s:subIn K (.ref C) (.type "ValueError")=Z b):kitOne K (.ref C) (.type "ValueError")=Z b:=by
 unfold kitOne;rw[if_neg (λq=>by cases(show(Cj C=Value.type "ValueError")from beq_iff_eq.mp q))];unfold kitCls;dsimp only;rw[if_pos (by decide +kernel)];exact s
theorem exm_of(x:subIn K (.ref G) (.type "BaseException")=Z J')(z:clsIn K G=Z cd)(y:typeIn K (.ref G)=Z (.type "type"))(s:subIn K (.ref C) (.ref G)=Z J'):exmOne K (.ref C) (.ref G)=Z J':=by
 unfold exmOne;grind [bp]
end
end L2
namespace L2
open PySem PySem.Spec PyProof.Rows
def br(i j:Int):Prop:=0<j/\j<2^100
instance (i j:Int):Decidable (br i j):=by unfold br;exact inferInstance
open PySem.W
def Ex(h:Ak)(d:Ac)(es:Array GR)(ep:Nat):Prop:=∃o,h.get? d=Z o/\o.ExactDict/\o.data=.dict es ep
section
variable{prog:AM}{w:Ai}{A:Ag}{s:Ab}{d it:Ac}{es:Array GR}{ep i:Nat}
theorem Ex.type(x:Ex s.heap d es ep):s.TypeIs (.ref d) "dict":=by
 obtain⟨o,a,b,_⟩:=x;exact#[o,a,b.1]
theorem Ex.at{h:Ak}(x:Ex h d es ep)(k:∀o,h.get? d=Z o->h'.get? d=Z o):Ex h' d es ep:=by
 obtain⟨o,a,b⟩:=x;exact#[o,k o a,b]
theorem bu{Q:AL}(hd:(d==GS)=O')(a:Ex s.heap d es ep) (e:Q (.ref s.heap.objs.size) {s with heap:=s.heap.push {cls:=.type "dict_keyiterator",data:=.fields (T' [.ref d,.int 0 0,.int es.size 0,.int ep 0])} }):wpAny (Af prog w) A (pyIter (.ref d)) Q E s:=by
 have ty:=a.type;obtain⟨o,b,f,c⟩:=a;refine wpAny_pyIter_slot ty PySem.F.slot_dict_iter<|Kr PySem.F.slot_dict_iter ty PySem.F.entry_dict_iter ?_<|PySem.F.args_dict_iter_1 _;unfold Fk.«dict.__iter__» Builtin.Dict.dictSlotNone;refine Al<|Al<|SQ ty ?_;refine(AN ?_:wpAny _ _ (AA<|Cj d) _ _ s);show wpAny _ _ (Builtin.Dict.showsAll d >>= _) _ _ s
 unfold Builtin.Dict.showsAll;rw[if_neg (by rw[hd];exact MA)];refine Al<|AN<|Al<|Nm b c<|Al<|wpAny_dictEpoch b c ?_;refine Al<|Jv<|AN ⟨_,rfl,"dict_keyiterator",_,⟨_,Cc _ rfl,rfl⟩,PySem.F.slot_dict_keyiterator_next.lookup,?_⟩;simpa[AV]using e
theorem PF{Q:O Aa->Ab->Prop}(g:s.heap.IsKeyIter it d i es.size ep)(r:Ex s.heap d es ep)(q:∀(c:i<es.size) h',h'.IsKeyIter it d (i+1) es.size ep->DP it s.heap h'->Q (Z es[i].key) {s with heap:=h' }) (h:es.size<=i->A.handled=J/\∀h',Heap.ExtBut it s.heap h'->Q J {s with heap:=h' }):wpAny (Af prog w) A (pyNext (.ref it)) Q E s:=by
 have ty:=g.typeIs;obtain⟨p,f,t,e⟩:=g;obtain⟨o,j,u,k⟩:=r;unfold pyNext;refine Al<|wpAny_attempt<|LI ty rN<|Kr rN ty PySem.F.entry_dict_keyiterator_next ?_<|PySem.F.args_dict_keyiterator_next_1 _;refine Al<|AN<|Al<|Al ?_;refine Al<|bv ty<|AN ?_;refine Al<|wpAny_fieldsOf f e ?_;erw[show Builtin.Dict_items.ownsTuple "dict_keyiterator"=O' by ext,F9,if_false];refine Al<|AN<|Al<|Nm j k ?_;rw[if_neg (by simp)];refine Al<|AN<|Al<|wpAny_dictEpoch j k ?_;rw[if_neg (by simp)];refine AN ?_;by_cases c:i<es.size
 ·erw[show ¬ ((i:Int)<0)from by lia,if_false,GD,Array.getElem?_eq_getElem c];refine Al ?_;first|refine Al (bv ty<|AN ?_)|refine Al (wpAny_typeNameOf_keyiter ty<|AN ?_)
  refine Al<|wpAny_isOneOf_keyiter ty ?_;show wpAny _ _ (setField (.ref it) 1 (AV<|(i:Int)+1) >>= _) _ _ s
  refine Al<|Ny f e (by simp) ?_;have n:(s.heap.update it<|Obj.mapFields (·.setIfInBounds 1 (AV<|(i:Int)+1))).IsKeyIter it d (i+1) es.size ep:=#[_,LK _ f<|Te<|Md e _,(Obj.cls_mapFields ..).trans t,by rw[Md e];simp[AV]];refine Al<|FC<|Al<|wpAny_isOneOf_keyiter (s:={s with heap:=s.heap.update it (Obj.mapFields (·.setIfInBounds 1 (AV ((i:Int)+1))))}) n.typeIs ?_;exact AN<|AN ⟨_,rfl,AN<|q c _ n<|JU ..⟩
 ·erw[show ¬ ((i:Int)<0)from by lia,if_false,GD,Array.getElem?_eq_none<|Kw c];refine Al ?_;first|refine Al (bv ty<|AN ?_)|refine Al (wpAny_typeNameOf_keyiter ty<|AN ?_)
  show wpAny _ _ (setField (.ref it) 0 .none >>= _) _ _ s
  refine Al<|Ny f e (by simp) ?_;refine Al ?_;refine Al<|Jv ?_ (by size_fits);refine Al (m:=firstArgMember _ _) (wpAny_of_eq (a:=GP) (by first|rfl|(erw[firstArgMember];rfl)) ?_);refine Jv ?_ (by size_fits);refine Al<|wpAny_handled ?_;rw[show A.in1.handled=J from(h<|Kw c).1];refine Al<|AN<|wpAny_throw ?_;refine Al<|wpAny_isInstance (T:="StopIteration") (b:=J') #[_,Cc _ rfl,rfl] isSubtype_stop ?_;exact AN<|(h<|Kw c).2 _<|(Heap.ExtBut.push (Heap.SameBut.extBut<|JU ..) _).push _
theorem rO(n:A.handled=J)(q:Ac)(f:d≠q):Walks prog w A q [q,d] [q] es.size (λi v=>∃e,es[i]?=Z e/\v=e.key) (λi h=>h.IsKeyIter q d i es.size ep/\Ex h d es ep) where
 sub:=λb a=>by simp at a;simp[a]
 frame:=λ_ _ _ st k=>#[st.1.at λo e=>k q (by simp) o e,st.2.at λo e=>k d (by simp) o e];item:=λi s Q E l st c=>PF st.1 st.2 (λ_ g p m=>c _ g s.toks #[es[i],Array.getElem?_eq_getElem l,rfl] #[p,st.2.at λo e=>m.extBut _ _ f e] λb o a e=>m.extBut b o (λh=>a (by simp[h])) e) λz=>absurd l<|Nat.not_lt.mpr z;done:=λs Q E st c=>PF st.1 st.2 (λz=>absurd z<|Hq _) λ_=>#[n,λg j=>c g s.toks λb o a e=>j b o (λh=>a (by simp[h])) e];self:=λ_ _ _ _ st c=>wpAny_pyIter_keyiter st.1 c
theorem bw(lo:(d==GS)=O'):KdlSrc prog w "dict" d d es.size (λi v=>∃e,es[i]?=Z e/\v=e.key) (λh=>Ex h d es ep) where
 type:=λ_ a=>a.type;there:=λ_ a=>by obtain⟨o,b,_⟩:=a;exact#[BC b,BC b]
 keep:=λ_ _ a f=>a.at λo e=>f d (.inl rfl) o e;notList:=by ext
 notTuple:=by ext
 hint:=λ_ _ _ _ a c=>kdl_hint_dict a.type c;iter:=λ_ s g a=>#[_,_,(λ_ _ c=>bu lo a c),rO g _ (by obtain⟨o,b,_⟩:=a;exact B9<|BC b),⟨⟨_,Cc _ rfl,rfl,rfl⟩,a.at λo e=>Br _ e⟩]
end
theorem Tj{w:Ai}:∀{tr:U T3}{es:U GR},Kk w (tr.map (·.1)) (DS tr) es->An (tr.map λt=>t.2.1) (es.map λe=>e.key):=by
 intro tr;induction tr with
 |nil=>
  intro es h;obtain⟨_,rfl⟩:=h;exact .nil
 |cons t r b=>
  intro es h;obtain⟨kv,v,k,e,l,a,c,d,_,_,_,f⟩:=h;erw[DS,Pq]at a;obtain⟨g,i,j⟩:=a;subst c g i j;exact .cons d<|b f
section
theorem bz{es:Array GR}{acc:Array Aa}(h:ItemsOf (λi v=>∃e,es[i]?=Z e/\v=e.key) acc es.size):acc.toList=es.toList.map λe=>e.key:=by
 refine JM λi=>?_;cases a:acc[i]? with
 |some v=>
  obtain⟨e,c,d⟩:=h.2 i v a;simp_all
 |none=>
  have b:acc.size<=i:=by grind
  have f:=Array.getElem?_eq_none_iff.mpr (by rw[<- h.1];exact b);grind
theorem rP(j:X.calm=J'):ED X (.type "list") (λxs H Q=>∃a tr,xs=[.ref a]/\Cf X.K H a tr/\∀l,H l=J->Q (.ref l) (AG H l (.lst (tr.map λt=>t.2.1)))):=by
 intro e s F H xs L Q M r h;obtain⟨a,tr,rfl,hd,q⟩:=h;obtain⟨u,rfl,k⟩:=ER r;cases k;obtain⟨z,m,nd,o,d,f,n,p,v,x⟩:=hd.1.ok M.hok;have g:=Tj x;have y:tr.length=d.size:=by have:=g.length;simpa using this
 have i:tr.length<=Ax:=by simpa using z
 refine kdl_call (bw m) (M.ok.hd j) #[o,n,p,v] (by rw[<- y];exact i) λA B b C kp E G=>?_;have c:=bz G;refine#[.ref s.heap.objs.size,_,M.laid (t':=B) kp (Bf _) (show AY X.prog X.w _ A _ (.lst<|tr.map λt=>t.2.1)from#[by simpa using i,b.toList,C,by rw[c];exact g,by simpa using E]),rfl,q _<|M.hok.fresh<|Bf _]
end
def KY:U D->A0
 |[.lst b .d]=>(Ek b).map λa=>a.map λp=>kD p.1
 |_=>J
@[simp] theorem bA(kvs:Bw):KY [.lst (Zb kvs) .d]=Z (kvs.map λp=>kD p.1):=by simp[KY]
section
variable{K:Ao}{N:Fb}
theorem PD.kden{tr:U T3}(h:PD K N H kvs tr):Ad K N H (kvs.map λp=>kD p.1) (tr.map λt=>t.2.1):=by
 induction h with
 |nil=>exact Ad.nil
 |cons h _ a=>exact Ad.cons h.2.1 a
set_option tactic.hygienic true in
theorem rQ:O2 K (λxs H Q=>∃a tr,xs=[.ref a]/\Cf K H a tr/\∀l,H l=J->Q (.ref l) (AG H l (.lst (tr.map λt=>t.2.1)))) KY:=by
 intro N H k m xs Q n h e q;unfold KY at e;split at e
 ·next o=>
  obtain⟨c,d,e⟩:=B0.mp e;cases e;obtain⟨v,rfl,b⟩:=Paired.one' h;rw[Gi d]at b;obtain⟨p,s,rfl,r,hd⟩:=b;obtain⟨tr,g,i⟩:=IH r hd;exact#[p,tr,rfl,g,λl j=>q _ l j i.kden]
 ·cases e
end
section
variable{prog:AM}{w:Ai}{A:Ag}{s:Ab}{T:String}{r d:Ac}{n:Nat}{P:Nat->Aa->Prop}{OK:Ak->Prop}
theorem rR{Q:U Aa->Ab->Prop}(K:KdlSrc prog w T r d n P OK)(t:A.handled=J)(hok:OK s.heap)(u:n<=Ax) (v:∀h' g acc,(∀b o,s.heap.get? b=Z o->h'.get? b=Z o)->ItemsOf P acc n->Q acc.toList {s with heap:=h',toks:=g}):wpAny (Af prog w) A (collect (.ref r)) Q E s:=by
 obtain⟨x,ld⟩:=K.there _ hok;refine Al<|wpAny_runValue<|JC F.entry_proto_collect ?_;refine Al<|Jv ?_;refine AN ⟨LN F.plain_list_iadd _,JC F.entry_list_iadd ?_⟩;have y:(s.heap.push {cls:=.type "list",data:=.seq ([]:U Aa).toArray}).get? s.heap.objs.size=Z {cls:=.type "list",data:=.seq (T' []) 0}:=Cc _ rfl;have i:∀j,(∃h' g acc l,j={s with heap:=h',toks:=g}/\(∀b o,s.heap.get? b=Z o->h'.get? b=Z o)/\h'.get? s.heap.objs.size=Z {cls:=.type "list",dict:=J,data:=.seq acc l,slots:=(T' [])}/\ItemsOf P acc n)->wpAny (Af prog w) A (match Cj s.heap.objs.size with
   |Cj a=>do
    match(<- load a).data with
     |Data.seq z _=>AA z.toList
     |_=>unsupported "internal:collect"
   |_=>unsupported "internal:collect") Q E j:=by
  rintro j ⟨h',g,acc,l,rfl,m,k,p⟩;refine Al<|wpAny_load k ?_;refine AN ?_;exact v h' g acc m p
 refine EN (kdl_extend (R:=λr j=>r=.ok (.ret<|.ref s.heap.objs.size)/\∃h' g acc l,j={s with heap:=h',toks:=g}/\(∀b o,s.heap.get? b=Z o->h'.get? b=Z o)/\h'.get? s.heap.objs.size=Z {cls:=.type "list",dict:=J,data:=.seq acc l,slots:=(T' [])}/\ItemsOf P acc n) (s:={s with heap:=s.heap.push {cls:=.type "list",data:=.seq ([]:U Aa).toArray} }) K t (K.keep _ _ hok λb _ o e=>Br _ e) s.heap.objs.size (Hs x) (Hs ld) _ 0 y (λh' g acc l m k p=>#[rfl,h',g,acc,l,rfl,λb o e=>m b o (B9 (BC e)) (Br _ e),k,p]) u) (λfin j h=>?_) (λe j h=>?_)
 ·cases fin with
  |done f=>
   obtain⟨e,h⟩:=h;cases e;exact i j h
  |again c=>
   refine#[h.1,LB h.2 λr q B=>?_];obtain⟨rfl,h⟩:=B;exact i q h
 ·exact nomatch h.1
end
end L2
namespace L2
open PySem PySem.Spec PyProof.Rows
def bB:Nat->(U Aa->Prop)->Prop
 |0,P=>P []
 |n+1,P=>∀a,bB n λl=>P (a::l)
theorem bC{n:Nat}{P:U Aa->Prop}(h:bB n P)(us:U Aa)(e:us.length=n):P us:=by
 induction us generalizing n P with
 |nil=>cases e;exact h
 |cons a r b=>cases e;exact b (h a) rfl
structure DI(K:Ao)(mg:Bx)(nm:Ae)(st:Az)(ps:List Ae)(a:Ac)(fd:Cd):Prop where
 m:mg nm=Z (.ref a)
 F:Jy K nm nm st a fd
 b:Binds K fd ps []
theorem di{K:Ao}{mg:Bx}{h:Ak}{nm:Ae}{st:Az}{i:U Ae}{m:Aa}{n e:O Ac}{j:Array (O Aa)}{f d g b ct:Aa}(X:K.In h)(G:h.Ns BU mg) (A:PySem.W.nsIn K BU nm=Z (Z (.ref a))) (l:K.lookup a=Z #[m,n,.func (Js nm nm (Hw st) (ZI st) (Zf st) .none f d g e b ct),j]) (c:PySem.W.codeIn K b nm=J') (k:Im K (.ref a)=J') (o:∀(f d g:Aa) (e:O Ac) (b ct:Aa) (us:U Aa),us.length=i.length->bindArgs (Js nm nm (Hw st) (ZI st) (Zf st) .none f d g e b ct) #[us,[]]=AA (i.zip us):=by
   exact λ_ _ _ _ _ _=>bC (by(repeat intro _);rfl)):DI K mg nm st i a (Js nm nm (Hw st) (ZI st) (Zf st) .none f d g e b ct):=#[PySem.W.mg_of X G A,X6 l c k,.all<|o f d g e b ct]
theorem Mf{N P:U Ae}{a:Scope}(b:a.kind=.function:=by rfl)(c:a.isCoroutine=O':=by rfl)(d:a.isGenerator=O':=by rfl)(e:N.Nodup:=by decide +kernel)(f:N.take P.length=P:=by rfl) (g:∀x∈P,a.names.lookup x=Z .local\/a.names.lookup x=Z .cell:=by decide +kernel) (h:∀y∈a.names,y.2≠.free:=by decide +kernel):EE N P a:=#[b,c,d,e,f,g,h]
section
variable{K:Ao}{M:Fb}{k n:Nat}{fn:Ac}{fd:Cd}{x nm:Ae}{st:Az}{F:U Sl->O Rv}{e a b:Expr}{p:AD}{f g:AB}
theorem rS(G:AR X.prog X.w X.K X.mg X.base Bm k fn fd ps (A1 K F))(a:AI n X.A)(D:DI X.K X.mg x st ps fn fd)(c:JA X (e::es) (CW K M H0 fa))(d:k<=n:=by ext)(f:Gl X x:=by rfl)(hz:CA X x e es pos:=by exact FM):JE X (.Call (.Name x p) (e::es) [] pos) (tD K M H0 (Zi F fa)):=n0 G (a.mono d) f D.m D.F.kp D.b Iu c hz
theorem rT(G:AR X.prog X.w X.K X.mg X.base Bm k fn fd ps (A1 K F))(a:AI n X.A)(D:DI X.K X.mg x st ps fn fd)(c:JA X (e::es) (CW K M H0 fa))(d:k<=n:=by ext)(f:Gl X x:=by rfl)(hz:CA X x e es pos:=by exact FM):JE X (.Call (.Name x p) (e::es) [] pos) (tF K M H0 (Fn F fa)):=og G (a.mono d) f D.m D.F.kp D.b Iu c hz
theorem rV(i:Nat){y:Ae}{p vp:AD}(a:X.mg "len"=J)(b:NV X i y:=by exact EF)(c:Gl X "len":=by rfl)(hz:CA X "len" (.Name y vp) [] pos:=by exact FM):JE X (.Call (.Name "len" p) [.Name y vp] [] pos) (tD X.K M H0 (Zk Zr λρ=>Zh (Co ρ i) (Z []))):=GA Xx YW c a rfl<|O0 (SI i b) Sq
theorem rW(i:Nat){y t:Ae}{n:String}{p vp b:AD}(c:X.mg "isinstance"=J)(d:X.mg t=J)(e:Ec t=Z (.type n):=by rfl)(f:t≠"__name__":=by ext)(hd:Cs t:=by ext)(g:NV X i y:=by exact EF)(h:Gl X "isinstance":=by rfl)(a:Gl X t:=by rfl)(hz:CA X "isinstance" (.Name y vp) [.Name t b] pos:=by exact FM):JE X (.Call (.Name "isinstance" p) [.Name y vp,.Name t b] [] pos) (tD X.K M H0 (Zk CN λρ=>Zh (Co ρ i) (Zh (CL (Z (.ty n))) (Z [])))):=GA ac ae h c rfl<|O0 (SI i g)<|O0 (Yo<|af a d e f hd) Sq
theorem rX {i j pos}:JE X (.Constant (.int i) j pos) (tP K M H0 λ_=>Z (.int i)):=Yj Yk
theorem rY(c:JE X a (tP X.K M H0 f))(d:JE X b (tP X.K M H0 g))(e:MR b:=by exact λ_ _=>rfl):JE X (.Subscript a b pos) (tD X.K M H0 (Za Ar f g)):=pw c d e
theorem rZ(i:Nat){x:Ae}(a:X.N.Nodup)(b:X.N[i]?=Z x:=by rfl)(c:Loc X.env.scope x:=by first|exact .inl rfl|exact .inr rfl)(d:X.fn x=J'\/X.env.scope.names.lookup x=Z .local:=by first|exact .inl rfl|exact .inr rfl|assumption):JG X (.Name x pos) (tG K M H0 [i] (Zc i)):=oA a b c d
theorem r0(i:Nat){x:Ae}{a:AD}(b:X.N.Nodup)(c:JE X e (tD K M H0 f))(d:X.N[i]?=Z x:=by rfl)(g:Loc X.env.scope x:=by first|exact .inl rfl|exact .inr rfl)(h:Ef e (Z (.Name x a)) pos.line X.env=AA O':=by rfl) (j:X.fn x=J'\/X.env.scope.names.lookup x=Z .local:=by first|exact .inl rfl|exact .inr rfl|assumption):JS X (.Assign [.Name x a] e pos) (tS K M H0 λρ=>Z0 i (f ρ) ρ):=ou b d g c h j
theorem r6{P:AM}{w:Ai}{mg:Bx}{base:Ak}{N:U Ae}{g c:Ay}(D:DI K mg nm st ps fn fd)(S:EE N ps (Zf st)) (d:∀(a:Aa) (A:Ag) (outer:U Env) (s:Ab) (H:Hp) (E:XK) (M:Fb) (H0:Hp),AI k (A.deeper (A3 nm (Zf st) s.heap.objs.size fn a))->JB (Df Bm P w K mg base N nm (Zf st) fn a A outer s H E).nox (ZI st) (tS K M H0 c)) (e:c=g:=by rfl) (b:ps.length<=N.length:=by ext):AR P w K mg base Bm (k+1) fn fd ps (A1 K (AO ps.length N.length g)):=YA D.F S b<|e ▸ d
end
open PySem.W
abbrev ME(X:Cx)(o:Expr)(m:Ae)(es:U Expr)(pl:Sem Bool)(apos pos:AD):Prop:=Ap (.Call (.Attribute o m apos) es [] pos) X.env=(do
 let b <- Ap o X.env
 standAt apos.atName
 let(f,a) <- Ee [b] (getMethod b m pl)
 callWith pos f a (Au pos (AC es X.env)) (F7 pos (F8 [] X.env)))
theorem JZ{K:Ao}{c:Ae}(h:nsIn K BU c=Z (Z (.ref C))):OY K c=C:=by grind [OY]
@[simp] noncomputable def Dc(c f:Ae):D->O D
  |.lst a (.i ns b)=>if b=c then(ns.zip a).lookup f else J
  |_=>J
section
variable{K:Ao}{N:Fb}
theorem bD{f:Ae}{d:D}:∀{ns:U Ae}{xs:U D}{vs:U V},Ad K N H xs vs->(ns.zip xs).lookup f=Z d->∃v,(ns.zip vs).lookup f=Z v/\As K N H d v
 |[],_,_,_,e=>by simp at e
 |_::_,[],_,_,e=>by simp at e
 |n::ns,x::xs,vs,h,e=>by
  obtain⟨v,r,rfl,q,t⟩:=h;erw[Kx,List.lookup_cons]at e ⊢;cases a:f==n with
  |true=>rw[a]at e;cases e;exact#[v,rfl,q]
  |false=>rw[a]at e;exact bD t e
theorem NA{m:Ae}:∀{ns:U Ae}{vs:U V},ns.contains m=O'->(ns.zip vs).lookup m=J
 |[],_,_=>by simp
 |_::_,[],_=>by simp
 |n::ns,v::vs,h=>by
  erw[List.contains_cons,Bool.or_eq_false_iff]at h;erw[Kx,List.lookup_cons,h.1];exact NA h.2
@[simp] noncomputable def Fu(c m:Ae):Sl->Bool
  |.val (.lst _ (.i ns a))=>decide (a=c)&&!ns.contains m
  |.lent _ (.i ns a)=>decide (a=c)&&!ns.contains m
  |_=>O'
theorem r9{c m:Ae}{s:Sl}{v:V}(h:Fu c m s=J')(b:CG K N H s v):∃a d fs,v=.ref a/\Rd H a (.ins (OY K c) d fs)/\fs.lookup m=J:=by
 unfold Fu at h;split at h
 ·erw[CM,decide_eq_true_eq,Nz]at h;obtain⟨rfl,h⟩:=h;obtain⟨a,f,e,q,_⟩:=b;rcases q with⟨_,q⟩|⟨g,z,_⟩
  ·exact#[a,_,_,e,q,NA h]
  ·cases z
 ·erw[CM,decide_eq_true_eq,Nz]at h;obtain⟨rfl,h⟩:=h;obtain⟨a,f,e,_,q,_⟩:=b;exact#[a,_,_,e,q,NA h]
 ·cases h
theorem sd{r:Rv}{v:V}(c:∀a,N a->H a≠J)(h:Ew K N H H' r v):As K N H' (CY r) v:=by
 cases r with|val d=>exact h|own l m=>
  obtain⟨a,f,e,g,i,j⟩:=h;exact#[a,f,e,.of (λn=>c a n g) i,j.nw λb k=>.inl<|.inl k]
end
@[simp] def DL(c m:Ae)(F:U Sl->O Rv)(o:O Sl)(a:O (U Sl)):O Rv:=o.bind λs=>if Fu c m s=J' then a.bind λb=>F (s::b)else J
section
variable{K:Ao}{M:Fb}{e o:Expr}{f go:AB}{F:U Sl->O Rv}{k:Nat}{fn:Ac}{fd:Cd}{c m:Ae}{E:XK}
theorem se{f:Ae}(j:nsIn X.K BU c=Z (Z (.ref C)))(k:ES X.K C)(l:BF X.K C f)(m:JE X o (tP X.K M H0 go))(n:F6 o f X.env (Ap o X.env)=Ap o X.env:=by rfl):JE X (.Attribute o f pos) (tD X.K M H0 λρ=>(go ρ).bind (Dc c f)):=#[(XA m.h n).mono λB H Q p=>by
   obtain⟨ρ,d,R,e,q⟩:=p;obtain⟨E,t,b⟩:=B4.mp e;unfold Dc at b;split at b
   ·split at b
    ·next g=>
     subst g;refine#[ρ,_,R,t,λv w s x=>?_];obtain⟨a,G,y,i,r⟩:=x;obtain⟨u,z,A⟩:=bD r b;erw[CO,JZ j]at i;exact#[a,C,_,_,u,y,i,k,l,z,q u w s A]
    ·cases b
   ·cases b]
theorem sf(j:nsIn K BU c=Z (Z (.ref C))){r:Rv}{Q:VK}(R:Bh K M H0 ρ I H)(e:DL c m F (fo ρ) (fa ρ)=Z r)(q:∀v b H',Ah H b->Ah b H'->Ew K (Nf M ρ I) b H' r v->Q v H'):Kp C m (A1 K F) [] E (Gz K M H0 fo) (CW K M H0 fa) I H Q:=by
 obtain⟨s,k,e⟩:=B4.mp e;obtain⟨l,e⟩:=ZV e;obtain⟨g,n,o⟩:=B4.mp e;refine#[ρ,s,R,k,λv b d h=>?_];obtain⟨a,p,t,u,i,x⟩:=r9 l h;rw[JZ j]at i;refine#[a,p,t,u,i,x,ρ,g,R.st d,n,λy z f A=>?_];exact#[Nf M ρ I,s::g,r,((R.st d).st f).nh,#[v,y++[],rfl,h.same f,by rw[D0];exact A],o,λw B G L=>q w z B (d.trans f) G L]
theorem sh{Q:U V->Hp->Prop}(h:CW K M H0 (λ_=>Z []) I H Q):MO I H Q:=by
 obtain⟨a,b,R,e,q⟩:=h;cases e;exact q [] H (Ah.refl H) rfl
theorem si{Q:VK}(h:Kp C m sp [] E (Gz K M H0 fo) (CW K M H0 λ_=>Z []) I H Q):Kp C m sp [] E (Gz K M H0 fo) MO I H Q:=by
 obtain⟨b,d,R,e,q⟩:=h;refine#[b,d,R,e,λv c s f=>?_];obtain⟨a,g,i,j,k,l,t⟩:=q v c s f;exact#[a,g,i,j,k,l,sh t]
theorem bE(b:nsIn K BU c=Z (Z (.ref C))){Q:VK}(h:tD K M H0 (λρ=>(DL c m F (fo ρ) (fa ρ)).map CY) I H Q):Kp C m (A1 K F) [] E (Gz K M H0 fo) (CW K M H0 fa) I H Q:=by
 obtain⟨ρ,d,R,e,q⟩:=h;obtain⟨r,f,rfl⟩:=B0.mp e;exact sf b R f λv j g a i h=>q v g (a.trans i)<|sd (R.st a).nh h
section
variable(hC:nsIn X.K BU c=Z (Z (.ref C)))(cl:ES X.K C)(hm:Jp X.K C m fn)(G:AR X.prog X.w X.K X.mg X.base CX k fn fd ps (A1 X.K F))(hr:AI k X.A)(hb:Binds X.K fd ps [])(hx:Fh CX X E)(ho:JE X o (Gz X.K M H0 fo))
include hC cl hm G hr hb hx ho
theorem sj(d:JA X (e::es) (CW X.K M H0 fa)) (a:AC (e::es) X.env=(O',Ap e X.env)::AC es X.env:=by exact ZR rfl) (b:(Au pos (AC es X.env)).any (·.1)=O':=by rfl) (f:ME X o m (e::es) pl apos pos:=by rfl):JE X (.Call (.Attribute o m apos) (e::es) [] pos) (tD X.K M H0 λρ=>(DL c m F (fo ρ) (fa ρ)).map CY):=#[(XD ho.h cl hm G hr hb .nil hx d.h a b f).mono λ_ _ _ h=>bE hC h]
theorem sk (a:ME X o m [] pl apos pos:=by rfl):JE X (.Call (.Attribute o m apos) [] [] pos) (tD X.K M H0 λρ=>(DL c m F (fo ρ) (Z [])).map CY):=#[(XE ho.h cl hm G hr hb .nil hx a).mono λ_ _ _ h=>si<|bE hC h]
end
end
def so(H:Hp)(x:Ac):Hp:=λb=>if b=x then J else H b
structure sr(K:Ao)(N:Fb)(a:Ac)(H H':Hp)(ys:List D)(b:Kd)(d:D)(v:V):Prop where
 sm:Ah (so H a) H'
 at_:∃ws,H' a=Z (CO K b a ys ws)/\Ad K N H' ys ws
 de:As K N H' d v
abbrev RB:=U D×Kd×D
def bF(K:Ao)(N:Fb)(a:Ac)(H:Hp):Sl->V->Prop
 |.val d,v=>As K N H d v
 |.lent e b,v=>∃c f,v=.ref c/\(N c/\c≠a)/\Rd H c (CO K b c e f)/\Ad K N H e f
 |_,_=>False
def ss(K:Ao)(F:U Sl->Sl->U Sl->O RB):Sp:=λk H Q _=>∃N a g h d e f b i r,k=d++.ref a::e/\(∀c,N c->H c≠J)/\N a/\H a=Z (CO K b a f i)/\Ad K N H f i/\Paired (bF K N a H) g d/\Paired (bF K N a H) h e /\
 F g (.own f b (Z a)) h=Z r/\∀v j,sr K N a H j r.1 r.2.1 r.2.2 v->Q v j
section
variable{b:Kd}
theorem KZ{a b:Type}{F:a->b->Prop}{l:U a}{m:U b}(h:Paired F l m):l.length=m.length:=h.length
theorem bG{a b:Type}{F:a->b->Prop}{x:a}:∀{l:U a}{m:U b}{i:Nat},Paired F l m->l[i]?=Z x->∃y,m[i]?=Z y/\F x y
 |_,_,0,.cons h _,e=>by cases e;exact#[_,rfl,h]
 |_,_,i+1,.cons _ t,e=>by simpa using bG t (by simpa using e)
end
section
variable{K:Ao}{F:U Sl->Sl->U Sl->O RB}{n:Nat}{fn:Ac}{fd:Cd}{c m:Ae}{E:XK}
section
variable(hC:nsIn X.K BU c=Z (Z (.ref C)))(cl:ES X.K C)(hm:Jp X.K C m fn)(G:AR X.prog X.w X.K X.mg X.base CX n fn fd ps (ss X.K F))(hr:AI n X.A)(hb:Binds X.K fd ps [])(hx:Fh CX X E)
include hC cl hm G hr hb hx
end
end
@[simp] noncomputable def putN(f:Ae):U Ae->U Ae
  |[]=>[f]
  |n::ns=>if n=f then n::ns else n::putN f ns
@[simp] noncomputable def D8{a:Type}(f:Ae)(y:a):U Ae->U a->U a
  |n::ns,x::b=>if n=f then y::b else x::D8 f y ns b
  |_,_=>[y]
theorem bH{f:Ae}{y:V}:∀{ns:U Ae}{vs:U V},ns.length=vs.length->E4 f y (ns.zip vs)=(putN f ns).zip (D8 f y ns vs)
 |[],[],_=>rfl
 |n::ns,v::vs,h=>by
  erw[Kx,E4,putN,D8];by_cases e:n=f
  ·rw[if_pos e,if_pos e,if_pos e];rfl
  ·rw[if_neg e,if_neg e,if_neg e,bH (by simpa using h)];rfl
mutual
/-- no list,no instance within -/
def GF:D->Bool
 |.lst _ _=>O'
 |.tup a=>PH a
 |.non=>J'
 |.bl _=>J'
 |.int _=>J'
 |.str _=>J'
 |.ty _=>J'
def PH:U D->Bool
 |[]=>J'
 |x::a=>GF x&&PH a
end
mutual
theorem As.free{K:Ao}{N f:Fb}{H:Hp}:∀(d:D)(v:V),GF d=J'->As K N H d v->As K f H d v
 |.non,_,_,h=>by simpa only[As]using h
 |.bl _,_,_,h=>by simpa only[As]using h
 |.int _,_,_,h=>by simpa only[As]using h
 |.str _,_,_,h=>by simpa only[As]using h
 |.ty _,_,_,h=>by simpa only[As]using h
 |.tup g,v,b,h=>by
  erw[GF]at b
  erw[As]at h ⊢
  obtain⟨a,c,e,q,r⟩:=h
  exact#[a,c,e,q,Ad.free g c b r]
 |.lst _ _,_,b,_=>by erw[GF]at b;cases b
theorem Ad.free{K:Ao}{N b:Fb}{H:Hp}:∀(xs:U D)(vs:U V),PH xs=J'->Ad K N H xs vs->Ad K b H xs vs
 |[],_,_,h=>by simpa only[Ad]using h
 |x::xs,vs,a,h=>by
  erw[PH,CM]at a
  erw[Ad]at h ⊢
  obtain⟨v,r,e,q,t⟩:=h
  exact#[v,r,e,As.free x v a.1 q,Ad.free xs r a.2 t]
end
def M3(M:Fb)(a:Ac)(bs:U Ac):Fb:=λx=>M x\/x=a\/x∈bs
@[simp] def su:Sl->Bool
  |_=>O'
@[simp] def K1(ρ:VE):Bool:=ρ.all λs=>!su s
open AutoSeq1 (wpAny_loadPart')
open PySem.MeetsSeq in
theorem sv(l:Ac)(items:Array Aa)(n:Nat)(x:Aa)(e:Aa->Bool)(j:Nat)(q:j<items.size)(v:e items[j]=J')(f:items.size<=Ax)(k:Nat):∀i:Nat,j-i=k->i<=j->(∀m (r:m<items.size),i<=m->m<j->e items[m]=O')->Meets (Fk.«list.remove.loop» #[[.ref l,x,AV i],[]]) (λA R s=>s.heap.get? l=Z {cls:=.type "list",dict:=J,data:=.seq items n,slots:=(T' [])}/\(∀y,y∈items->SeqAt.EqAt A.in1 s y x (e y))/\R (.ok (.ret .none)) {s with heap:=s.heap.update l (FH λxs=>xs.eraseIdxIfInBounds j)}):=by
 induction k with
 |zero=>
  intro i z p a prog w A R s h;obtain⟨B,g,d,C,os⟩:=s;obtain⟨c,o,h⟩:=h;have E:i=j:=by lia
  subst E;wp_walk using ET c;rw[show items[((i:Nat):Int).toNat]?=Z items[i] by simp[q]];refine Al<|o _ (Array.getElem_mem q) prog w _ _ ?_;have t:(items.eraseIdxIfInBounds i).size<=Ax+1:=BZ (size_erased items _)<|Nat.le_succ_of_le f;wp_walk using(wpAny_updateSeq c rfl (_hz':=t)),ET c;simpa using h
 |succ k G=>
  intro i z p a prog w A R s h;obtain⟨B,g,d,C,os⟩:=s;obtain⟨c,o,h⟩:=h;have b:i<items.size:=by lia
  wp_walk using ET c;rw[show items[((i:Nat):Int).toNat]?=Z items[i] by simp[b]];refine Al<|o _ (Array.getElem_mem b) prog w _ _ ?_;rw[a i b (Bf _) (by lia)];wp_walk;exact⟨LN plain_remove_loop _,JC entry_remove_loop (by
   exact G (i+1) (by lia) (by lia) (λm r u H=>a m r (by lia) H) prog w A R _ ⟨c,o,h⟩)⟩
open PySem.MeetsSeq in
theorem sw(l:Ac)(items:Array Aa)(n:Nat)(x:Aa)(e:Aa->Bool)(j:Nat)(k:j<items.size)(a:e items[j]=J')(b:∀m (f:m<items.size),m<j->e items[m]=O')(c:items.size<=Ax):Meets (Fk.«list.remove» #[[.ref l,x],[]]) (λA R s=>s.heap.get? l=Z {cls:=.type "list",dict:=J,data:=.seq items n,slots:=(T' [])}/\(∀y,y∈items->SeqAt.EqAt A.in1 s y x (e y))/\R (.ok (.ret .none)) {s with heap:=s.heap.update l (FH λxs=>xs.eraseIdxIfInBounds j)}):=by
 intro prog w A R s h;obtain⟨q,g,d,r,os⟩:=s;obtain⟨i,o,h⟩:=h;wp_walk using ET i;exact#[LN plain_remove_loop _,JC entry_remove_loop (by
  exact sv l items n x e j k a c _ 0 rfl (FD _) (λm f _ p=>b m f p) prog w A R _ #[i,o,h])]
def sx(K:Ao):V->U V->Hp->VK->Prop:=λx c H Q=>∃l a y N d b j,x=.ref l/\c=[y]/\H l=Z (.lst a)/\Ad K N H b a/\Aw K N H d y/\A7 ZT d=J'/\b.all (A7 ZT)=J'/\b.findIdx? (λz=>AF z d)=Z j/\Q .non (AG H l (.lst (a.eraseIdx j)))
section
variable{K:Ao}{M:Fb}{e:Expr}{f:AB}{i:Nat}{x:Ae}
theorem sy(hu:X.A.units+64<Aq):RZ X "list.remove" (sx X.K):=by
 intro L s I H x vs v us Q T S Y h;obtain⟨l,xs,y,N,d,M,j,rfl,rfl,R,hd,hy,od,c,hj,q⟩:=h;cases S;obtain⟨u,rfl,ru⟩:=Y.one;obtain⟨z,a,n,r,hl,e⟩:=T.lstM R;obtain⟨i,k,o⟩:=List.findIdx?_eq_some_iff_getElem.mp hj;have hln:=hd.length;have f:∀m (t:m<a.toArray.size) (b:m<M.length),Gg X.K N H d a.toArray[m]=AF M[m] d:=λm t b=>by
  obtain⟨w,B,dw⟩:=hd.get (CK b)
  obtain⟨w',C,E⟩:=r.get B
  have:a.toArray[m]=w':=by
   rw[List.getElem_toArray];exact(C8.mp C).2
  rw[this]
  exact SD T dw.p E (D4.mp c _ (Hb b))
 have G:X.A.in1.units+ZT<Aq:=by rw[Nd];unfold ZT;lia
 have g:j<a.toArray.size:=by rw[BV];lia
 refine call_meets F.slot_list_remove #[_,e,rfl] F.entry_list_remove (F.args_list_remove_2 _ _)
  (sw l a.toArray n u (Gg X.K N H d) j g (by rw[f j g i];exact k) (λm t P=>by rw[f m t (by lia)];simpa using o m P) (by rw[BV];lia)) #[e,λw B=>SF T G od hy ru hd r c w (by simpa using B),?_]
 refine#[.non,_,T.lset (its':=a.eraseIdx j) R e ?_ (r.eraseIdx j) ?_,rfl,q]
 ·rw[List.eraseIdxIfInBounds_toArray]
 ·have:=X5 xs j
  lia
theorem Ad.erase{N:Fb}(h:Ad K N H xs vs)(j:Nat):Ad K N H (xs.eraseIdx j) (vs.eraseIdx j):=by
 rw[List.eraseIdx_eq_take_drop_succ,List.eraseIdx_eq_take_drop_succ];exact(h.take j).append<|h.drop<|j+1
end
end L2
namespace L2
open PySem PySem.Spec PyProof.Rows PySem.W
noncomputable def bI(lo a:O Int)(st:Int)(n:Nat):U Nat:=sliceRange (Iq lo a (Z st) n).1 (Iq lo a (Z st) n).2.1 (Iq lo a (Z st) n).2.2
def DT{a:Type}(lo b:O Int)(st:Int)(xs:U a):U a:=(bI lo b st xs.length).filterMap (xs[·]?)
theorem Tk{xs:U V}{us:U Aa}(r:An xs us):∀l:U Nat,An (l.filterMap (xs[·]?)) (l.filterMap (us[·]?))
 |[]=>.nil
 |i::l=>by
  have d:=r.length;cases h:xs[i]? with
  |none=>
   have a:us[i]?=J:=by rw[List.getElem?_eq_none_iff]at h ⊢;lia
   rw[Tl h,Tl a];exact Tk r l
  |some v=>
   obtain⟨u,b,c⟩:=r.get h;rw[Tn h,Tn b];exact .cons c<|Tk r l
theorem To{K:Ao}{N:Fb}{H:Hp}{xs:U D}{vs:U V}(r:Ad K N H xs vs):∀l:U Nat,Ad K N H (l.filterMap (xs[·]?)) (l.filterMap (vs[·]?))
 |[]=>Ad.nil
 |i::l=>by
  have d:=r.length;cases h:xs[i]? with
  |none=>
   have a:vs[i]?=J:=by rw[List.getElem?_eq_none_iff]at h ⊢;lia
   rw[Tl h,Tl a];exact To r l
  |some v=>
   obtain⟨u,b,c⟩:=r.get h;rw[Tn h,Tn b];exact Ad.cons c<|To r l
@[simp] def PJ(f:AB)(lo b:VE->O (O Int))(fs:AB):VE->A0:=λa=>match f a,lo a,b a,fs a with
  |some (.lst c),Z l,Z h,Z (.int s)=>if s=0 then J else Z (DT l h s c)
  |_,_,_,_=>J
section
variable{M:Fb}{e es:Expr}{el eh:O Expr}{f fs:AB}{lo hi:VE->O (O Int)}
set_option tactic.hygienic true in
theorem sA(he:JE X e (tP X.K M H0 f))(hl:JO X el (tO X.K M H0 lo))(hu:JO X eh (tO X.K M H0 hi))(hs:JE X es (tP X.K M H0 fs)):JE X (.Subscript e (.Slice el eh (Z es) p2) pos) (tF X.K M H0 (PJ f lo hi fs)):=#[by
 intro c s m H Q W #[t,zs,R,ex,q];unfold PJ at ex;split at ex
 ·next xs l h st hf C E G=>
  split at ex
  ·cases ex
  ·next h0=>
   cases ex;refine Subscript_<|AT (he.h c s m H (λx n=>Ah H n/\Aw X.K (Nf M t m) n (.lst xs) x) W #[t,_,R,hf,λv n F L=>#[F,L]]) λv F w=>?_;obtain⟨x,n,I1,r1,g,a,N,rfl,hq,hd⟩:=w;cases r1;refine wpAny_Slice<|AT (hl.h c F m n (λo y=>o=l/\Ah n y) I1 #[t,l,R.st g,C,λy P=>#[rfl,P]]) λvl P ⟨i,y,I2,pl,el,p⟩=>AT (hu.h c P m y (λo z=>o=h/\Ah y z) I2 #[t,h,R.st<|g.trans p,E,λz T=>#[rfl,T]]) λvu T w=>?_;obtain⟨j,z,I3,pu,eh,A⟩:=w;subst el eh;refine AT (hs.h c T m z (λx u=>Ah z u/\x=.int st) I3 #[t,_,R.st<|(g.trans p).trans A,G,λv u k L=>#[k,L.int]]) λvk k w=>?_;obtain⟨x,u,I4,r4,S,rfl⟩:=w;obtain⟨Y,rfl⟩:=r4;have sm:Ah n u:=(p.trans A).trans S;have B:Inv X c m u {k with heap:=k.heap.push {cls:=.type "slice",data:=.fields (T' [vl,vu,.int st Y])} }:=I4.kept (t':=k.toks) λb ob q=>Br _ q;generalize hs5:({k with heap:=k.heap.push {cls:=.type "slice",data:=.fields (T' [vl,vu,.int st Y])} }:Ab)=s5 at B;obtain⟨d,r,ht,hz⟩:=B.list<|sm.seq hq;have hln:=r.length;refine tail_any (ops:=[.ref a,.ref k.heap.objs.size]) ht.isList.typeIs slot_list_getitem.lookup ?_ (by with_unfolding_all rfl);refine wpAny_getItem_list_slice (st:=Z st) ht.isList (by rw[<- hs5];exact Heap.IsSliceOf.new ..) pl pu (.int st Y) (by simpa using h0) ?_ (by rw[BV]<;>lia);have ep:slicePick d.toArray i j (Z st)=(DT i j st d).toArray:=by
    unfold slicePick DT bI;erw[BV,List.getElem?_toArray]
   have hzz:(DT i j st d).length<=d.length:=by
    have:=slicePick_size_le d.toArray i j<|some st;rw[ep]at this;simpa using this
   have rv:An (DT i j st N) (DT i j st d):=by unfold DT;rw[hln];exact Tk r _
   have hlv:=rv.length;rw[ep];refine#[.ref s5.heap.objs.size,_,B.laid (t':=s5.toks) (o:=.lst<|DT i j st N) (λb ob q=>Br _ q) (Bf _) #[by lia,_,0,rv,Cc _ rfl],rfl,?_];have fr:=B.hok.fresh<|Bf s5.heap.objs.size;have dl:Ad X.K (Nf M t m) u (DT i j st xs) (DT i j st N):=by
    have d4:=hd.same sm;unfold DT;rw[d4.length];exact To d4 _
   exact LS (fl:=.l) (g.trans sm) fr dl q
 ·cases ex]
end
end L2
namespace L2
open PySem PySem.Spec PyProof.Rows
def B7(a:Ac)(o:Obj)(u:HO)(H:Hp):Hp:=λb=>@ite _ (b=a/\H b=Z u) (O7 _) (Z (.frz o u)) (H b)
def Gm(a:Ac)(o:Obj)(u:HO)(H:Hp):Hp:=λb=>@ite _ (b=a/\H b=Z (.frz o u)) (O7 _) (Z u) (H b)
section
variable{u:HO}{b:Ac}{v:HO}
theorem IK(h:H a=Z u):B7 a o u H a=Z (.frz o u):=if_pos #[rfl,h]
theorem Fv(h:¬ (b=a/\H b=Z u)):B7 a o u H b=H b:=if_neg h
theorem K2(h:H a=Z (.frz o u)):Gm a o u H a=Z u:=if_pos #[rfl,h]
theorem J0(h:¬ (b=a/\H b=Z (.frz o u))):Gm a o u H b=H b:=if_neg h
theorem BW:B7 a o u H b=J↔H b=J:=by grind [IK,Fv]
theorem Hf:Gm a o u H b=J↔H b=J:=by
 by_cases h:b=a/\H b=Z (.frz o u)
 ·obtain⟨rfl,h⟩:=h;rw[K2 h,h];exact#[λz=>(nomatch z),λz=>(nomatch z)]
 ·rw[J0 h]
theorem bJ(h:H b=Z v)(c:FL v=O')(d:FL u=J'):B7 a o u H b=Z v:=by grind [Fv]
theorem NB(h:H b=Z v)(c:∀o u,v≠.frz o u):Gm a o u H b=Z v:=by grind [J0]
theorem Rd.fz(c:FL u=J')(h:Rd H b v):Rd (B7 a o u H) b v:=by
 rcases h with h|⟨d,h⟩
 ·by_cases z:b=a/\H b=Z u
  ·obtain⟨rfl,z⟩:=z;rw[h]at z;cases z;exact .inr #[o,IK h]
  ·exact .inl (by rw[Fv z];exact h)
 ·exact .inr #[d,bJ h rfl c]
theorem Rd.ufz(c:∀o u,v≠.frz o u)(h:Rd H b v):Rd (Gm a o u H) b v:=by
 rcases h with h|⟨d,h⟩
 ·exact .inl<|NB h c
 ·by_cases z:b=a/\H b=Z (.frz o u)
  ·obtain⟨rfl,z⟩:=z;rw[h]at z;cases z;exact .inl<|K2 h
  ·exact .inr #[d,by rw[J0 z];exact h]
theorem Ah.fz(f:FL u=J')(s:Ah H0 H)(b:∀w,H0 a=Z w->H a=Z u->w=u):Ah (B7 a o u H0) (B7 a o u H):=by
 intro c w e;by_cases z:c=a/\H0 c=Z u
 ·obtain⟨rfl,z⟩:=z;rw[IK z]at e;cases e;exact IK<|s _ _ z
 ·rw[Fv z]at e;have q:=s _ _ e;rw[Fv]
  ·exact q
  ·rintro⟨rfl,d⟩;exact z ⟨rfl,by rw[e,b w e d]⟩
end
mutual
theorem As.rd{K:Ao}{N:Fb}{H H':Hp}(k:∀b v,(∀o u,v≠HO.frz o u)->Rd H b v->Rd H' b v):∀(d:D)(v:V),As K N H d v->As K N H' d v
 |.non,_,h=>h
 |.bl _,_,h=>h
 |.int _,_,h=>h
 |.str _,_,h=>h
 |.ty _,_,h=>h
 |.tup f,v,h=>by
  erw[As]at h ⊢
  obtain⟨a,c,e,q,r⟩:=h
  refine#[a,c,e,?_,Ad.rd k f c r]
  rcases q with q|q
  ·exact .inl (k _ _ (λ_ _ z=>nomatch z) q)
  ·exact .inr q
 |.lst f g,v,h=>by
  erw[As]at h ⊢
  obtain⟨a,c,e,q,r⟩:=h
  refine#[a,c,e,?_,Ad.rd k f c r]
  rcases q with⟨n,q⟩|q
  ·exact .inl #[n,k _ _ (λ_ _ z=>by cases g<;>cases z) q]
  ·exact .inr q
theorem Ad.rd{K:Ao}{N:Fb}{H H':Hp}(k:∀b v,(∀o u,v≠HO.frz o u)->Rd H b v->Rd H' b v):∀(xs:U D)(vs:U V),Ad K N H xs vs->Ad K N H' xs vs
 |[],_,h=>h
 |x::xs,vs,h=>by
  erw[Ad]at h ⊢
  obtain⟨v,r,e,q,t⟩:=h
  exact#[v,r,e,As.rd k x v q,Ad.rd k xs r t]
end
theorem NC(K:Ao)(b:Kd)(a:Ac)(xs:U D)(vs:U V):∀o u,CO K b a xs vs≠HO.frz o u:=λ_ _ z=>by cases b<;>cases z
section
variable{K:Ao}{M N N':Fb}{u:HO}
theorem Bh.fz(m:FL u=J')(R:Bh K M H0 ρ I H)(t:H a=Z u)(y:∀(i:Nat)(xs:U D)(b:Kd)(r:O Ac),ρ[i]?=Z (Sl.own xs b r)->I[i]?≠Z (Z (V.ref a))):Bh K M (B7 a o u H0) ρ I (B7 a o u H) where
 len:=R.len;same:=R.same.fz m λw e _=>by have:=R.same _ _ e;rw[t]at this;cases this;rfl
 mh:=λc h z=>R.mh c h<|BW.mp z;slot:=λi s e=>by
  have q:=R.slot i s e;have l:∀b v,(∀o u,v≠HO.frz o u)->Rd H b v->Rd (B7 a o u H) b v:=λb v _ h=>Rd.fz m h;cases s with
  |no=>trivial
  |val d=>obtain⟨v,e,h⟩:=q;exact#[v,e,As.rd l d v h]
  |own xs A r=>
   obtain⟨c,g,j,f,k,n,p⟩:=q;refine#[c,g,j,#[BW.mpr f.1,f.2],k,?_,Ad.rd l xs g p];rw[Fv,n];grind
  |lent xs A=>obtain⟨c,g,j,⟨f,k⟩,n,p⟩:=q;exact#[c,g,j,#[f,λz=>k<|BW.mp z],l _ _ (NC _ _ _ _ _) n,Ad.rd l xs g p]
  |exc c=>obtain⟨x,C,j,f,k⟩:=q;exact#[x,C,j,f,bJ k rfl m]
 inj:=R.inj
theorem Bh.ufz(R:Bh K M (B7 a o u H0) ρ I H')(s:H' a=Z (.frz o u))(t:∀w,H0 a=Z w->w=u):Bh K M H0 ρ I (Gm a o u H') where
 len:=R.len;same:=λc w e=>by
  by_cases z:c=a
  ·subst z;have:=t w e;subst this;exact K2 s
  ·have f:=R.same c w (by rw[Fv λy=>z y.1];exact e);rw[J0 λy=>z y.1];exact f
 mh:=λc h z=>R.mh c h<|Hf.mp z;slot:=λi r e=>by
  have q:=R.slot i r e;have l:∀b v,(∀o u,v≠HO.frz o u)->Rd H' b v->Rd (Gm a o u H') b v:=λb v A h=>Rd.ufz A h;cases r with
  |no=>trivial
  |val d=>obtain⟨v,e,h⟩:=q;exact#[v,e,As.rd l d v h]
  |own m B E=>obtain⟨c,g,j,f,k,n,p⟩:=q;exact#[c,g,j,#[BW.mp f.1,f.2],k,NB n<|NC _ _ _ _ _,Ad.rd l m g p]
  |lent m B=>obtain⟨c,g,j,⟨f,k⟩,n,p⟩:=q;exact#[c,g,j,#[f,λz=>k<|BW.mpr z],l _ _ (NC _ _ _ _ _) n,Ad.rd l m g p]
  |exc c=>obtain⟨x,C,j,f,k⟩:=q;exact#[x,C,j,f,NB k λ_ _ z=>nomatch z]
 inj:=R.inj
theorem Step.ufz(s:Step M N N' (B7 a o u H) H')(b:H a=Z u):Step M N N' H (Gm a o u H')/\H' a=Z (.frz o u):=by
 have d:=s.kp a _ (IK b)<|.inr<|.inr rfl;refine⟨⟨λc w e z=>?_,λc n=>(s.nw c n).imp id BW.mp⟩,d⟩;by_cases y:c=a
 ·subst y;rw[b]at e;cases e;exact K2 d
 ·have:=s.kp c w (by rw[Fv λx=>y x.1];exact e) z;rw[J0 λx=>y x.1];exact this
theorem Ew.ufz{r:Rv}{v:V}(h:Ew K M (B7 a o u H0) H' r v):Ew K M H0 (Gm a o u H') r v:=by
 have f:∀b v,(∀o u,v≠HO.frz o u)->Rd H' b v->Rd (Gm a o u H') b v:=λb v i h=>Rd.ufz i h;cases r with
 |val d=>exact As.rd f d v h
 |own j n=>obtain⟨c,g,e,k,l,m⟩:=h;exact#[c,g,e,BW.mp k,NB l<|NC _ _ _ _ _,Ad.rd f j g m]
end
section
variable{s:Ab}{u:HO}
theorem Cb.swap{P:AM}{w:Ai}{h:Ak}{u u':HO}(x:Cb P w H h)(f:H a=Z u)(i:∀y,u≠.own y)(j:∀xs,u≠.tup xs)(ne:∀b,b≠a->H' b=H b)(d:H' a=Z u')(new:AY P w H' h a u'):Cb P w H' h:=λb v e=>by
 by_cases g:b=a
 ·subst g;rw[d]at e;cases e;exact new
 ·rw[ne b g]at e;refine(x b v e).stay (λc v _ q=>q) (λc q=>?_) λc xs q=>?_
  ·rw[ne c λz=>by rw[z,f]at q;cases q;exact i _ rfl];exact q
  ·rw[ne c λz=>by rw[z,f]at q;cases q;exact j _ rfl];exact q
theorem Tp(a:FL u=J'):(∀y,u≠.own y)/\(∀xs,u≠.tup xs)/\(∀o v,u≠.frz o v)/\∀b,u≠.tbl b:=by
 refine#[λ_ z=>?_,λ_ z=>?_,λ_ _ z=>?_,λ_ z=>?_]<;>rw[z]at a<;>cases a
theorem Inv.plain(h:Inv X pins I H s)(b:H a=Z u)(d:FL u=J'):(∀xs,X.H₀ a≠Z (.tup xs))/\(∀o v,X.H₀ a≠Z (.frz o v))/\∀c,X.H₀ a≠Z (.tbl c):=by
 obtain⟨_,e,f,g⟩:=Tp d;refine#[λxs z=>?_,λo v z=>?_,λc z=>?_]
 ·have:=h.base.tups a xs z;rw[b]at this;cases this;exact e _ rfl
 ·have:=h.base.frzs a o v z;rw[b]at this;cases this;exact f _ _ rfl
 ·obtain⟨_,this⟩:=h.base.tbls a c z;rw[b]at this;cases this;exact g _ rfl
theorem Inv.swap{u u':HO}(q:Inv X pins I H s)(f:H a=Z u)(h:∀y,u≠.own y)(i:∀xs,u≠.tup xs)(pl:(∀xs,X.H₀ a≠Z (.tup xs))/\(∀o v,X.H₀ a≠Z (.frz o v))/\∀d,X.H₀ a≠Z (.tbl d))(ne:∀b,b≠a->H' b=H b)(g:H' a=Z u')(new:AY X.prog X.w H' s.heap a u'):Inv X pins I H' s where
 ok:=q.ok;os:=q.os;bare:=q.bare;base:=#[q.base.keep,q.base.slot,λb o e n j=>by
   have:=q.base.free b o e n j;rw[ne b λz=>by rw[z,f]at this;cases this];exact this,q.base.there,
  λb xs e=>by rw[ne b λz=>pl.1 xs<|z ▸ e];exact q.base.tups b xs e,λb o v e=>by rw[ne b λz=>pl.2.1 o v<|z ▸ e];exact q.base.frzs b o v e,λb d e=>by rw[ne b λz=>pl.2.2 d<|z ▸ e];exact q.base.tbls b d e]
 loc:=q.loc;cell:=q.cell;free:=by rw[ne _ λz=>by have:=q.free;rw[z,f]at this;cases this];exact q.free
 freeC:=λx c e=>by
  have:=q.freeC x c e;grind
 pin:=λp k=>by
  obtain⟨p1,l,m⟩:=q.pin p k;grind
 hok:=q.hok.swap f h i ne g new;len:=q.len
theorem Inv.fz(e:FL u=J')(m:Inv X pins I H s)(d:H a=Z u)(h:s.heap.get? a=Z o):Inv X pins I (B7 a o u H) s:=by
 obtain⟨f,g,j,k⟩:=Tp e;have ne:∀b,b≠a->B7 a o u H b=H b:=λb i=>Fv λz=>i z.1;refine m.swap d f g (m.plain d e) ne (IK d) #[h,(m.hok a u d).stay (λ_ _ _ q=>q) (λc q=>?_) λc l q=>?_]
 ·rw[ne c λz=>by rw[z,d]at q;cases q;exact f _ rfl];exact q
 ·rw[ne c λz=>by rw[z,d]at q;cases q;exact g _ rfl];exact q
theorem Inv.ufz(g:Inv X pins I H s)(d:H a=Z (.frz o u))(pl:(∀xs,X.H₀ a≠Z (.tup xs))/\(∀o v,X.H₀ a≠Z (.frz o v))/\∀e,X.H₀ a≠Z (.tbl e)):Inv X pins I (Gm a o u H) s:=by
 have ne:∀b,b≠a->Gm a o u H b=H b:=λb f=>J0 λz=>f z.1;refine g.swap d (λ_ z=>nomatch z) (λ_ z=>nomatch z) pl ne (K2 d) ((g.hok a _ d).2.stay (λ_ _ _ q=>q) (λc q=>?_) λc xs q=>?_)
 ·rw[ne c λz=>by rw[z,d]at q;cases q];exact q
 ·rw[ne c λz=>by rw[z,d]at q;cases q];exact q
end
open PySem.W
def K3(a:Ac)(o:Obj)(u:HO)(b:U V):It:=#[λi H=>H a=Z (.frz o u)/\i<b.length,λi H x c=>c=H/\b[i]?=Z x,λi H=>H a=Z (.frz o u)/\b.length<=i]
theorem sB{P:AM}{w:Ai}{K:Ao}{C:Expr}{it:Ac}{u:HO}{es:Array GR}{ep:Nat}{r:U V}(t:o.ExactDict)(v:o.data=.dict es ep)(x:An r (es.toList.map λe=>e.key)):Ht P w K C (K3 a o u r) [it] it (λi h=>h.IsKeyIter it a i es.size ep):=by
 refine MH (n:="dict_keyiterator") (by ext) (λi h st=>?_) (λi h g st k=>st.at k) (λX i y s T H E Q S G W st=>?_) λ_ _ _ _ _ st h=>wpAny_pyIter_keyiter st h
 ·obtain⟨o,e,c,d⟩:=st;exact#[o,_,e,c,d]
 ·have f:=x.length;simp at f;constructor<;>intro A q
  ·obtain⟨j,l⟩:=A;obtain⟨k,F,L⟩:=x.get<|CK l;have B:i<es.size:=by lia
   have m:es[i].key=k:=by simpa[B]using F
   exact PF st #[o,(W.hok a _ j).1,t,v] (λ_ g p M=>q _ _ g s.toks p (λb o N e=>(M.2 b N).trans e) (by rw[m];exact L) #[rfl,CK l]) λz=>absurd B<|Nat.not_lt.mpr z
  ·obtain⟨j,l⟩:=A;exact PF st #[o,(W.hok a _ j).1,t,v] (λz=>absurd z (by lia)) λ_=>#[G,λg R=>q g s.toks R]
abbrev C3(tr:U T3):HO:=.dct (tr.map (·.1)) (DS tr)
section
variable{l:Expr}
def bK(K:Ao)(c:TE):TI:=λd H R=>c d H λx b=>∃a tr,x=.ref a/\Cf K b a tr/\∀o,(B7 a o (C3 tr) b) a=Z (.frz o (C3 tr))->R (K3 a o (C3 tr) (tr.map λt=>t.2.1)) (B7 a o (C3 tr) b)
theorem Tq{m:TE}(t:PE X l m):PI X tg l (bK X.K m):=by
 intro c s n H R P h;refine AT (t c s n H _ P h) λv f u=>?_;obtain⟨x,g,i,w,A⟩:=u;obtain⟨a,tr,rfl,hd,q⟩:=A;cases w;obtain⟨z,B,nd,o,L,M,j,p,r,C⟩:=hd.1.ok i.hok;have E:=Tj C;obtain⟨k,G⟩:Inv X c n (B7 a o (C3 tr) g) f/\(B7 a o (C3 tr) g) a=Z (.frz o<|C3 tr):=by
  rcases hd.1 with d|⟨N,d⟩
  ·exact#[i.fz rfl d j,IK d]
  ·have:=(i.hok a _ d).1;rw[j]at this;cases this;have:B7 a o (C3 tr) g=g:=funext λb=>Fv (by rintro⟨rfl,y⟩;rw[d]at y;cases y);rw[this];exact⟨i,d⟩
 refine bu B #[o,j,p,r] ?_;refine#[f.heap.objs.size,[f.heap.objs.size],_,_,_,rfl,k.kept (t':=f.toks) λb o e=>Br _ e,sB p r E,#[_,Cc _ rfl,rfl,rfl],λb F=>?_,q o G];have e:b=f.heap.objs.size:=by simpa using F
 subst e;exact k.fpOk (Bf _)<|k.hok.fresh<|Bf _
end
def Cv(X:Cx)(Q:Hp->Prop)(H':Hp):Prop:=Q H'\/∃a o u,((∀b,X.H₀ a≠Z (.tup b))/\(∀o v,X.H₀ a≠Z (.frz o v))/\∀c,X.H₀ a≠Z (.tbl c))/\H' a=Z (.frz o u)/\Q (Gm a o u H')
def Ends.cv(X:Cx)(D:Ends):Ends:={nx:=λa=>Cv X (D.nx a),rt:=λv=>Cv X (D.rt v),bk:=λa=>Cv X (D.bk a),ct:=λa=>Cv X (D.ct a)}
theorem SP.cv{c:AQ}{D:Ends}{f:Flow}{s:Ab}(h:SP X c (D.cv X) f s):SP X c D f s:=by
 have k:∀{j:St} {H:Hp} {Q:Hp->Prop},Inv X c j H s->Cv X Q H->∃i,Inv X c j i s/\Q i:=λn q=>by
  rcases q with q|⟨a,o,u,l,m,q⟩
  ·exact#[_,n,q]
  ·exact#[_,n.ufz m l,q]
 cases f with
 |next=>obtain⟨b,i,n,q⟩:=h;obtain⟨d,e,g⟩:=k n q;exact#[b,d,e,g]
 |brk=>obtain⟨b,i,n,q⟩:=h;obtain⟨d,e,g⟩:=k n q;exact#[b,d,e,g]
 |cont=>obtain⟨b,i,n,q⟩:=h;obtain⟨d,e,g⟩:=k n q;exact#[b,d,e,g]
 |ret u=>obtain⟨v,b,i,n,r,q⟩:=h;obtain⟨d,e,g⟩:=k n q;exact#[v,b,d,e,r,g]
section
variable{K:Ao}{M:Fb}{D:Ends}{r:DE}{u:HO}
theorem Bc.cv(h:Bc K M H0 ρ I H D r):Bc K M H0 ρ I H (D.cv X) r:=by
 cases r with
 |fail=>exact h
 |next c=>exact λa b R S=>.inl<|h a b R S
 |brk c=>exact λa b R S=>.inl<|h a b R S
 |cont c=>exact λa b R S=>.inl<|h a b R S
 |ret r=>exact λv b s q=>.inl<|h v b s q
theorem Bc.fz(m:FL u=J')(h:Bc K M H0 ρ I H D r)(i:H a=Z u)(j:∀w,H0 a=Z w->w=u)(pl:(∀xs,X.H₀ a≠Z (.tup xs))/\(∀o v,X.H₀ a≠Z (.frz o v))/\∀k,X.H₀ a≠Z (.tbl k)):Bc K M (B7 a o u H0) ρ I (B7 a o u H) (D.cv X) r:=by
 have nx:∀(c:VE) (Q:St->Hp->Prop),G8 K M H0 ρ I H c Q->G8 K M (B7 a o u H0) ρ I (B7 a o u H) c (λI=>Cv X<|Q I):=λc Q h f g R S=>by
  obtain⟨l,d⟩:=S.ufz i;exact .inr #[a,o,u,pl,d,h f _ (R.ufz d j) l]
 cases r with
 |fail=>exact h
 |next c=>exact nx _ _ h
 |brk c=>exact nx _ _ h
 |cont c=>exact nx _ _ h
 |ret r=>
  intro v g s q;by_cases z:H0 a=Z u
  ·have d:=s a _<|IK z;refine .inr ⟨a,o,u,pl,d,h v _ (λb w e=>?_) (Ew.ufz q)⟩;by_cases y:b=a
   ·grind [K2]
   ·rw[J0 λx=>y x.1];exact s b w (by rw[Fv λx=>y x.1];exact e)
  ·have e:B7 a o u H0=H0:=funext λb=>Fv (by rintro⟨rfl,y⟩;exact z y);rw[e]at s q;exact .inl<|h v g s q
end
def El(d:D):A0:=match d with
 |.lst b .d=>(Ek b).map λa=>a.map λp=>kD p.1
 |_=>J
theorem As.at_any{K:Ao}{N b:Fb}{a:At}{v:V}(h:As K N H (aD a) v):As K b H (aD a) v:=by cases a<;>exact h
theorem Ad.at_any{K:Ao}{N b:Fb}{H:Hp}:∀{l:U At}{vs:U V},Ad K N H (l.map aD) vs->Ad K b H (l.map aD) vs
 |[],_,h=>h
 |a::l,vs,h=>by
  obtain⟨v,r,e,q,t⟩:=h;exact#[v,r,e,q.at_any,Ad.at_any t]
theorem As.key_any{K:Ao}{N b:Fb}{k:KT}{v:V}(h:As K N H (kD k) v):As K b H (kD k) v:=by
 cases k with| «at» a=>exact As.at_any h|tup l=>
  obtain⟨p,c,e,q,r⟩:=h;exact#[p,c,e,q,Ad.at_any r]
theorem bL{K:Ao}{M N l:Fb}{g:Hp}{tr:U T3}(m:PD K l g kvs tr)(hz:B7 a o (C3 tr) g a=Z (.frz o (C3 tr))):LW K M N (B7 a o (C3 tr) g) (K3 a o (C3 tr) (tr.map λt=>t.2.1)) (kvs.map λp=>kD p.1):=λz A S i=>by
 have j:=m.kden;have f:=S.kp a _ hz<|.inr<|.inr rfl;have c:=j.length;refine#[λd hd=>?_,λe=>#[f,by rw[<- c];lia]];have n:=(C8.mp hd).1;refine#[#[f,by rw[<- c];exact n],λx B y=>?_];obtain⟨rfl,q⟩:=y;refine#[Ah.refl _,?_];obtain⟨w,k,r⟩:=j.get hd;rw[q]at k;cases k;rw[Dy]at hd;obtain⟨p,s,hd⟩:=B0.mp hd;cases hd;have u:As K N (B7 a o (C3 tr) g) (kD p.1) x:=(As.rd (λb v _ h=>Rd.fz rfl h) _ _ r).key_any;exact As.step S _ _ u
theorem bM{K:Ao}{M:Fb}(R:Bh K M H0 ρ I H)(d:¬ Nf M ρ I a\/M a):∀(i:Nat)(xs:U D)(b:Kd)(e:O Ac),ρ[i]?=Z (Sl.own xs b e)->I[i]?≠Z (Z (V.ref a)):=λi xs j e f g=>by
 rcases d with d|d
 ·exact d<|.inr ⟨i,xs,j,e,f,g⟩
 ·obtain⟨c,k,h,_,l,_⟩:=R.slot i _ f;rw[g]at h;cases h;exact l d
theorem Inv.plain2{b:AQ}{g:Hp}{s:Ab}{u:HO}(l:Inv X b I H s)(c:Ah H g)(d:g a=Z u)(h:FL u=J'):(∀xs,X.H₀ a≠Z (.tup xs))/\(∀o v,X.H₀ a≠Z (.frz o v))/\∀f,X.H₀ a≠Z (.tbl f):=by
 obtain⟨_,i,j,k⟩:=Tp h;refine#[λxs z=>?_,λo v z=>?_,λf z=>?_]
 ·have y:=c _ _<|l.base.tups a xs z;rw[d]at y;cases y;exact i _ rfl
 ·have y:=c _ _<|l.base.frzs a o v z;rw[d]at y;cases y;exact j _ _ rfl
 ·obtain⟨m,e⟩:=l.base.tbls a f z;have y:=c _ _ e;rw[d]at y;cases y;exact k _ rfl
section
variable{M:Fb}{l:Expr}{body:U Az}{f:AB}{b:D->VE->O VE}{g:Ay}
set_option tactic.hygienic true in
theorem sC(hp:Bz (Af X.prog X.w) X.A X.env X.xe)(hc:X.calm=J')(hl:PE X l (tQ X.K M H0 f))(hg:∀H0,PG X tg (tG X.K M H0 ws b))(hb:∀H0,EC X body (tS X.K M H0 g)) (hs:∀x,EQ l X.env x=AA x:=by intro _;rfl):PS X (.For tg l body [] pos) (tS X.K M H0 (Z4 (λρ=>(f ρ).bind El) b g)):=by
 intro j s c H zA zB #[ρ,R,q];have S:PG X tg (λv c H Q=>∃H0,tG X.K M H0 ws b v c H Q):=λj s c H v u Q zB r ⟨H0,h⟩=>hg H0 j s c H v u Q zB r h;have Y:EC X body (λD c H=>∃H0,tS X.K M H0 g D c H):=λj s c H D zB ⟨H0,h⟩=>hb H0 j s c H D zB h;unfold Z4 at q;dsimp only at q;cases hf:f ρ with|none=>rw[hf]at q;exact BM q|some d=>
 rw[hf]at q;erw[BH]at q;cases B:El d with|none=>rw[B]at q;exact BM q|some ds=>
 rw[B]at q;unfold El at B;split at B
 ·next xs=>
  cases hu:Ek xs with|none=>rw[hu]at B;cases B|some C=>
  rw[hu]at B;cases B;refine AT (ON hp hc (Tq hl) S Y hs j s c H (zA.cv X) zB ?_) λfl s' h=>h.cv;refine#[ρ,_,R,hf,λv E s1 dq=>?_];rw[Gi hu]at dq;obtain⟨a,vs,rfl,hN,hr,dl⟩:=dq;obtain⟨tr,dc,pd⟩:=IH hr dl;refine#[a,tr,rfl,dc,λo hz=>?_];have T:=R.st s1;have q1:Bc X.K M H0 ρ c E zA (ZC b g (C.map λp=>kD p.1) ρ):=Bc.from (Step.of_same s1) q;have F:=λN=>bL (M:=M) (N:=N) pd hz;have fin:∀n,Bh X.K M n ρ c (B7 a o (C3 tr) E)->Bc X.K M n ρ c (B7 a o (C3 tr) E) (zA.cv X) (ZC b g (C.map λp=>kD p.1) ρ) ->
    ∃W:Nat->Nat->St->Hp->Prop,(∃m,W 0 m c<|B7 a o (C3 tr) E)/\∀i m c H,W i m c H->((K3 a o (C3 tr)<|tr.map λt=>t.2.1).stop i H/\(zA.cv X).nx c H)\/((K3 a o (C3 tr)<|tr.map λt=>t.2.1).go i H/\∃N:St->Hp->Prop,(∀L P,N L P->∃m',m'<m/\W (i+1) m' L P)/\∀x P,(K3 a o (C3 tr)<|tr.map λt=>t.2.1).yld i H x P->(∃H0,tG X.K M H0 ws b x c P λσ2 H2=>∃H0,tS X.K M H0 g {zA.cv X with nx:=N,ct:=N,bk:=(zA.cv X).nx} σ2 H2)):=λn R2 q2=>by
   have core:=Yy (K:=X.K) (M:=M) (H0:=n) (f:=λ_=>Z<|C.map λ(p:KT×D)=>kD p.1) (b:=b) (g:=g) (ws:=ws) (D':=zA.cv X) (I:=c) (H:=B7 a o (C3 tr) E) (wi:=tI X.K M n λ_=>Z<|C.map λ(p:KT×D)=>kD p.1)
    (tg':=λv c H Q=>∃H0,tG X.K M H0 ws b v c H Q) (tb:=λD c H=>∃H0,tS X.K M H0 g D c H) (λ_ _ _ z=>z) (λ_ _ _ _ z=>#[n,z]) (λ_ _ _ z=>#[n,z]) #[ρ,R2,q2]
   obtain⟨ρ',ds',R',e',k⟩:=core;cases e';exact k _ _ (Ah.refl _)<|F _
  rcases dc.1 with G|⟨o',G⟩
  ·exact fin _ (T.fz rfl G<|bM T hN)<|Bc.fz rfl q1 G (λw e=>by have y:=T.same _ _ e;rw[G]at y;cases y;rfl) (zB.plain2 s1 G rfl)
  ·have e:B7 a o (C3 tr) E=E:=funext λb=>Fv (by rintro⟨rfl,y⟩;rw[G]at y;cases y);rw[e]at fin ⊢;exact fin _ T q1.cv
 ·cases B
theorem sD(a:Bz (Af X.prog X.w) X.A X.env X.xe)(c:X.calm=J')(d:JE X l (tQ X.K M H0 f))(e:∀H0,JG X tg (tG X.K M H0 ws b))(i:∀H0,JB X body (tS X.K M H0 g)) (j:∀x,EQ l X.env x=AA x:=by intro _;rfl):JS X (.For tg l body [] pos) (tS X.K M H0 (Z4 (λρ=>(f ρ).bind El) b g)):=#[sC a c d.h (λH0=>(e H0).h) (λH0=>(i H0).h) j]
end
def sE(K:Ao):V->U V->Hp->VK->Prop:=λx b H Q=>∃a tr k y,x=.ref a/\b=[y]/\Cf K H a tr/\He k tr/\By K H k y/\Q ((Cp tr k).getD .non) H
@[simp] def ND(x y:D):O D:=match x with
  |.lst b .d=>match Ek b,Dh y with
   |some a,Z k=>if Di k a then Z ((Zx a k).getD .non)else J
   |_,_=>J
  |_=>J
section
variable{M:Fb}{o:Expr}{fo fk:AB}
theorem sF(G:X.A.units+64<Aq):Ks X "dict.get" (sE X.K):=by
 intro j s C H x L v f Q M r t h;obtain⟨a,tr,k,y,rfl,rfl,hd,m,n,q⟩:=h;cases r;obtain⟨u,rfl,o⟩:=t.one;cases k with
 | «at» b=>
  cases n;obtain⟨z,i,nd,f,rel,g⟩:=Nl M hd m;have c:=rel.val b;refine call_meetsIn PySem.F.slot_dict_get g.typeIs PySem.F.entry_dict_get (PySem.F.args_dict_get_2 _ _) (meets_dict_get (ZB X.prog X.w) a (HF o) i) #[_,g.mapOf,?_];cases d:Cp tr (.at b)with
  |none=>
   rw[d]at q;cases e:valueAt f b with
   |none=>exact#[.non,H,M.tok _,rfl,q]
   |some w=>rw[d,e]at c;exact c.elim
  |some w=>
   rw[d]at q;cases e:valueAt f b with
   |none=>rw[d,e]at c;exact c.elim
   |some B=>rw[d,e]at c;exact#[w,H,M.tok _,c,q]
 |tup l=>
  obtain⟨p,rfl,E⟩:=n;cases(show u=Cj p from o);obtain⟨z,i,nd,f,rel,g⟩:=KN M hd m;have c:=rel.val l;refine call_meetsIn PySem.F.slot_dict_get g.typeIs PySem.F.entry_dict_get (PySem.F.args_dict_get_2 _ _) (meetsH_dict_get (BN<|ZB X.prog X.w) a p i) ⟨KO (by lia),l,f,IF M E,g,?_⟩;cases d:Cp tr (.tup l)with
  |none=>
   rw[d]at q;cases e:atKey f l with
   |none=>exact#[.non,H,M.tok _,rfl,q]
   |some w=>rw[d,e]at c;exact c.elim
  |some w=>
   rw[d]at q;cases e:atKey f l with
   |none=>rw[d,e]at c;exact c.elim
   |some B=>rw[d,e]at c;exact#[w,H,M.tok _,c,q]
set_option tactic.hygienic true in
theorem sG(G:X.A.units+64<Aq)(zA:JE X o (tP X.K M H0 fo))(P:JE X ek (tP X.K M H0 fk)) (c:F6 o "get" X.env (Ap o X.env)=Ap o X.env:=by rfl) (f:((Au cpos (AC [ek] X.env)).all (λx=>!x.1)&&(F7 cpos (F8 [] X.env)).all (λx=>x.1.isSome) && decide ([ek].length+([]:U D1).length+(if([]:U D1).isEmpty then 0 else 1)<30))=J':=by rfl) (e:(apos.endLine==cpos.line)=J':=by rfl) (g:AC [ek] X.env=(O',Ap ek X.env)::AC [] X.env:=by exact ZR rfl) (l:(Au cpos (AC [] X.env)).any (·.1)=O':=by rfl):JE X (.Call (.Attribute o "get" apos) [ek] [] cpos) (tD X.K M H0 (Za ND fo fk)):=#[(Hv SX PySem.F.slot_dict_get PySem.F.type_dict_get (sF G) zA.h (Z3 P.h A8 g) c f e g l).mono λI H Q L=>by
   obtain⟨t,d,R,ex,q⟩:=L;obtain⟨x,y,N,S,ex⟩:=Yl ex;unfold ND at ex;split at ex
   ·next xs=>
    split at ex
    ·next m k n p=>
     obtain⟨T,ex⟩:=ZV ex;cases ex;have r:=Gi n;subst r;refine#[t,_,R,N,λv H1 z W=>?_];obtain⟨a,vs,rfl,B,hd⟩:=W;refine#[.inr<|.inr ⟨rfl,_,_,B⟩,t,y,R.st z,S,λw Y s C=>?_];obtain⟨tr,dc,E⟩:=IH (B.same s)<|hd.same s;rw[HG p]at C;have b:=E.val k;refine#[a,tr,k,w,rfl,rfl,dc,E.hom T,HH<|HI C,q _ Y (z.trans s) ?_];cases i:Zx m k with
     |none=>
      rw[i]at b;cases j:Cp tr k with
      |none=>erw[Option.getD,As]
      |some u=>rw[j]at b;exact b.elim
     |some d0=>
      rw[i]at b;cases j:Cp tr k with
      |none=>rw[j]at b;exact b.elim
      |some u=>rw[j]at b;exact b
    ·cases ex
   ·cases ex]
end
end L2
namespace L2
open PySem PySem.Spec PyProof.Rows
structure HM(P:AM)(w:Ai)(i:Ac)(fp:List Ac)(n:Nat)(is:Nat->Aa->Prop)(st:Nat->Ak->Prop):Prop where
 frame:∀k h h',st k h->(∀b,b=i\/b∈fp->∀o,h.get? b=Z o->h'.get? b=Z o)->st k h'
 lt:∀k h,st k h->i<h.objs.size
 item:∀(A:Ag) (E:AL) (s:Ab) (k:Nat) (Q:AL),k<n->st k s.heap->(∀v h' tk,is k v->st (k+1) h'->DP i s.heap h'->Q v {s with heap:=h',toks:=tk})->wpAny (Af P w) A (bN (.ref i)) Q E s
 fin:∀(A:Ag) (E:AL) (s:Ab) (k:Nat) (Q:AL),A.handled=J->n<=k->st k s.heap->(∀h' e,Heap.ExtBut i s.heap h'->(∃o,h'.get? e=Z o/\o.cls=.type "StopIteration")->E (.ref e) {s with heap:=h' }) ->
  wpAny (Af P w) A (bN (.ref i)) Q E s
section
variable{prog:AM}{w:Ai}{A:Ag}{s:Ab}
theorem bO{i f:Ac}{k:Nat}{b:Array Aa}{Q:AL}(h:s.heap.IsTupleIter i f k)(n:s.heap.IsTuple f b)(q:∀v,b[k]?=Z v->∀h',h'.IsTupleIter i f (k+1)->DP i s.heap h'->Q v {s with heap:=h' }) (j:b[k]?=J->A.handled=J/\∀h' e,Heap.ExtBut i s.heap h'->(∃o,h'.get? e=Z o/\o.cls=.type "StopIteration")->E (.ref e) {s with heap:=h' }):wpAny (Af prog w) A (bN (.ref i)) Q E s:=by
 obtain⟨u,d,p,c⟩:=id h;obtain⟨y,r,_,m1,t⟩:=n;refine Al<|LI h.typeIs PySem.F.slot_tuple_iterator_next<|Kr PySem.F.slot_tuple_iterator_next h.typeIs PySem.F.entry_tuple_iterator_next ?_<|PySem.F.args_tuple_iterator_next_1 _;show wpAny _ _ (field (.ref i) 0 >>= _) _ _ s
 refine Al<|Ev d c (x:=.ref f) rfl ?_;refine Al<|Ev d c (x:=.int k 0) rfl ?_;refine Al<|wpAny_seqItems r t ?_;erw[GD];cases g:b[k]? with
 |some v=>
  refine Al<|Ny d c (by simp)<|AN ⟨v,rfl,AN<|q _ g _ ?_<|JU ..⟩;exact⟨_,LK _ d<|Te<|Md c _,(Obj.cls_mapFields ..).trans p,by rw[Md c];simp[AV]⟩
 |none=>
  refine Al<|Ju<|Al<|Ny d c (by simp) ?_;refine Al ?_;refine Al<|Jv ?_ (show(0:Nat)<=Ax by ext);refine Al (m:=firstArgMember _ _) (wpAny_of_eq (a:=GP) (by first|rfl|(unfold firstArgMember;rfl)) ?_);refine Jv ?_ (by size_fits);refine Al<|wpAny_handled ?_;first|rw[(j g).1]|rw[show A.in1.handled=J from(j g).1]
  refine Al<|AN<|wpAny_throw ?_;exact(j g).2 _ _ ((Heap.ExtBut.push (Heap.SameBut.extBut<|JU ..) _).push _) ⟨_,Cc _ rfl,rfl⟩
theorem sH{P:AM}{w:Ai}{i l:Ac}{xs:U V}(d:Array Aa)(r:An xs d.toList):HM P w i [l] xs.length (λk v=>∃x,xs[k]?=Z x/\RelV x v) (λk h=>h.IsListIter i l k/\h.IsList l d) where
 frame:=λk h j ⟨a,b⟩ kp=>#[a.at λo e=>kp i (.inl rfl) o e,b.at λo e=>kp l (.inr (by simp)) o e];lt:=λk h ⟨⟨o,e,_⟩,_⟩=>BC e;item:=λA E s k Q g ⟨a,b⟩ q=>by
  obtain⟨u,t,y⟩:=r.get<|CK g;refine wpAny_nextOf_list_item a b (by simpa using t) λj z m=>?_;by_cases f:l=i
  ·subst f;obtain⟨o,e,c,_⟩:=a;obtain⟨C,n,p,_⟩:=b;rw[e]at n;cases n;rw[c]at p;exact absurd p (by ext)
  ·exact q _ j s.toks #[_,CK g,y] #[z,b.extBut m.extBut f] m
 fin:=λA E s k Q B g ⟨a,b⟩ q=>wpAny_nextOf_list_end B a b (Array.getElem?_eq_none (by have f:=r.length;simp at f;exact le_of_eq_of_le f.symm g)) q
theorem sI{P:AM}{w:Ai}{i l:Ac}{xs:U V}(d:Array Aa)(r:An xs d.toList):HM P w i [l] xs.length (λk v=>∃x,xs[k]?=Z x/\RelV x v) (λk h=>h.IsTupleIter i l k/\h.IsTuple l d) where
 frame:=λk h n ⟨a,b⟩ kp=>#[a.at λo e=>kp i (.inl rfl) o e,b.at λo e=>kp l (.inr (by simp)) o e];lt:=λk h ⟨⟨o,e,_⟩,_⟩=>BC e;item:=λA E s k Q j ⟨a,b⟩ q=>by
  obtain⟨u,m,B⟩:=r.get<|CK j;have m:d[k]?=Z u:=by simpa using m
  refine bO a b (λv f n C p=>?_) λz=>by simp[m]at z
  rw[m]at f;cases f;by_cases g:l=i
  ·subst g;obtain⟨o,e,c,_⟩:=a;obtain⟨H,t,y,_⟩:=b;rw[e]at t;cases t;rw[c]at y;exact absurd y (by ext)
  ·exact q _ n s.toks #[_,CK j,B] #[C,b.at λo e=>p.extBut _ _ g e] p
 fin:=λA E s k Q G j ⟨a,b⟩ q=>bO a b (λv f=>by rw[Array.getElem?_eq_none (by have g:=r.length;simp at g;exact le_of_eq_of_le g.symm j)]at f;cases f) λ_=>#[G,q]
noncomputable def Mg(x:Ae):String:=if x.cps.all (·<128)=J' then "str_ascii_iterator" else "str_iterator"
def Gn(x:Ae):U V:=x.cps.toList.map λc=>.str #[(T' [c])]
theorem sJ{P:AM}{w:Ai}{i:Ac}(x:Ae):HM P w i [] (Gn x).length (λk v=>∃y,(Gn x)[k]?=Z y/\RelV y v) (λk h=>∃t,h.IsStrIter i (Mg x) x t k) where
 frame:=λk h f ⟨t,o,e,r⟩ kp=>#[t,o,kp i (.inl rfl) o e,r];lt:=λk h ⟨t,o,e,_⟩=>BC e;item:=λA E s k Q g ⟨t,a⟩ q=>by
  have b:k<x.cps.size:=by simpa[Gn]using g
  unfold Mg at a q;by_cases d:x.cps.all (·<128)=J'
  ·rw[if_pos d]at a q;exact wpAny_nextOf_ascii_item a (c:=x.cps[k]) (by simp[b]) λf j l=>q _ f (s.toks+1) #[.str #[(T' [x.cps[k]])],by simp[Gn,b],_,rfl] #[t,j] l
  ·rw[if_neg d]at a q;exact wpAny_nextOf_wide_item a (c:=x.cps[k]) (by simp[b]) λf j l=>q _ f (s.toks+1) #[.str #[(T' [x.cps[k]])],by simp[Gn,b],_,rfl] #[t,j] l
 fin:=λA E s k Q m g ⟨t,a⟩ q=>by
  have b:x.cps.size<=k:=by simpa[Gn]using g
  unfold Mg at a;by_cases d:x.cps.all (·<128)=J'
  ·rw[if_pos d]at a;exact wpAny_nextOf_ascii_end m a (by simp[b]) q
  ·rw[if_neg d]at a;exact wpAny_nextOf_wide_end m a (by simp[b]) q
structure Ct(z tin tout ia ib:Ac)(fa fb:List Ac):Prop where
 n1:tin≠z
 n2:tout≠z
 n3:ia≠z
 n4:ib≠z
 n5:tin≠tout
 n6:tin≠ia
 n7:tin≠ib
 n8:tout≠ia
 n9:tout≠ib
 n10:ia≠ib
 fz:∀b,b∈fa\/b∈fb->b≠z/\b≠tout/\b≠ia/\b≠ib
section
variable{z tin tout ia ib:Ac}{fa fb:U Ac}{n m k:Nat}{isB:Nat->Aa->Prop}{sa sb:Nat->Ak->Prop}{a b:Aa}
theorem Ct.keepA(D:Ct z tin tout ia ib fa fb)(f:HM prog w ia fa n isA sa){h:Ak}(st:sa k h){c:Ac}(d:c=z\/c=tout\/c=ib)(a:DP c h h'):sa k h':=f.frame k h h' st λx b o e=>by
  refine a.extBut x o ?_ e;rcases b with rfl|b
  ·rcases d with rfl|rfl|rfl
   ·exact D.n3
   ·exact B2 D.n8
   ·exact D.n10
  ·obtain⟨g,i,q3,j⟩:=D.fz x<|.inl b;rcases d with rfl|rfl|rfl
   ·exact g
   ·exact i
   ·exact j
theorem Ct.keepB(D:Ct z tin tout ia ib fa fb)(SB:HM prog w ib fb n isB sb){h:Ak}(st:sb k h){c:Ac}(d:c=z\/c=tout\/c=ia)(a:DP c h h'):sb k h':=SB.frame k h h' st λx b o e=>by
  refine a.extBut x o ?_ e;rcases b with rfl|b
  ·rcases d with rfl|rfl|rfl
   ·exact D.n4
   ·exact B2 D.n9
   ·exact B2 D.n10
  ·obtain⟨f,g,q3,i⟩:=D.fz x<|.inr b;rcases d with rfl|rfl|rfl
   ·exact f
   ·exact g
   ·exact q3
theorem bP{Q:O Aa->Ab->Prop}(D:Ct z tin tout ia ib fa fb)(i:HM prog w ia fa n isA sa)(SB:HM prog w ib fb m isB sb)
  (hz:IsZip s.heap z tin tout .none) (hi:IsPair s.heap tin (.ref ia) (.ref ib)) (ho:IsPair s.heap tout a b) (ha:sa k s.heap) (hb:sb k s.heap)
  (q:k<n->k<m->∀x y h' r,isA k x->isB k y->IsZip h' z tin tout (AV s.heap.objs.size)->IsPair h' tout x y->sa (k+1) h'->sb (k+1) h'->IsPair h' s.heap.objs.size x y->h'.objs.size=s.heap.objs.size+1 ->
   (∀c o,c≠z->c≠tout->c≠ia->c≠ib->s.heap.get? c=Z o->h'.get? c=Z o)->Q (Z (.ref s.heap.objs.size)) {s with heap:=h',toks:=r})
  (R:n<=k\/m<=k->A.handled=J/\∀h' r,(∀c o,c≠z->c≠tout->c≠ia->c≠ib->s.heap.get? c=Z o->h'.get? c=Z o)->Q J {s with heap:=h',toks:=r}):
  wpAny (Af prog w) A (pyNext (.ref z)) Q E s:=by
 have j:n<=k\/m<=k->∀(h':Ak) (r:Nat) (e:Ac),(∀c o,c≠z->c≠tout->c≠ia->c≠ib->s.heap.get? c=Z o->h'.get? c=Z o)->(∃o,h'.get? e=Z o/\o.cls=.type "StopIteration") ->
   wpAny (Af prog w) A (do if(<- isInstance (.ref e) (.type "StopIteration"))=J' then AA (J:O Aa)else throw (Cj e)) Q E {s with heap:=h',toks:=r}:=λkn h' r e kp ⟨o,h,d⟩=>
  Al (wpAny_isInstance (T:="StopIteration") (b:=J') #[o,h,d] isSubtype_stop (AN ((R kn).2 h' r kp)))
 have ty:s.TypeIs (.ref z) "zip":=#[_,hz,rfl]
 refine Al (wpAny_attempt (LI (name:=Jt "__next__") ty PySem.F.slot_zip_next (Kr PySem.F.slot_zip_next ty PySem.F.entry_zip_next ?_ (PySem.F.args_zip_next_1 _))))
 show wpAny _ _ (field (.ref z) 2 >>= _) _ _ _
 refine Al (Ev hz rfl (x:=.bool O') rfl ?_)
 refine Al (Ev hz rfl (x:=.ref tin) rfl ?_)
 refine Al (wpAny_seqItems hi rfl ?_)
 refine Al ?_
 refine Al (Ev hz rfl (x:=.none) rfl (AN ?_))
 refine Al (Ju ?_)
 refine Al (Ev hz rfl (x:=.ref tout) rfl ?_)
 refine Al (HN hz (by simp) λg1 Y l=>?_)
 refine Al ?_
 refine Al (Al (wpAny_onRaise ?_))
 by_cases G:n<=k
 ·refine Al (i.fin A.in1 _ _ k _ (R (.inl G)).1 G (D.keepA i ha (.inl rfl) l) λg2 e x2 he=>?_)
  obtain⟨oe,h,d⟩:=he
  have z2:IsZip g2 z tin tout .ellipsis:=x2 _ _ (B2 D.n3) Y
  have ez:e≠z:=λx=>by subst x;rw[z2]at h;cases h;simp at d
  exact HN z2 (by simp) λg3 _ g=>j (.inl G) g3 s.toks e (λc o d _ t _ x=>g.extBut _ _ d (x2 _ _ t (l.extBut _ _ d x))) #[oe,g.extBut _ _ ez h,d]
 ·refine Al (i.item _ _ _ k _ (Nat.lt_of_not_le G) (D.keepA i ha (.inl rfl) l) λx g2 tk2 hx a2 u=>AN ?_)
  have o2:IsPair g2 tout a b:=u.extBut _ _ D.n8 (l.extBut _ _ D.n2 ho)
  refine Al (wpAny_seqItems o2 rfl ?_)
  refine Al (wpAny_updateSeq_pair o2 λg3 o3 g=>?_)
  refine Al (wpAny_letGo (AN ?_))
  refine Al (Al (wpAny_onRaise ?_))
  have H:sb k g3:=D.keepB SB (D.keepB SB (D.keepB SB hb (.inl rfl) l) (.inr (.inr rfl)) u) (.inr (.inl rfl)) g
  by_cases S:m<=k
  ·refine Al (SB.fin A.in1 _ _ k _ (R (.inr S)).1 S H λg4 e x4 he=>?_)
   obtain⟨oe,h,d⟩:=he
   have z4:IsZip g4 z tin tout .ellipsis:=x4 _ _ (B2 D.n4) (g.extBut _ _ (B2 D.n2) (u.extBut _ _ (B2 D.n3) Y))
   have ez:e≠z:=λx=>by subst x;rw[z4]at h;cases h;simp at d
   exact HN z4 (by simp) λf _ p=>j (.inr S) f tk2 e (λc o d B t K x=>p.extBut _ _ d (x4 _ _ K (g.extBut _ _ B (u.extBut _ _ t (l.extBut _ _ d x))))) #[oe,p.extBut _ _ ez h,d]
  ·refine Al (SB.item _ _ _ k _ (Nat.lt_of_not_le S) H λy g4 tk4 hy a4 L=>AN ?_)
   have o4:IsPair g4 tout x b:=L.extBut _ _ D.n9 o3
   refine Al (wpAny_seqItems o4 rfl ?_)
   refine Al (wpAny_updateSeq_pair o4 λf N p=>?_)
   have N:IsPair f tout x y:=N
   refine Al (wpAny_letGo (AN (AN ?_)))
   refine Al (wpAny_seqItems N rfl ?_)
   refine Al (wpAny_newTuple ?_)
   have sz:f.objs.size=s.heap.objs.size:=by rw[p.1,L.1,g.1,u.1,l.1]
   have z5:IsZip f z tin tout .ellipsis:=p.extBut _ _ (B2 D.n2) (L.extBut _ _ (B2 D.n4) (g.extBut _ _ (B2 D.n2) (u.extBut _ _ (B2 D.n3) Y)))
   have kp:∀c o,c≠z->c≠tout->c≠ia->c≠ib->s.heap.get? c=Z o->f.get? c=Z o:=λc o d B t K e=>
    p.extBut _ _ B (L.extBut _ _ K (g.extBut _ _ B (u.extBut _ _ t (l.extBut _ _ d e))))
   have a5:sa (k+1) f:=D.keepA i (D.keepA i (D.keepA i a2 (.inr (.inl rfl)) g) (.inr (.inr rfl)) L) (.inr (.inl rfl)) p
   have b5':sb (k+1) f:=D.keepB SB a4 (.inr (.inl rfl)) p
   have M:z<f.objs.size:=BC z5
   refine Al ?_
   have z6:IsZip (f.push {cls:=.type "tuple",data:=.seq (T' [x,y])}) z tin tout .ellipsis:=Br _ z5
   refine Al (HN z6 (by simp) λg7 z7 b7=>?_)
   refine HN z7 (by simp) λC z8 b8=>?_
   have P:∀c o,c≠z->f.get? c=Z o->C.get? c=Z o:=λc o d e=>b8.extBut _ _ d (b7.extBut _ _ d (Br _ e))
   have new:IsPair C f.objs.size x y:=b8.extBut _ _ (Hs M) (b7.extBut _ _ (Hs M) (Cc _ rfl))
   have s8:C.objs.size=f.objs.size+1:=by rw[b8.1,b7.1,LA]
   have a8:sa (k+1) C:=i.frame _ _ _ a5 λc v o e=>P c o (by
    rcases v with rfl|v
    ·exact D.n3
    ·exact(D.fz c (.inl v)).1) e
   have b8':sb (k+1) C:=SB.frame _ _ _ b5' λc v o e=>P c o (by
    rcases v with rfl|v
    ·exact D.n4
    ·exact(D.fz c (.inr v)).1) e
   rw[sz]at z8 new s8
   refine AN #[_,rfl,AN ?_]
   rw[sz]
   exact q (Nat.lt_of_not_le G) (Nat.lt_of_not_le S) x y C tk4 hx hy z8 (P _ _ D.n2 N) a8 b8' new s8 λc o d B t K e=>P c o d (kp c o d B t K e)
end
end
inductive AK where
 |l (a:Ac)
 |t (a:Ac)
 |x (s:Ae)
@[reducible] noncomputable def AK.v:AK->V
  |.l a=>.ref a
  |.t a=>.ref a
  |.x s=>.str s
@[reducible] def AK.fp:AK->U Ac
  |.l a=>[a]
  |.t a=>[a]
  |.x _=>[]
def AK.sq(K:Ao)(H:Hp):AK->U V->Prop
 |.l a=>BL K H a
 |.t a=>B3 K H a
 |.x s=>λb=>b=Gn s
def AK.nm:AK->String
 |.l _=>"list_iterator"
 |.t _=>"tuple_iterator"
 |.x s=>Mg s
def AK.ok(h:Ak)(xs:U V):AK->Prop
 |.l a=>∃b:Array Aa,An xs b.toList/\h.IsList a b
 |.t a=>∃b:Array Aa,An xs b.toList/\h.IsTuple a b
 |.x s=>xs=Gn s
def AK.it(h:Ak)(i:Ac)(k:Nat):AK->Prop
 |.l a=>h.IsListIter i a k
 |.t a=>h.IsTupleIter i a k
 |.x s=>∃t,h.IsStrIter i (Mg s) s t k
theorem AK.of(S:AK){c:AQ}{s:Ab}{xs:U V}(d:Inv X c I H s)(h:S.sq X.K H xs):S.ok s.heap xs:=by
 cases S with
 |l a=>obtain⟨b,r,p,z⟩:=d.list h;exact#[b.toArray,r,p.isList]
 |t a=>obtain⟨b,r,p,z⟩:=d.tuple h;exact#[b.toArray,r,(show s.heap.IsTuple a b.toArray from p)]
 |x s=>exact h
theorem AK.inj(S:AK){b:AQ}{s:Ab}{xs:U V}(c:Inv X b I H s)(h:S.sq X.K H xs)(h':S.sq X.K H ys):xs=ys:=by
 cases S with
 |l a=>exact c.list_inj h h'
 |t a=>exact c.tuple_inj h h'
 |x s=>exact(show xs=Gn s from h).trans (show ys=Gn s from h').symm
theorem AK.lt(S:AK){h:Ak}{xs:U V}(p:S.ok h xs):∀b∈S.fp,b<h.objs.size:=by
 intro b c;cases S with
 |l a=>rw[EO.mp c];obtain⟨d,_,o,e,_⟩:=p;exact BC e
 |t a=>rw[EO.mp c];obtain⟨d,_,o,e,_⟩:=p;exact BC e
 |x s=>cases c
theorem AK.okAt(S:AK){h:Ak}{xs:U V}(p:S.ok h xs)(k:∀b∈S.fp,∀o,h.get? b=Z o->h'.get? b=Z o):S.ok h' xs:=by
 cases S with
 |l a=>obtain⟨c,r,q⟩:=p;exact#[c,r,Heap.IsList.at q<|k a (by simp)]
 |t a=>obtain⟨c,r,q⟩:=p;exact#[c,r,Heap.IsTuple.at q<|k a (by simp)]
 |x s=>exact p
theorem AK.itAt(S:AK){h:Ak}{i:Ac}{n:Nat}(p:S.it h i n)(k:∀o,h.get? i=Z o->h'.get? i=Z o):S.it h' i n:=by
 cases S with
 |l a=>exact Heap.IsListIter.at p k
 |t a=>exact Heap.IsTupleIter.at p k
 |x s=>obtain⟨t,o,e,r⟩:=p;exact#[t,o,k o e,r]
theorem AK.itOb(S:AK){h:Ak}{i:Ac}{n:Nat}(p:S.it h i n):∃o,h.get? i=Z o/\∀v,o.data≠.cell v:=by
 cases S with
 |l a=>obtain⟨o,e,c,d⟩:=p;exact#[o,e,λv z=>by rw[d]at z;cases z]
 |t a=>obtain⟨o,e,c,d⟩:=p;exact#[o,e,λv z=>by rw[d]at z;cases z]
 |x s=>obtain⟨t,o,e,c,d⟩:=p;exact#[o,e,λv z=>by rw[d]at z;cases z]
theorem AK.sub(S:AK){P:AM}{w:Ai}{i:Ac}{h:Ak}{xs:U V}(p:S.ok h xs):∃st:Nat->Ak->Prop,HM P w i S.fp xs.length (λk v=>∃x,xs[k]?=Z x/\RelV x v) st/\(∀k,S.it h i k->st k h)/\∀k h',st k h'->S.it h' i k:=by
 cases S with
 |l a=>obtain⟨b,r,q⟩:=p;exact#[_,sH b r,λk e=>#[e,q],λk h' e=>e.1]
 |t a=>obtain⟨b,r,q⟩:=p;exact#[_,sI b r,λk e=>#[e,q],λk h' e=>e.1]
 |x s=>rw[show xs=Gn s from p];exact#[_,sJ s,λk e=>e,λk h' e=>e]
def AK.obj(S:AK)(u:Aa):Obj:={cls:=.type S.nm,data:=.fields (T' [u,.int 0 0])}
set_option tactic.hygienic true in
theorem AK.pyIter(S:AK){prog:AM}{w:Ai}{A:Ag}{E:AL}{s:Ab}{xs:U V}{u:Aa}(c:RelV S.v u){Q:AL}(p:S.ok s.heap xs)
  (q:Q (.ref s.heap.objs.size) {s with heap:=s.heap.push (S.obj u)}):wpAny (Af prog w) A (pyIter u) Q E s:=by
 cases S with
 |l a=>obtain⟨d,r,p⟩:=p;have e:u=.ref a:=c;subst e;exact OJ p q
 |t a=>obtain⟨d,r,p⟩:=p;have e:u=.ref a:=c;subst e;exact wpAny_pyIter_tuple p q
 |x x=>
  obtain⟨t,rfl⟩:=(show ∃t,u=Value.str x t from c)
  unfold AK.obj AK.nm Mg at q
  by_cases b:x.cps.all (·<128)=J'
  ·erw[b,if_true]at q;exact wpAny_pyIter_ascii b q
  ·erw[b,if_false]at q;exact wpAny_pyIter_wide (by simpa using b) q
theorem AK.new(S:AK){h:Ak}(b:RelV S.v u):S.it (h.push (S.obj u)) h.objs.size 0:=by
 cases S with
 |l a=>have e:=b;subst e;exact#[_,Cc _ rfl,rfl,rfl]
 |t a=>have e:=b;subst e;exact#[_,Cc _ rfl,rfl,rfl]
 |x x=>obtain⟨t,rfl⟩:=(show ∃t,u=Value.str x t from b);exact#[t,_,Cc _ rfl,rfl,rfl]
@[reducible] def NE(h:Ak)(A:AK)(u:Aa):Ak:=h.push (A.obj u)
@[reducible] def NF(h:Ak)(A B:AK)(u v:Aa):Ak:=(NE h A u).push (B.obj v)
@[reducible] def PM(h:Ak)(A B:AK)(u v:Aa):Ak:=(NF h A B u v).push {cls:=.type "tuple",data:=.seq (T' [.ref h.objs.size,.ref (NE h A u).objs.size])}
@[reducible] def PN(h:Ak)(A B:AK)(u v:Aa):Ak:=(PM h A B u v).push {cls:=.type "tuple",data:=.seq (T' [.none,.none])}
@[reducible] def K4(h:Ak)(A B:AK)(u v:Aa):Ak:=(PN h A B u v).push {cls:=.type "zip",data:=.fields (T' [.none,.bool O',.bool O',.ref (NF h A B u v).objs.size,.ref (PM h A B u v).objs.size])}
theorem sK(A B:AK){v:Aa}(f:RelV A.v u)(i:RelV B.v v)(xs ys:U V):Meets (Fk.«zip.__new__» #[[.type "zip",u,v],[]]) (λ_ R s=>A.ok s.heap xs/\B.ok s.heap ys/\R (.ok (.ret (.ref (PN s.heap A B u v).objs.size))) {s with heap:=K4 s.heap A B u v}):=.of_wp λprog w n R s h=>by
  obtain⟨a,g,d,c,os⟩:=s;obtain⟨j,k,q⟩:=h;have p:=sub_zip;have l:=j;have m:B.ok (Shared.heap #[a.push<|A.obj u,g,d,c,os]) ys:=B.okAt k λb _ o e=>Br _ e;wp_walk using A.pyIter f l,B.pyIter i m;exact#[_,rfl,q]
section
variable{prog:AM}{w:Ai}{A:Ag}{s:Ab}
theorem sL{S T:AK}{xs:U V}{v:Aa}(i:RelV S.v u)(j:RelV T.v v){Q:AL}(p1:S.ok s.heap xs)(p:T.ok s.heap ys) (q:∀h',IsZip h' (s.heap.objs.size+4) (s.heap.objs.size+2) (s.heap.objs.size+3) .none->IsPair h' (s.heap.objs.size+2) (.ref s.heap.objs.size) (.ref (s.heap.objs.size+1))->IsPair h' (s.heap.objs.size+3) .none .none->S.it h' s.heap.objs.size 0->T.it h' (s.heap.objs.size+1) 0->(∀c o,s.heap.get? c=Z o->h'.get? c=Z o)->Q (.ref (s.heap.objs.size+4)) {s with heap:=h' }):wpAny (Af prog w) A (call (.type "zip") [u,v]) Q E s:=by
 refine callType_new PySem.F.called_zip (by ext) (PySem.F.typeCall_zip_2 _ _) (PySem.F.newCall_zip_2 _ _) (λobj=>PySem.F.args_object_init_3 obj _ _) PySem.F.entry_zip_new (sK S T i j xs ys) #[p1,p,?_];have a:(NE s.heap S u).objs.size=s.heap.objs.size+1:=LA ..;have b:(NF s.heap S T u v).objs.size=s.heap.objs.size+2:=by rw[LA,a]
 have d:(PM s.heap S T u v).objs.size=s.heap.objs.size+3:=by rw[LA,b]
 have k:(PN s.heap S T u v).objs.size=s.heap.objs.size+4:=by rw[LA,d]
 have f:(K4 s.heap S T u v).get? (PN s.heap S T u v).objs.size=Z _:=Cc _ rfl;have l:(K4 s.heap S T u v).get? (PM s.heap S T u v).objs.size=Z _:=Br _<|Cc _ rfl;have m:(K4 s.heap S T u v).get? (NF s.heap S T u v).objs.size=Z _:=Br _<|Br _<|Cc _ rfl;have g:∀c o,(NF s.heap S T u v).get? c=Z o->(K4 s.heap S T u v).get? c=Z o:=λc o e=>Br _<|Br _<|Br _ e;have n:T.it (K4 s.heap S T u v) (NE s.heap S u).objs.size 0:=T.itAt (T.new (h:=NE s.heap S u) j) λo e=>g _ o e;have r:S.it (K4 s.heap S T u v) s.heap.objs.size 0:=S.itAt (S.new (h:=s.heap) i) λo e=>g _ o<|Br _ e;rw[b,d,k]at f;rw[a,b]at m;rw[d]at l;rw[a]at n;rw[k];exact⟨⟨_,f,rfl⟩,q _ f m l r n λc o e=>g _ _<|Br _<|Br _ e⟩
end
def bQ(K:Ao)(S T:AK):It:=
 #[λi H=>∃a b x y,S.sq K H a/\T.sq K H b/\a[i]?=Z x/\b[i]?=Z y,
  λi H v c=>∃p x y,v=.ref p/\H p=J/\c=AG H p (.tup [x,y])/\(∀a,S.sq K H a->a[i]?=Z x)/\∀b,T.sq K H b->b[i]?=Z y,
  λi H=>∃a b,S.sq K H a/\T.sq K H b/\(a.length<=i\/b.length<=i)]
theorem bR{n:Nat}{S T:AK}(a:∀b∈S.fp,b<n)(c:∀b∈T.fp,b<n):Ct (n+4) (n+2) (n+3) n (n+1) S.fp T.fp where
 n1:=by(show @Ne Nat _ _;exact W.Z.off_ne n 2 4 rfl)
 n2:=by(show @Ne Nat _ _;exact W.Z.off_ne n 3 4 rfl)
 n3:=by(show @Ne Nat _ _;lia)
 n4:=by(show @Ne Nat _ _;exact W.Z.off_ne n 1 4 rfl)
 n5:=by(show @Ne Nat _ _;exact W.Z.off_ne n 2 3 rfl)
 n6:=by(show @Ne Nat _ _;lia)
 n7:=by(show @Ne Nat _ _;exact W.Z.off_ne n 2 1 rfl)
 n8:=by(show @Ne Nat _ _;lia)
 n9:=by(show @Ne Nat _ _;exact W.Z.off_ne n 3 1 rfl)
 n10:=by(show @Ne Nat _ _;exact Nat.ne_add_one n)
 fz:=λb d=>by
  grind
theorem sM{P:AM}{w:Ai}{K:Ao}{m:U Expr} {x1} (S T:AK) (n:Nat) (h1:∀b∈S.fp,b<n) (h2:∀b∈T.fp,b<n):Ht P w K (.Tuple m x1 pos) (bQ K S T) [n+4,n+2,n+3,n,n+1] (n+4) (λi h=>IsZip h (n+4) (n+2) (n+3) .none/\IsPair h (n+2) (.ref n) (.ref (n+1))/\(∃a b,IsPair h (n+3) a b)/\S.it h n i/\T.it h (n+1) i) where
 mem:=by simp
 obj:=λi h z0 q f=>by
  obtain⟨z,a,⟨x,y,b⟩,c,d⟩:=z0;erw[Bo,L6,or_false]at f;rcases f with rfl|rfl|rfl|rfl|rfl
  ·exact#[_,z,λv e=>nomatch (show Data.fields _=Data.cell v from e)]
  ·exact#[_,a,λv e=>nomatch (show Data.seq _ _=Data.cell v from e)]
  ·exact#[_,b,λv e=>nomatch (show Data.seq _ _=Data.cell v from e)]
  ·exact S.itOb c
  ·exact T.itOb d
 keep:=λi h t ⟨z,a,⟨x,y,b⟩,c,d⟩ k=>#[k _ (by simp) _ z,k _ (by simp) _ a,#[x,y,k _ (by simp) _ b],S.itAt c λo e=>k _ (by simp) o e,T.itAt d λo e=>k _ (by simp) o e];item:=by
  intro X F L M hc i g s I H E zB A #[z,a,#[u,v,b],c,d] #[xs,ys,x,y,B,C,ex,N];subst F L M;obtain⟨sa,R,Q,c2⟩:=S.sub (P:=X.prog) (w:=X.w) (i:=n) (S.of zB B);obtain⟨zA,SB,Y,d2⟩:=T.sub (P:=X.prog) (w:=X.w) (i:=n+1) (T.of zB C);have l1:=(C8.mp ex).1;have l2:=(C8.mp N).1;refine bP (bR h1 h2) R SB z a b (Q _ c) (Y _ d) (λ_ _ x' y' t G hx' hy' z' to' c' d' new sz kp=>?_) λhl=>absurd hl (by lia);obtain⟨x2,p,ru1⟩:=hx';obtain⟨y2,r,ru2⟩:=hy';rw[ex]at p;cases p;rw[N]at r;cases r;have c':=c2 _ _ c';have d':=d2 _ _ d';refine#[_,rfl,wpAny_letOwnedTupleGo_zip z' λj z2 zA=>?_];have hlt:n+4<s.heap.objs.size:=BC z;have l:∀q o,q≠n+4->t.get? q=Z o->j.get? q=Z o:=λq o f e=>zA.extBut _ _ f e;have I1:Inv X g I (AG H s.heap.objs.size<|.tup [x,y]) {s with heap:=j,toks:=G}:=by
   refine Inv.tok (s:={s with heap:=j}) ?_ G;refine zB.yielded A (λq o f e=>l q o (λz=>f (by simp[z])) (kp q o (λz=>f (by simp[z])) (λz=>f (by simp[z])) (λz=>f (by simp[z])) (λz=>f (by simp[z])) e)) (Bf _) ?_;exact#[show 2<=Ax by ext,[x',y'],.cons ru1<|.cons ru2 .nil,⟨_,l _ _ (by(show @Ne Nat _ _;exact B2<|B9 hlt)) new,rfl,_,rfl⟩]
  refine#[.ref s.heap.objs.size,_,I1,rfl,#[_,x,y,rfl,zB.hok.fresh<|Bf _,rfl,λzs hz=>by rw[S.inj zB hz B];exact ex,λzs hz=>by rw[T.inj zB hz C];exact N],#[z2,l _ _ (by(show @Ne Nat _ _;exact W.Z.off_ne n 2 4 rfl))<|kp _ _ (by(show @Ne Nat _ _;exact W.Z.off_ne n 2 4 rfl)) (by(show @Ne Nat _ _;exact W.Z.off_ne n 2 3 rfl)) (by(show @Ne Nat _ _;lia)) (by(show @Ne Nat _ _;exact W.Z.off_ne n 2 1 rfl)) a,#[x',y',l _ _ (by(show @Ne Nat _ _;exact W.Z.off_ne n 3 4 rfl)) to'],S.itAt c' λo e=>l _ o (by(show @Ne Nat _ _;lia)) e,T.itAt d' λo e=>l _ o (by(show @Ne Nat _ _;lia)) e],λq f=>?_];rw[Zm]
  ·exact(A q f).1
  ·erw[Bo,L6,or_false]at f;rcases f with rfl|rfl|rfl|rfl|rfl<;>(show @Ne Nat _ _;lia)
 done:=by
  intro X F L M hc i g s I H E zB A #[z,a,#[u,v,b],c,d] #[xs,ys,B,C,hl];subst F L M;obtain⟨sa,R,Q,c2⟩:=S.sub (P:=X.prog) (w:=X.w) (i:=n) (S.of zB B);obtain⟨zA,SB,Y,d2⟩:=T.sub (P:=X.prog) (w:=X.w) (i:=n+1) (T.of zB C);exact bP (bR h1 h2) R SB z a b (Q _ c) (Y _ d) (λz1 z2=>absurd hl (by lia)) λ_=>#[zB.ok.hd hc,λt G kp=>#[rfl,Inv.tok (s:={s with heap:=t}) (zB.turnedL A λq o f e=>kp q o (λz=>f (by simp[z])) (λz=>f (by simp[z])) (λz=>f (by simp[z])) (λz=>f (by simp[z])) e) G]]
 self:=λ_ _ _ _ _ ⟨z,_⟩ q=>wpAny_pyIter_zip z q
theorem sN:Ec "zip"=Z (.type "zip"):=by decide +kernel
@[simp] noncomputable def FU:D->A0
  |.lst a=>Z a
  |.tup a=>Z a
  |.str s=>Z (s.cps.toList.map λc=>.str #[(T' [c])])
  |_=>J
theorem Tr{K:Ao}{M N:Fb}{d:D}{v:V}(h:O5 K M N H d v)(e:FU d=Z xs):∃(S:AK) (vs:U V),v=S.v/\Ad K N H xs vs/\∀g f,Step M N g H f->S.sq K f vs:=by
 cases d with
 |lst k m=>
  cases m with
  |d=>cases e
  |i _ _=>cases e
  |l=>
  cases e;obtain⟨a,vs,j,b,hd⟩:=h;refine#[.l a,vs,j,hd,λg f S=>?_];rcases b with⟨n,b⟩|b
  ·exact .inl<|b.step S (by rcases n with z|z;exact .inl z;exact .inr<|.inl z)
  ·exact b.sq
 |tup k=>
  cases e;obtain⟨a,vs,j,b,hd⟩:=h;exact#[.t a,vs,j,hd,λg f S=>b.step S]
 |str s=>
  cases e;refine#[.x s,Gn s,h,?_,λ_ _ _=>rfl];unfold Gn;generalize s.cps.toList=l;induction l with
  |nil=>exact Ad.nil
  |cons c l o=>exact Ad.cons (by erw[As]) o
 |_=>cases e
@[simp] def Fa(f g:AB):VE->A0:=λa=>match(f a).bind FU,(g a).bind FU with
  |some b,Z c=>Z (GG (λx y=>D.tup [x,y]) b c)
  |_,_=>J
theorem sO{K:Ao}{M N:Fb}{S T:AK}{ys:U D}{us:U V}(h:Ad K N H xs us)(j:Ad K N H ys vs)(n:∀c b,Step M N c H b->S.sq K b us)(o:∀c b,Step M N c H b->T.sq K b vs):LW K M N H (bQ K S T) (GG (λx y=>D.tup [x,y]) xs ys):=λc b St i=>by
 have e:=n _ _ St;have f:=o _ _ St;have q:=Ad.step St _ _ h;have r:=Ad.step St _ _ j;refine#[λd a=>?_,λa=>#[us,vs,e,f,?_]]
 ·rw[List.getElem?_zipWith]at a;cases ex:xs[i]? with|none=>simp[ex]at a|some x=>
   cases g:ys[i]? with|none=>simp[ex,g]at a|some y=>
    rw[ex,g]at a;cases a;obtain⟨u,k,s⟩:=q.get ex;obtain⟨v,l,t⟩:=r.get g;refine#[#[us,vs,u,v,e,f,k,l],λz G w=>?_];obtain⟨p,P,F,A,m,B,C,E⟩:=w;have:=C us e;rw[k]at this;cases this;have:=E vs f;rw[l]at this;cases this;subst A B;exact#[Yh m,Na m<|Ad.cons s<|Ad.cons t Ad.nil]
 ·have l1:=h.length;have L:=j.length;erw[List.length_zipWith]at a;lia
section
variable{M:Fb}{f g:AB}{a b:Expr}{p tpos:AD}
set_option tactic.hygienic true in
theorem sP {x1} (hg:Gl X "zip") (hm:X.mg "zip"=J) (E:JE X a (tQ X.K M H0 f)) (l:JE X b (tQ X.K M H0 g)) (hs:AC [a,b] X.env=[(O',Ap a X.env),(O',Ap b X.env)]:=by rfl) (c:AC [b] X.env=[(O',Ap b X.env)]:=by rfl) (G:AC [] X.env=[]:=by rfl):JI X (.Tuple elts x1 tpos) (.Call (.Name "zip" p) [a,b] [] pos) (tI X.K M H0 (Fa f g)):=#[have E:=E.h;have l:=l.h;by
 intro o s t H Q zA #[d,ds,R,e,q];unfold Fa at e;split at e
 ·next xs ys ex y=>
  cases e;cases F:f d with|none=>rw[F]at ex;cases ex|some d1=>
   cases i:g d with|none=>rw[i]at y;cases y|some d2=>
    rw[F]at ex;rw[i]at y;have L:=Z3 E (Z3 l A8 (by rw[c,G])) (by rw[hs,c]);refine Call_<|Hr zA hg hm sN<|MJ (AT (L pos o s t H (λvs m=>∃S T u w,vs=[AK.v S,AK.v T]/\Ah H m/\Ad X.K (Nf M d t) m xs u/\Ad X.K (Nf M d t) m ys w/\(∀A n,Step M (Nf M d t) A m n->S.sq X.K n u)/\∀A n,Step M (Nf M d t) A m n->T.sq X.K n w) zA ?_) λu N ⟨vs,H1,x,r1,P⟩=>?_) (by rw[hs,c]) (by rw[c];rfl)
    ·refine#[d,d1,R,F,λv1 H1 z1 P=>#[d,d2,R.st z1,i,λv2 m W q2=>?_]];obtain⟨S,u,Y,j,B⟩:=Tr P ex;obtain⟨T,w,e2,k,C⟩:=Tr q2 y;exact#[S,T,u,w,by rw[Y,e2],z1.trans W,j.same W,k,λA n St=>B _ _<|(Step.of_same W).trans St,C]
    ·obtain⟨S,T,us',w,Y,z,j,k,B,C⟩:=P;subst Y;cases r1 with
     |cons r rr=>
      cases rr with
      |cons r' rr=>
       cases rr;have o1:=S.of x<|B _ _ Step.refl;have o2:=T.of x<|C _ _ Step.refl;refine sL r r' o1 o2 λh' a1 a2 a3 a4 a5 kp=>wpAny_pyIter_zip a1 ?_;refine#[_,_,_,_,H1,rfl,x.kept (t':=N.toks) kp,sM S T N.heap.objs.size (S.lt o1)<|T.lt o2,⟨a1,a2,⟨_,_,a3⟩,a4,a5⟩,λb l=>?_,q _ _ z<|sO j k B C];have hl:N.heap.objs.size<=b:=by
        erw[Bo,L6,or_false]at l;rcases l with rfl|rfl|rfl|rfl|rfl<;>(show @LE.le Nat _ _ _;lia)
       exact x.fpOk hl<|x.hok.fresh hl
 ·cases e]
end
open PySem.W
abbrev ZL:=U (KT×U D)
noncomputable def Gp:ZL->KT->D->ZL
 |[],k,d=>[(k,[d])]
 |t::r,k,d=>if t.1=k then(t.1,t.2++[d])::r else t::Gp r k d
def HP(zs:ZL):Bw:=zs.map λz=>(z.1,.lst z.2)
def Ts(k:KT)(zs:ZL):Bool:=zs.all λz=>D6 z.1==D6 k
def PP(a b:AB)(ρ:VE)(zs:ZL):O ZL:=match a ρ,b ρ with
 |some y,Z d=>match Dh y with
  |some k=>if Ts k zs=J' then gd (zs.length<Ax/\∀z∈zs,z.2.length<Ax) (Z (Gp zs k d))else J
  |none=>J
 |_,_=>J
def IL(k:Nat)(b:D->VE->O VE)(g h:AB):U D->VE->ZL->O (VE×ZL)
 |[],c,e=>Z (c,e)
 |d::i,c,e=>match b d c with
  |some a=>match a[k]?,K1 a with
   |some .no,J'=>(PP g h a e).bind λf=>IL k b g h i a f
   |_,_=>J
  |none=>J
def PQ(k:Nat)(f:VE->A0)(b:D->VE->O VE)(a c:AB)(ρ:VE):DE:=match ρ[k]?,f ρ with
 |some (.own [] .d J),Z e=>if K1 ρ=J' then(match IL k b a c e (ρ.set k .no) []with
  |some p=>.next (p.1.set k (.own (Zb (HP p.2)) .d))
  |none=>.fail)else .fail
 |_,_=>.fail
structure Q4 where
 k:KT
 kv:V
 b:Ac
 z:List D
def q3(q:Q4):T3:=(q.k,q.kv,.ref q.b)
def qz(q:Q4):KT×U D:=(q.k,q.z)
noncomputable def GH:U Q4->KT->D->U Q4
 |[],_,_=>[]
 |q::r,k,d=>if q.k=k then{q with z:=q.z++[d]}::r else q::GH r k d
theorem bS(k:KT)(d:D):∀qs:U Q4,(GH qs k d).map Q4.b=qs.map Q4.b/\(GH qs k d).map Q4.k=qs.map Q4.k/\(GH qs k d).map q3=qs.map q3
 |[]=>#[rfl,rfl,rfl]
 |q::r=>by
  obtain⟨a,c,e⟩:=bS k d r;unfold GH;split
  ·exact#[rfl,rfl,rfl]
  ·erw[AS,a,c,e];exact#[trivial,trivial,trivial]
theorem Tt{k:KT}{d:D}:∀{qs:U Q4},k∈qs.map Q4.k->(GH qs k d).map qz=Gp (qs.map qz) k d
 |[],h=>nomatch h
 |q::r,h=>by
  unfold GH;split
  ·grind [Gp,qz]
  ·next e=>
   have:k∈r.map Q4.k:=by
    grind
   erw[AS,Gp];rw[Tt this,if_neg (show ¬ (qz q).1=k from e)]
theorem bT{k:KT}{d:D}:∀{qs:U Q4},k∉qs.map Q4.k->Gp (qs.map qz) k d=qs.map qz++[(k,[d])]
 |[],_=>rfl
 |q::r,h=>by
  erw[AS,Bo,not_or]at h;erw[AS,Gp,Ga];rw[if_neg (show ¬ (qz q).1=k from λz=>h.1 z.symm),bT h.2]
theorem bU{k:KT}{d:D}:∀{qs:U Q4},(qs.map Q4.k).Nodup->∀c∈GH qs k d,(c∈qs/\c.k≠k)\/∃q∈qs,q.k=k/\c={q with z:=q.z++[d]}
 |[],_,_,h=>nomatch h
 |q::r,nd,c,h=>by
  erw[AS,E5]at nd;unfold GH at h;split at h
  ·next e=>
   rcases Bo.mp h with z|z
   ·exact .inr #[q,Ba,e,z]
   ·exact .inl #[Be _ z,λf=>nd.1 (by rw[e,<- f];exact FV z)]
  ·next e=>
   rcases Bo.mp h with z|z
   ·rw[z];exact .inl #[Ba,e]
   ·rcases bU nd.2 c z with⟨a,b⟩|⟨q0,a,b⟩
    ·exact .inl #[Be _ a,b]
    ·exact .inr #[q0,Be _ a,b]
theorem Fw{k:KT}:∀{qs:U Q4},(∀v,Cp (qs.map q3) k=Z v->∃q∈qs,q.k=k/\v=.ref q.b)/\(Cp (qs.map q3) k=J->k∉qs.map Q4.k)
 |[]=>#[λ_ h=>(nomatch h),λ_ h=>nomatch h]
 |q::r=>by
  obtain⟨c,i2⟩:=Fw;erw[AS,Cp];refine#[λv h=>?_,λh=>?_]
  ·split at h
   ·next e=>cases h;exact#[q,Ba,e,rfl]
   ·obtain⟨q0,a,b⟩:=c v h;exact#[q0,Be _ a,b]
  ·split at h
   ·cases h
   ·next e=>exact λz=>(Bo.mp z).elim (λz=>e z.symm) (i2 h)
theorem By.step{K:Ao}{M N b:Fb}(S:Step M N b H H'){k:KT}{v:V}(h:By K H k v):By K H' k v:=by
 cases k with
 | «at» a=>exact h
 |tup l=>obtain⟨p,e,q⟩:=h;exact#[p,e,q.step S]
theorem sQ{K:Ao}{N:Fb}{k:KT}{v:V}(h:By K H k v):As K N H (kD k) v:=by
 have at_:∀(a:At),As K N H (aD a) (E3 a):=λa=>by cases a<;>erw[aD,E3,As]
 cases k with| «at» a=>rw[show v=E3 a from h];exact at_ a|tup l=>
  obtain⟨p,e,q⟩:=h;refine#[p,_,e,q,?_];clear q;induction l with
  |nil=>exact Ad.nil
  |cons a l b=>exact Ad.cons (at_ a) b
theorem Tu{d g:Type}{f:d->g}:∀{l:U d},(l.map f).Nodup->∀{x y:d},x∈l->y∈l->f x=f y->x=y
 |[],_,_,_,h,_,_=>nomatch h
 |c::l,nd,x,y,i,j,e=>by
  erw[AS,E5]at nd;rcases Bo.mp i with a|a<;>rcases Bo.mp j with b|b
  ·rw[a,b]
  ·rw[a]at e;exact absurd (e ▸ FV b) nd.1
  ·rw[b]at e;exact absurd (e ▸ FV a) nd.1
  ·exact Tu nd.2 a b e
structure BB(K:Ao)(M:Fb)(H0:Hp)(k:Nat)(a:Ac)(ρ:VE)(qs:List Q4)(I:St)(H:Hp):Prop where
 rel:Bh K (M3 M a (qs.map Q4.b)) H0 ρ I H
 pin:ρ[k]?=Z .no/\I[k]?=Z (Z (.ref a))
 out:H a=Z (Dq (qs.map q3))
 ins:∀q∈qs,By K H q.k q.kv/\∃vs,H q.b=Z (.lst vs)/\Ad K (Nf (M3 M a (qs.map Q4.b)) ρ I) H q.z vs
 nd:(qs.map Q4.b).Nodup
 ne:a∉qs.map Q4.b
 kn:(qs.map Q4.k).Nodup
 fr:∀y,y=a\/y∈qs.map Q4.b->H0 y=J/\¬ M y
 dp:K1 ρ=J'
section
variable{K:Ao}{M:Fb}{k:Nat}{ρ':VE}{qs:U Q4}{σ':St}
theorem BB.over(R:BB K M H0 k a ρ qs I H)(d:Bh K (M3 M a (qs.map Q4.b)) H0 ρ' σ' H')(S:Step (M3 M a (qs.map Q4.b)) (Nf (M3 M a (qs.map Q4.b)) ρ I) (Nf (M3 M a (qs.map Q4.b)) ρ' σ') H H')(p:ρ'[k]?=Z .no/\σ'[k]?=Z (Z (.ref a)))(dp:K1 ρ'=J'):BB K M H0 k a ρ' qs σ' H':=#[d,p,S.kp _ _ R.out<|.inr<|.inl<|.inr<|.inl rfl,λq c=>by
  obtain⟨e,f,g,h⟩:=R.ins q c;exact#[e.step S,f,S.kp _ _ g<|.inr<|.inl<|.inr<|.inr<|FV c,Ad.step S _ _ h],R.nd,R.ne,R.kn,R.fr,dp]
theorem BB.st(R:BB K M H0 k a ρ qs I H)(s:Ah H H'):BB K M H0 k a ρ qs I H':=R.over (R.rel.st s) (Step.of_same s) R.pin R.dp
theorem BB.chg{c:Ac}{u u':HO}(R:BB K M H0 k a ρ qs I H)(l:c=a\/c∈qs.map Q4.b)(t:H c=Z u)(v:FL u=J'):Bh K (M3 M a (qs.map Q4.b)) H0 ρ I (AG H c u')/\Step M (Nf (M3 M a (qs.map Q4.b)) ρ I) (Nf (M3 M a (qs.map Q4.b)) ρ I) H (AG H c u'):=by
 obtain⟨r,A⟩:=R.fr c l;have S:Step (λy=>M3 M a (qs.map Q4.b) y/\y≠c) (Nf (M3 M a<|qs.map Q4.b) ρ I) (Nf (M3 M a<|qs.map Q4.b) ρ I) H (AG H c u'):=#[λd o e z=>by
  by_cases hd:d=c
  ·subst hd;rcases z with z|z|z
   ·exact absurd (.inl<|.inr l) z
   ·exact absurd rfl z.2
   ·rw[t]at e;cases e;simp[v]at z
  ·rw[Zm hd];exact e,λ_ h=>.inl h]
 refine#[#[R.rel.len,λd o e=>?_,λd h=>?_,λj s e=>?_,R.rel.inj],#[λd o e z=>S.kp d o e<|z.imp id<|Or.imp (λm=>#[.inl m,λw=>A<|w ▸ m]) id,S.nw]]
 ·have:d≠c:=λz=>by simp[z,r]at e
  rw[Zm this];exact R.rel.same d o e
 ·by_cases hd:d=c
  ·rw[hd,ZH];exact λz=>nomatch z
  ·rw[Zm hd];exact R.rel.mh d h
 ·have q:=R.rel.slot j s e;cases s with
  |no=>trivial
  |val d=>obtain⟨w,g,f⟩:=q;exact#[w,g,As.step S _ _ f]
  |own B E F=>
   obtain⟨d,n,g,f,i,p,G⟩:=q;have:d≠c:=λz=>i<|z ▸ .inr l;exact⟨d,n,g,f,i,by rw[Zm this];exact p,Ad.step S _ _ G⟩
  |lent B E=>
   obtain⟨d,n,g,f,i,p⟩:=q;have:d≠c:=λz=>f.2 (by rw[z];exact r);exact#[d,n,g,f,i.step S<|.inr<|.inl ⟨f.1,this⟩,Ad.step S _ _ p]
  |exc d=>obtain⟨x,C,g,f,i⟩:=q;exact#[x,C,g,f,S.kp _ _ i<|.inr<|.inr rfl]
theorem BB.app{q:Q4}{d:D}{v:V}(R:BB K M H0 k a ρ qs I H)(i:q∈qs)(p:H q.b=Z (.lst vs))(hd:As K (Nf (M3 M a (qs.map Q4.b)) ρ I) H d v):BB K M H0 k a ρ (GH qs q.k d) I (AG H q.b (.lst (vs++[v])))/\Step M (Nf (M3 M a (qs.map Q4.b)) ρ I) (Nf (M3 M a ((GH qs q.k d).map Q4.b)) ρ I) H (AG H q.b (.lst (vs++[v]))):=by
 obtain⟨f,t,u⟩:=bS q.k d qs;have r:q.b∈qs.map Q4.b:=FV i;obtain⟨w,g⟩:=R.chg (u':=.lst<|vs++[v]) (.inr r) p rfl;have j:a≠q.b:=λe=>R.ne<|e ▸ r;have l:∀c∈qs,c.k=q.k->c=q:=λc m e=>Tu R.kn m i e;rw[f];refine#[#[by rw[f];exact w,R.pin,by rw[u,Zm j];exact R.out,λc m=>?_,by rw[f];exact R.nd,by rw[f];exact R.ne,by rw[t];exact R.kn,by rw[f];exact R.fr,R.dp],g];rw[f];rcases bU R.kn c m with⟨m1,m2⟩|⟨q0,m1,m2,x⟩
 ·obtain⟨n,s,h,o⟩:=R.ins c m1;have:c.b≠q.b:=λe=>m2 (by rw[Tu R.nd m1 i e]);exact#[n.step g,s,by rw[Zm this];exact h,Ad.step g _ _ o]
 ·have y:=l q0 m1 m2;subst y x;obtain⟨n,s,h,o⟩:=R.ins q0 m1;rw[p]at h;cases h;exact#[n.step g,_,ZH,Ad.step g _ _<|o.append<|Ad.cons hd Ad.nil]
theorem BB.new{g:KT}{w:V}{p:Ac}(R:BB K M H0 k a ρ qs I H)(n:H p=J)(hk:By K H g w)(hn:g∉qs.map Q4.k):BB K M H0 k a ρ (qs++[(#[g,w,p,[]]:Q4)]) I (AG (AG H p (.lst [])) a (Dq (qs.map q3++[(g,w,.ref p)])))/\Step M (Nf (M3 M a (qs.map Q4.b)) ρ I) (Nf (M3 M a ((qs++[(#[g,w,p,[]]:Q4)]).map Q4.b)) ρ I) H (AG (AG H p (.lst [])) a (Dq (qs.map q3++[(g,w,.ref p)]))):=by
 have W:p≠a:=λe=>by simp[e,R.out]at n
 have N:p∉qs.map Q4.b:=λh=>by
  obtain⟨q,hq,e⟩:=Bp.mp h;obtain⟨_,vs,f,_⟩:=R.ins q hq;grind
 have A:Ah H (AG H p<|.lst []):=Z5 n;have S:=R.st A;obtain⟨r,S1⟩:=S.chg (u':=Dq<|qs.map q3++[(g,w,.ref p)]) (.inl rfl) S.out rfl;generalize B:AG (AG H p<|.lst []) a (Dq<|qs.map q3++[(g,w,.ref p)])=Y at *;have ep:Y p=Z (.lst []):=by rw[<- B,Zm W,ZH]
 have C:(qs++[(#[g,w,p,[]]:Q4)]).map Q4.b=qs.map Q4.b++[p]:=by simp
 have nf:∀y,Nf (M3 M a<|qs.map Q4.b++[p]) ρ I y->Nf (M3 M a<|qs.map Q4.b) ρ I y\/y=p:=by
  rintro y ((h|h|h)|h)
  ·exact .inl<|.inl<|.inl h
  ·exact .inl<|.inl<|.inr<|.inl h
  ·rcases Dw.mp h with h|h
   ·exact .inl<|.inl<|.inr<|.inr h
   ·exact .inr<|EO.mp h
  ·exact .inl<|.inr h
 have np:¬ Nf (M3 M a<|qs.map Q4.b) ρ I p:=R.rel.fresh n;have t:Step M (Nf (M3 M a<|qs.map Q4.b) ρ I) (Nf (M3 M a<|qs.map Q4.b++[p]) ρ I) H Y:=#[λc o e z=>S1.kp c o (A c o e) z,λy h=>(nf y h).imp id λ(z:y=p)=>by rw[z];exact n];rw[C];refine#[#[?_,R.pin,?_,λq' E=>?_,?_,?_,?_,λy l=>?_,R.dp],t]
 ·rw[C];refine#[r.len,r.same,λy l=>?_,λj s e=>?_,r.inj]
  ·rcases l with h|h|h
   ·exact r.mh y<|.inl h
   ·exact r.mh y<|.inr<|.inl h
   ·rcases Dw.mp h with h|h
    ·exact r.mh y<|.inr<|.inr h
    ·rw[EO.mp h,ep];exact λz=>nomatch z
  ·have q0:=R.rel.slot j s e;have q:=r.slot j s e;cases s with
   |no=>trivial
   |val d=>obtain⟨w,G,i⟩:=q0;exact#[w,G,As.step t _ _ i]
   |own xs fl oo=>
    obtain⟨c,F,G,i,f,u,h4⟩:=q0;obtain⟨L,P,v,_,Q,h3',_⟩:=q;have ec:L=c:=by rw[G]at v;simpa using v.symm
    subst ec;refine#[L,F,G,i,λz=>?_,?_,Ad.step t _ _ h4]
    ·rcases z with z|z|z
     ·exact f<|.inl z
     ·exact f<|.inr<|.inl z
     ·rcases Dw.mp z with z|z
      ·exact f<|.inr<|.inr z
      ·rw[EO.mp z,n]at u;cases u
    ·have n1:L≠a:=λz=>f<|.inr<|.inl z;rw[<- B,Zm n1];exact A _ _ u
   |lent xs fl=>
    obtain⟨c,F,G,i,f,u⟩:=q0;obtain⟨L,P,v,_,Q,_⟩:=q;refine#[c,F,G,#[i.1.imp id<|Or.imp id λh=>Ii _ h,i.2],?_,Ad.step t _ _ u];have n1:c≠a:=λz=>i.2 (by rw[z];exact(R.fr a<|.inl rfl).1);rcases f with f|⟨o,f⟩
    ·exact .inl (by rw[<- B,Zm n1];exact A _ _ f)
    ·exact .inr #[o,by rw[<- B,Zm n1];exact A _ _ f]
   |exc c=>exact q
 ·rw[<- B,ZH];simp[q3]
 ·rw[C];rcases Dw.mp E with E|E
  ·obtain⟨i,F,f,u⟩:=R.ins q' E;have n1:q'.b≠a:=λe=>R.ne<|e ▸ FV E;exact⟨i.step t,F,by rw[<- B,Zm n1];exact A _ _ f,Ad.step t _ _ u⟩
  ·rw[EO.mp E];exact#[hk.step t,[],ep,Ad.nil]
 ·rw[C];exact HE.mpr #[R.nd,by simp,λx T y l=>by rw[EO.mp l];exact λz=>N<|z ▸ T]
 ·rw[C];intro h;rcases Dw.mp h with h|h
  ·exact R.ne h
  ·exact W (EO.mp h).symm
 ·have:(qs++[(#[g,w,p,[]]:Q4)]).map Q4.k=qs.map Q4.k++[g]:=by simp
  rw[this];exact HE.mpr #[R.kn,by simp,λx T y l=>by rw[EO.mp l];exact λz=>hn<|z ▸ T]
 ·rw[C]at l;rcases l with h|h
  ·exact R.fr y<|.inl h
  ·rcases Dw.mp h with h|h
   ·exact R.fr y<|.inr h
   ·rw[EO.mp h];exact#[R.rel.same.free n,λm=>np<|.inl<|.inl m]
end
section
variable{K:Ao}{M:Fb}{k:Nat}{qs:U Q4}
theorem BB.open(R:Bh K M H0 ρ I H)(r:ρ[k]?=Z (.own [] .d J))(n:I[k]?=Z (Z (.ref a)))(dp:K1 ρ=J'):BB K M H0 k a (ρ.set k .no) [] I H/\Nf (M3 M a []) (ρ.set k .no) I=Nf M ρ I:=by
 obtain⟨W,vs,l,⟨F,_⟩,L,E,N⟩:=R.slot k _ r;rw[n]at l;have P:a=W:=by simpa using l
 subst P;subst N;have o:=(C8.mp r).1;have u:∀{i b f g},(ρ.set k .no)[i]?=Z (Sl.own b f g)->ρ[i]?=Z (Sl.own b f g)/\i≠k:=λ{i b f g} z=>by
  grind
 have G:Nf (M3 M a []) (ρ.set k .no) I=Nf M ρ I:=by
  funext y;refine propext #[?_,?_]
  ·rintro((h|h|h)|⟨i,b,f,g,p,m⟩)
   ·exact .inl h
   ·exact .inr #[k,[],.d,J,r,by rw[h];exact n]
   ·cases h
   ·exact .inr #[i,b,f,g,(u p).1,m]
  ·rintro(h|⟨i,b,f,g,p,m⟩)
   ·exact .inl<|.inl h
   ·by_cases e:k=i
    ·subst e;rw[n]at m;cases m;exact .inl<|.inr<|.inl rfl
    ·exact .inr #[i,b,f,g,by rw[Ed e];exact p,m]
 refine#[#[#[by rw[OV];exact R.len,R.same,λy v=>?_,λj s e=>?_,λi j b Q f w g x c p m T S=>R.inj i j b Q f w g x c (u p).1 (u m).1 T S],#[Gw o,n],E,λq h=>(nomatch h),.nil,λh=>(nomatch h),.nil,λy v=>?_,?_],G]
 ·rcases v with h|h|h
  ·exact R.mh y h
  ·rw[h,E];exact λz=>nomatch z
  ·cases h
 ·show Sn K (M3 M a []) (Nf (M3 M a []) (ρ.set k .no) I) H0 H s _
  rw[G];by_cases A:k=j
  ·subst A;rw[Gw o]at e;cases e;trivial
  ·rw[Ed A]at e;have q:=R.slot j s e;cases s with
   |own b f g=>
    obtain⟨c,B,l,t,C,Y⟩:=q;refine#[c,B,l,t,λz=>?_,Y];rcases z with z|z|z
    ·exact C z
    ·exact A<|R.inj k j [] b .d f J g a r e n (by rw[<- z];exact Fp l)
    ·cases z
   |lent b f=>obtain⟨c,B,l,t,C⟩:=q;exact#[c,B,l,#[.inl t.1,t.2],C]
   |no=>trivial
   |val d=>exact q
   |exc c=>exact q
 ·rcases v with h|h
  ·rw[h];exact#[F,L]
  ·cases h
 ·refine D4.mpr λs hs=>?_;rcases List.mem_or_eq_of_mem_set hs with h|h
  ·exact D4.mp dp s h
  ·rw[h];rfl
theorem BB.pd{N:Fb}(d:∀q∈qs,¬ N q.b)(h:∀q∈qs,By K H q.k q.kv/\∃vs,H q.b=Z (.lst vs)/\Ad K N H q.z vs):PD K N H (HP (qs.map qz)) (qs.map q3):=by
 induction qs with|nil=>exact .nil|cons q r e=>
  obtain⟨f,vs,g,i⟩:=h q Ba;exact .cons #[rfl,sQ f,#[q.b,vs,rfl,.of (d q Ba) g,i]]<|e (λa c=>d a<|Be _ c) λa c=>h a<|Be _ c
theorem BB.close(R:BB K M H0 k a ρ qs I H):Bh K M H0 (ρ.set k (.own (Zb (HP (qs.map qz))) .d)) I H/\∀y,Nf M (ρ.set k (.own (Zb (HP (qs.map qz))) .d)) I y->Nf (M3 M a (qs.map Q4.b)) ρ I y:=by
 have v:=(C8.mp R.pin.1).1;have x:∀{i g l n},(ρ.set k<|.own (Zb<|HP<|qs.map qz) .d)[i]?=Z (Sl.own g l n)->i=k\/(i≠k/\ρ[i]?=Z (Sl.own g l n)):=λ{i g l n} z=>by
  grind
 have A:∀y,Nf M (ρ.set k<|.own (Zb<|HP<|qs.map qz) .d) I y->Nf (M3 M a<|qs.map Q4.b) ρ I y/\y∉qs.map Q4.b:=by
  rintro y (h|⟨i,g,l,n,B,t⟩)
  ·exact#[.inl<|.inl h,λm=>(R.fr y<|.inr m).2 h]
  ·rcases x B with e|⟨e,w⟩
   ·subst e;rw[R.pin.2]at t;cases t;exact#[.inl<|.inr<|.inl rfl,R.ne]
   ·refine#[.inr #[i,g,l,n,w,t],λm=>?_];obtain⟨c,u,f,_,p,_⟩:=R.rel.slot i _ w;rw[t]at f;have:c=y:=by simpa using f.symm
    exact p<|this ▸ .inr (.inr m)
 have nw:∀y,Nf M (ρ.set k<|.own (Zb<|HP<|qs.map qz) .d) I y->Nf (M3 M a<|qs.map Q4.b) ρ I y\/H y=J:=λy h=>.inl (A y h).1;refine#[#[by rw[OV];exact R.rel.len,R.rel.same,λy h=>R.rel.mh y<|.inl h,λj s e=>?_,λi j g ys l C n E c B t G W=>?_],λy h=>(A y h).1]
 ·by_cases Q:k=j
  ·subst Q;rw[Gw v]at e;cases e;have T:=BB.pd (N:=Nf M (ρ.set k<|.own (Zb<|HP<|qs.map qz) .d) I) (λq F h=>(A _ h).2<|FV F) λq F=>by
    obtain⟨o,vs,p,r⟩:=R.ins q F;exact#[o,vs,p,r.nw nw]
   exact#[a,DS<|qs.map q3,by rw[R.pin.2];rfl,⟨(R.fr a<|.inl rfl).1,λ_ z=>(nomatch z)⟩,(R.fr a<|.inl rfl).2,by rw[HJ T];exact R.out,T.flat]
  ·rw[Ed Q]at e;have q:=R.rel.slot j s e;cases s with
   |no=>trivial
   |val d=>obtain⟨w,f,o⟩:=q;exact#[w,f,o.nw nw]
   |own g l n=>obtain⟨c,u,f,o,p,r,L⟩:=q;exact#[c,u,f,o,λz=>p<|.inl z,r,L.nw nw]
   |lent g l=>obtain⟨c,u,f,o,p,r⟩:=q;exact#[c,u,f,#[o.1.elim id λhc=>absurd (R.fr c hc).1 o.2,o.2],p,r.nw nw]
   |exc c=>exact q
 ·have no:∀{i g l n},ρ[i]?=Z (Sl.own g l n)->I[i]?=Z (Z<|V.ref c)->I[k]?≠Z (Z<|V.ref c):=λ{i g l n} o p r=>by
   rw[R.pin.2]at r;cases r;obtain⟨c',u,f,_,L,_⟩:=R.rel.slot i _ o;rw[p]at f;have:c'=a:=by simpa using f.symm
   exact L<|this ▸ .inr (.inl rfl)
  rcases x B with f|⟨f,S⟩<;>rcases x t with P|⟨P,Y⟩
  ·rw[f,P]
  ·subst f;exact absurd G<|no Y W
  ·subst P;exact absurd W<|no S G
  ·exact R.rel.inj i j g ys l C n E c S Y G W
variable{ev:Expr}{f:VE->A0}{b:D->VE->O VE}{fk fv:AB}{x:Ae}{lp vp a1 c1 a2 c2 ep:AD}
set_option tactic.hygienic true in
theorem sR(hu:X.A.units+64<Aq)(hp:Bz (Af X.prog X.w) X.A X.env X.xe)(hc:X.calm=J')(hi:JI X tg iter (tI X.K M H0 f))(hg:∀M,JG X tg (tG X.K M H0 ws b))(hek:∀M,JE X ek (tP X.K M H0 fk))(hev:∀M,JE X ev (tD X.K M H0 fv))(hw:k∉ws:=by ext) (hN:NV X k x:=by exact EF) (hbase:F6 (.Name x vp) "setdefault" X.env (Ap (.Name x vp) X.env)=Ap (.Name x vp) X.env:=by rfl) (hfew:((Au c1 (AC [ek,.List [] lp] X.env)).all (λx=>!x.1)&&(F7 c1 (F8 [] X.env)).all (λx=>x.1.isSome) && decide ([ek,.List [] lp].length+([]:U D1).length+(if([]:U D1).isEmpty then 0 else 1)<30))=J':=by rfl) (hline:(a1.endLine==c1.line)=J':=by rfl) (hst:AC [ek,.List [] lp] X.env=(O',Ap ek X.env)::AC [.List [] lp] X.env:=by exact ZR rfl) (hst2:AC [.List [] lp] X.env=(O',Ap (.List [] lp) X.env)::AC [] X.env:=by exact ZR rfl) (hpl:(Au c1 (AC [.List [] lp] X.env)).any (·.1)=O':=by rfl) (T:F6 (.Call (.Attribute (.Name x vp) "setdefault" a1) [ek,.List [] lp] [] c1) "append" X.env (Ap (.Call (.Attribute (.Name x vp) "setdefault" a1) [ek,.List [] lp] [] c1) X.env)=Ap (.Call (.Attribute (.Name x vp) "setdefault" a1) [ek,.List [] lp] [] c1) X.env:=by rfl) (hfew2:((Au c2 (AC [ev] X.env)).all (λx=>!x.1)&&(F7 c2 (F8 [] X.env)).all (λx=>x.1.isSome) && decide ([ev].length+([]:U D1).length+(if([]:U D1).isEmpty then 0 else 1)<30))=J':=by rfl) (W:(a2.endLine==c2.line)=J':=by rfl) (hst3:AC [ev] X.env=(O',Ap ev X.env)::AC [] X.env:=by exact ZR rfl) (hpl2:(Au c2 (AC [] X.env)).any (·.1)=O':=by rfl) (hsw:Ef (.Call (.Attribute (.Call (.Attribute (.Name x vp) "setdefault" a1) [ek,.List [] lp] [] c1) "append" a2) [ev] [] c2) J ep.line X.env=AA O':=by rfl) (hs:∀x,EQ iter X.env x=AA x:=by intro _;rfl):JS X (.For tg iter [.Expr (.Call (.Attribute (.Call (.Attribute (.Name x vp) "setdefault" a1) [ek,.List [] lp] [] c1) "append" a2) [ev] [] c2) ep] [] pos) (tS X.K M H0 (PQ k f b fk fv)):=#[by
 have hgt:PG X tg (λv I H Q=>∃M,tG X.K M H0 ws b v I H Q):=λC s I H v u Q zA r ⟨M,h⟩=>(hg M).h C s I H v u Q zA r h;have pk:PE X ek (λI H Q=>∃M,tP X.K M H0 fk I H Q):=λC s I H Q zA ⟨M,z⟩=>(hek M).h C s I H Q zA z;have pv:PE X ev (λI H Q=>∃M,tD X.K M H0 fv I H Q):=λC s I H Q zA ⟨M,z⟩=>(hev M).h C s I H Q zA z;have pb:=RH (OD (Hv O4 Yw Yx R0
  (Hv SX SS PySem.F.type_dict_setdefault (aE hu) (Gy hN) (Z3 pk (Z3 (XC A8) A8 hst2) hst) hbase hfew hline hst hpl) (Z3 pv A8 hst3) T hfew2 W hst3 hpl2) hsw)<|Eu (X:=X)
 refine(ON hp hc hi.h hgt pb hs).mono λD I H ⟨ρ,R,q⟩=>?_;unfold PQ at q;split at q
 ·next G hk hf=>
  split at q
  ·next dp=>
   split at q
   ·next pr hfor=>
    refine#[ρ,G,R,hf,λP H1 s1 ok=>?_];have R1:=R.st s1;obtain⟨a,vs,e1,_⟩:=R1.slot k _ hk;have ha:=Fp e1;obtain⟨G0,en⟩:=BB.open R1 hk ha dp;refine#[λi m σi Hi=>m=G.length-i/\i<=G.length/\∃d j,BB X.K M H0 k a d j σi Hi/\Step M (Nf M ρ I) (Nf (M3 M a<|j.map Q4.b) d σi) H1 Hi/\IL k b fk fv (G.drop i) d (j.map qz)=Z pr,#[G.length,by simp,FD _,_,[],G0,by rw[<- en];exact Step.refl,hfor],?_];rintro i m σi Hi ⟨rfl,hle,d,j,Ri,Si,fi⟩;obtain⟨ok1,ok2⟩:=ok _ _ Si i;by_cases S:i<G.length
    ·obtain⟨go,y⟩:=ok1 G[i]<|CK S;rw[MU S]at fi;erw[IL]at fi;split at fi
     ·next E hb=>
      split at fi
      ·next h1k h1d=>
       obtain⟨zs',g,fi⟩:=B4.mp fi;refine .inr #[go,λσ' H'=>i+1<=G.length/\∃d j,BB X.K M H0 k a d j σ' H'/\Step M (Nf M ρ I) (Nf (M3 M a<|j.map Q4.b) d σ') H1 H'/\IL k b fk fv (G.drop<|i+1) d (j.map qz)=Z pr,λσ' H' z=>#[G.length-(i+1),by exact Nat.sub_succ_lt_self G.length i S,rfl,z],λv H' yl=>?_];obtain⟨s3,hd⟩:=y v H' yl;have R3:=Ri.st s3;refine#[_,d,G[i],E,R3.rel,hd,hb,λL Rb Sb fx=>?_];have R4:BB X.K M H0 k a E j L H':=R3.over Rb Sb #[h1k,by rw[fx k hw];exact R3.pin.2] h1d;have S4:Step M (Nf M ρ I) (Nf (M3 M a<|j.map Q4.b) E L) H1 H':=Si.trans<|(Step.of_same s3).trans ⟨λc o e z=>Sb.kp c o e<|z.imp id<|Or.imp .inl id,Sb.nw⟩;unfold PP at g;split at g
       ·next yk dv hfk hfv=>
        split at g
        ·next B hkt=>
         split at g
         ·next hom=>
          obtain⟨⟨hl1,hl2⟩,e'⟩:=O8 g;cases e';refine#[.ref a,R4.pin.2,.inr<|.inr ⟨rfl,_,_,.inl R4.out⟩,M3 M a<|j.map Q4.b,E,yk,R4.rel,hfk,λw H5 s5 hw5=>#[FD _,λp Y=>?_]];have R5:=R4.st s5;rw[HG hkt]at hw5;have kv5:By X.K H5 B w:=HH<|HI hw5;have homk:He B (j.map q3):=by
           have:=D4.mp hom;cases B with
           | «at» u=>
            intro t ht;obtain⟨q0,n,rfl⟩:=Bp.mp ht;have:=this (qz q0)<|FV n;cases hq:q0.k with
            | «at» v=>exact#[v,by rw[<- hq];rfl]
            |tup l=>simp[qz,hq,D6]at this
           |tup u=>
            intro t ht;obtain⟨q0,n,rfl⟩:=Bp.mp ht;have:=this (qz q0)<|FV n;cases hq:q0.k with
            | «at» v=>simp[qz,hq,D6]at this
            |tup l=>exact#[l,by rw[<- hq];rfl]
          have hpa:p≠a:=λe=>by rw[e,R5.out]at Y;cases Y
          have s6:Ah H5 (AG H5 p<|.lst []):=Z5 Y;have R6:=R5.st s6;have fin:∀(q:Q4) (qj:U Q4) (H6:Hp),q∈qj->q.k=B->BB X.K M H0 k a E qj L H6->Step M (Nf M ρ I) (Nf (M3 M a<|qj.map Q4.b) E L) H1 H6->(GH qj B dv).map qz=Gp (j.map qz) B dv->q.z.length<Ax ->
            OW X.K "list" (.ref q.b) H6/\∃M',tD X.K M' H0 fv L H6 λv H7=>∃l xs y,(V.ref q.b=.ref l/\[v]=[y]/\H7 l=Z (.lst xs)/\xs.length<Ax/\(i+1<=G.length/\∃d j,BB X.K M H0 k a d j L (AG H7 l<|.lst<|xs++[y])/\Step M (Nf M ρ I) (Nf (M3 M a<|j.map Q4.b) d L) H1 (AG H7 l<|.lst<|xs++[y])/\IL k b fk fv (G.drop<|i+1) d (j.map qz)=Z pr)):=λq qj H6 hq hqk R6 S6 hz hzl=>by
           obtain⟨_,us,hus,hdl⟩:=R6.ins q hq;refine#[.inl #[rfl,us,.inl<|.inl hus],_,E,dv,R6.rel,hfv,λv H7 s7 hv7=>?_];have R7:=R6.st s7;obtain⟨R8,S8⟩:=R7.app hq (s7 _ _ hus) hv7;refine#[q.b,us,v,rfl,rfl,s7 _ _ hus,by rw[<- hdl.length];exact hzl,S,E,_,R8,S6.trans<|(Step.of_same s7).trans S8,?_];rw[hqk,hz];exact fi
          refine#[a,j.map q3,B,w,.ref p,rfl,rfl,by rw[Zm<|B2 hpa];exact R5.out,λt ht=>?_,homk,kv5.step<|Step.of_same (M:=M) (N:=M) s6,by simpa using hl1,λu hu'=>?_,λhn=>?_]
          ·obtain⟨q0,n,rfl⟩:=Bp.mp ht;exact(R6.ins q0 n).1
          ·obtain⟨q0,n,hk0,rfl⟩:=Fw.1 u hu';exact fin q0 j _ n hk0 R6 (S4.trans<|Step.of_same<|s5.trans s6) (Tt<|hk0 ▸ FV n)<|hl2 (qz q0)<|FV n
          ·have hnk:=Fw.2 hn;obtain⟨R9,S9⟩:=R5.new Y kv5 hnk;have ep3:Ej (j.map q3) B w (.ref p)=j.map q3++[(B,w,.ref p)]:=by unfold Ej;rw[hn];rfl
           rw[ep3];refine fin #[B,w,p,[]] (j++[#[B,w,p,[]]]) _ (Dk _ Ba) rfl R9 ((S4.trans<|Step.of_same s5).trans S9) ?_ (by rw[Il];simp);have hin:B∈(j++[(⟨B,w,p,[]⟩:Q4)]).map Q4.k:=by simp
           rw[Tt hin,HD,bT hnk];have:∀{l:U Q4},B∉l.map Q4.k->Gp (l.map qz++[(B,[])]) B dv=l.map qz++[(B,[dv])]:=by
            intro l;induction l with|nil=>intro _;simp[Gp]|cons q r ih=>
             intro h;erw[AS,Bo,not_or]at h;erw[AS,Ga,Gp];rw[if_neg (show ¬ (qz q).1=B from λz=>h.1 z.symm),ih h.2]
           exact this hnk
         ·cases g
        ·cases g
       ·cases g
      ·cases fi
     ·cases fi
    ·have e:i=G.length:=by lia
     rw[MS<|Kw S]at fi;erw[IL,O6]at fi;subst fi;refine .inl ⟨ok2 e,?_⟩;obtain⟨Rc,uc⟩:=Ri.close;exact q _ _ Rc<|(Step.of_same s1).trans<|Si.trans ⟨λc o e _=>e,λy h=>.inl<|uc y h⟩
   ·exact BM q
  ·exact BM q
 ·exact BM q]
end
structure MI(K:Ao)(C:Ac)(nm qual:Ae)(st:Az)(ps:List Ae)(a:Ac)(fd:Cd):Prop where
 M:Jp K C nm a
 F:Jy K nm qual st a fd
 b:Binds K fd ps []
theorem mi{K:Ao}{nm b:Ae}{st:Az}{j:U Ae}{n:Aa}{o f:O Ac}{m:Array (O Aa)}{g e h d ct:Aa} (A:findIn K (.ref C) nm=Z (Z (.ref a))) (i:isFn K (.ref a)=J') (l:K.lookup a=Z #[n,o,.func (fnOf nm b (Hw st) (ZI st) (Zf st) .none g e h f d ct),m]) (c:codeIn K d b=J') (k:keepIn K (.ref a)=J') (p:∀(g e h:Aa) (f:O Ac) (d ct:Aa) (us:U Aa),us.length=j.length->bindArgs (fnOf nm b (Hw st) (ZI st) (Zf st) .none g e h f d ct) #[us,[]]=AA (j.zip us):=by
   exact λ_ _ _ _ _ _=>bC (by(repeat intro _);rfl)):MI K C nm b st j a (fnOf nm b (Hw st) (ZI st) (Zf st) .none g e h f d ct):=#[#[A,i,k],X6 l c k,.all<|p g e h f d ct]
structure CI(K:Ao)(mg:Bx)(c:Ae)(C:Ac):Prop where
 cof:nsIn K BU c=Z (Z (.ref C))
 cl:ES K C
 m:mg c=Z (.ref C)
 mks:makesIn K C=J'
 kp:keepIn K (.ref C)=J'
theorem ci{K:Ao}{mg:Bx}{h:Ak}{c:Ae}(X:K.In h)(G:h.Ns BU mg)(A:nsIn K BU c=Z (Z (.ref C)))(pg:plainGet K C Str.empty=J')(hd:hasDictIn K C=J')(po:plainOver K C=J')(sa:findIn K (.ref C) "__setattr__"=Z (Z (.builtin "object.__setattr__")))(a:makesIn K C=J')(b:keepIn K (.ref C)=J'):CI K mg c C:=#[A,#[pg,hd,po,sa],mg_of X G A,a,b]
theorem CI.mkB{K:Ao}{mg:Bx}{b:Ae}{st:Az}{d:U Ae}{fd:Cd}{c':Ae}(c:CI K mg c' C)(q:MI K C "__init__" b st d a fd):Mk K C a:=#[c.mks,q.M.at_,q.M.fn,c.kp]
theorem sS{K:Ao}{k:Nat}{fn:Ac}{fd:Cd}{b:U Ae}{nm a:Ae}{st:Az}{P:AM}{w:Ai}{mg:Bx}{base:Ak}{N:U Ae}{g f:Ay}(D:MI K C nm a st b fn fd)(S:EE N b (Zf st)) (h:∀(c:Aa) (A:Ag) (outer:U Env) (s:Ab) (H:Hp) (E:XK) (M:Fb) (H0:Hp),AI k (A.deeper (A3 a (Zf st) s.heap.objs.size fn c))->JB (Df Bm P w K mg base N a (Zf st) fn c A outer s H E).nox (ZI st) (tS K M H0 f)) (e:f=g:=by rfl) (d:b.length<=N.length:=by ext):AR P w K mg base Bm (k+1) fn fd b (A1 K (AO b.length N.length g)):=YA D.F S d<|e ▸ h
section
variable{M:Fb}{l:Expr}{f:AB}{b:D->VE->O VE}{t:VE->O Bool}{e:AB}
set_option tactic.hygienic true in
theorem bV{n:Nat}{oix:U Nat}(hw:∀j∈ws,j<n){E:AQ}{s:Ab}{Q:VK}(W:Inv X E I H s)(h:tF X.K M H0 (Zn n oix (λρ=>(f ρ).bind El) b t e) I H Q):OX n oix (bK X.K (tQ X.K M H0 f)) (M6 X.K ws b) (M7 X.K t) (M8 X.K e) I H (λv=>Cv X (Q v)):=by
 obtain⟨ρ,N,R,g,q⟩:=h;unfold Zn at g;dsimp only at g;cases P:f ρ with|none=>rw[P]at g;cases g|some d=>
 rw[P]at g;erw[BH]at g;cases i:El d with|none=>rw[i]at g;cases g|some ds=>
 rw[i]at g;unfold El at i;split at i
 ·next ys=>
  cases T:Ek ys with|none=>rw[T]at i;cases i|some G=>
  rw[T]at i;cases i;refine#[ρ,_,R,P,λv r C dq=>?_];rw[Gi T]at dq;obtain⟨a,u,rfl,hN,hr,dl⟩:=dq;obtain⟨tr,dc,pd⟩:=IH hr dl;refine#[a,tr,rfl,dc,λo hz=>?_];have S:=R.st C;have fin:∀m,Bh X.K M m ρ I (B7 a o (C3 tr) r)->(∀p u A,Ah (B7 a o (C3 tr) r) A->B7 a o (C3 tr) r p=J->A p=Z (CO X.K .l p N u)->Ad X.K (λb=>Nf M ρ I b\/b=p) A N u->Cv X (Q<|.ref p) A) ->
    Sf n oix (M6 X.K ws b) (M7 X.K t) (M8 X.K e) (K3 a o (C3 tr)<|tr.map λt=>t.2.1) I (B7 a o (C3 tr) r) (λv=>Cv X<|Q v):=λm R2 q2=>by
   have core:=Pa (K:=X.K) (M:=M) (H0:=m) (f:=λ_=>Z<|G.map λ(p:KT×D)=>kD p.1) (b:=b) (t:=t) (e:=e) (oix:=oix) (k:=n) hw (wi:=tI X.K M m λ_=>Z<|G.map λ(p:KT×D)=>kD p.1) (λ_ _ _ z=>z) (I:=I) (H:=B7 a o (C3 tr) r) (Q:=λv=>Cv X<|Q v) ⟨ρ,N,R2,g,q2⟩;obtain⟨ρ',ds',R',e',k⟩:=core;cases e';exact k _ _ (Ah.refl _)<|bL pd hz
  rcases dc.1 with F|⟨o',F⟩
  ·refine fin _ (S.fz rfl F<|bM S hN) λp u A sm Y L B=>?_;have hf':=sm a _<|IK F;refine .inr ⟨a,o,C3 tr,W.plain2 C F rfl,hf',q p u _ (λc w e=>?_) (C.none<|BW.mp Y) (NB L<|NC _ _ _ _ _) (Ad.rd (λb v L h=>Rd.ufz L h) _ _ B)⟩;have e1:=C c w e;by_cases y:c=a
   ·grind [K2]
   ·rw[J0 λx=>y x.1];exact sm c w (by rw[Fv λx=>y x.1];exact e1)
  ·have e:B7 a o (C3 tr) r=r:=funext λb=>Fv (by rintro⟨rfl,y⟩;rw[F]at y;cases y);rw[e]at fin ⊢;exact fin _ S λp u A sm Y L B=>.inl<|q p u A (C.trans sm) (C.none Y) L B
 ·cases i
variable(own outs:U Ae)(oix:U Nat)(S:Iw own outs scope X.env.scope)(hox:oix.map (λj=>X.N[j]?)=outs.map Z)(hc:X.calm=J')
include S hox hc
theorem sT(k:JE X l (tQ X.K M H0 f)) (d:CB X.K X own outs scope tg ifs elt ws b t e) (m:∀j∈ws,j<own.length) (n:∀x,EQ l X.env x=AA x:=by intro _;rfl):JE X (.ListComp elt [#[tg,l,ifs,0]] scope pos) (tF X.K M H0 (Zn own.length oix (λρ=>(f ρ).bind El) b t e)):=#[λc s p H Q B h=>by
 refine AT (Ya own outs oix S hox hc (Tq k.h) d.g d.t d.e n c s p H (λv=>Cv X<|Q v) B (bV m B h)) λu A h=>?_;obtain⟨v,q,i,r,z⟩:=h;rcases z with z|⟨a,o,u,w,y,z⟩
 ·exact#[v,q,i,r,z]
 ·exact#[v,_,i.ufz y w,r,z]]
theorem sU{i:Nat}{x:Ae}{a c:AD}(o:X.N.Nodup)(k:X.N[i]?=Z x)(p:X.env.scope.names.lookup x=Z .local)(q:JE X l (tQ X.K M H0 f)) (m:CB X.K X own outs scope tg ifs elt ws b t e) (r:∀j∈ws,j<own.length) (n:Ef (.ListComp elt [#[tg,l,ifs,0]] scope pos) (Z (.Name x a)) c.line X.env=AA J':=by rfl) (u:∀x,EQ l X.env x=AA x:=by intro _;rfl):JS X (.Assign [.Name x a] (.ListComp elt [#[tg,l,ifs,0]] scope pos) c) (tS X.K M H0 λρ=>Dg i (Zn own.length oix (λρ=>(f ρ).bind El) b t e ρ) ρ):=#[λd s v H D w h=>AT (Sg own outs oix S hox hc o k p (Tq q.h) m.g m.t m.e n u d s v H (D.cv X) w<|bV r w<|Sv h) λ_ _ h=>SP.cv h]
end
section
variable{P:AM}{w:Ai}{T:Type}[DecidableEq T]{hk:HeapKind P w T}{A:Ag}{s:Ab}{us:U (T×Ac×Aa)}
theorem sV(hk:HeapKind P w T)(b:(a==GS)=O'):MeetsIn P w (Fk.«dict.__len__» #[[.ref a],[]]) (λ_ R t=>∃us,t.heap.DictOfH hk a us/\R (.ok (.ret (.int us.length t.toks))) {t with toks:=t.toks+1}):=.of_wp λA R t c=>by
 obtain⟨us,⟨o,d,h,e,_,f,g,_⟩,q⟩:=c;have n:=(size_of_entries g).symm;rw[n]at q;change wpAny _ _ (dictSize a >>= _) _ _ t;unfold dictSize;refine Al<|Al<|Nm e f<|AN (?_:wpAny _ _ (Builtin.Dict.pendingCount a >>= _) _ _ t);exact Al<|wpAny_pendingCount_other b<|wpAny_ret_mkInt (by rw[Nat.add_zero];exact q)
theorem sW{Q:AL}(c:(a==GS)=O')(d:s.heap.DictOfH hk a us)(z:(us.length:Int)<2^63)(q:Q (.int us.length (s.toks+1)) {s with toks:=s.toks+1+1}):wpAny (Af P w) A (Fk.«len» #[[.ref a],[]]) (λf t=>∃r,f=.done (.ret r)/\Q r t) E s:=by
 unfold Fk.«len»;refine Al<|AN<|Al<|LI d.typeIs F.slot_dict_len<|call_meetsIn F.slot_dict_len d.typeIs F.entry_dict_len (F.args_dict_len_1 _) (sV hk c) ⟨us,d,?_⟩;change wpAny _ _ _ _ _ {s with toks:=s.toks+1};refine Al<|FC<|AN<|Al<|wpAny_letGo ?_;change wpAny _ _ (if((us.length:Nat):Int)<0 then _ else _) _ _ _;change wpAny _ _ (if((us.length:Nat):Int)≥2^63 then _ else _) _ _ _;rw[if_neg (by exact Int.not_le.mpr z:¬ ((us.length:Nat):Int)≥2^63)];exact Al<|wpAny_mkInt<|AN ⟨_,rfl,q⟩
end
section
variable{K:Ao}
theorem sX:ED X (.builtin "len") (λxs H Q=>∃a tr,xs=[.ref a]/\Cf X.K H a tr/\(∀t∈tr,∃l,t.1=KT.tup l)/\Q (.int tr.length) H):=by
 intro b s j H xs d Q k r h;obtain⟨a,tr,rfl,hd,e,q⟩:=h;obtain⟨u,rfl,f⟩:=ER r;cases f;obtain⟨z,g,nd,d,rel,i⟩:=KN k hd e;have c:=GQ rel;refine bW kind_len plain_len entry_len (args_len1 _)<|sW g i (by rw[<- c];rw[Il]at z;lia) ?_;rw[<- c];exact⟨.int _,H,k.tok _,⟨_,rfl⟩,q⟩
def FW:Eg
 |[.lst b .d]=>(Ek b).bind λa=>if a.all (λp=>!D6 p.1)then Z (.int a.length)else J
 |_=>J
set_option tactic.hygienic true in
theorem sY:Gc K (λxs H Q=>∃a tr,xs=[.ref a]/\Cf K H a tr/\(∀t∈tr,∃l,t.1=KT.tup l)/\Q (.int tr.length) H) FW:=by
 intro N H n o d Q s h e q;unfold FW at e;split at e
 ·next xs=>
  obtain⟨c,f,e⟩:=B4.mp e;obtain⟨g,e⟩:=ZV e;cases e;obtain⟨v,rfl,b⟩:=Paired.one' h;rw[Gi f]at b;obtain⟨p,u,rfl,r,hd⟩:=b;obtain⟨tr,j,m⟩:=IH r hd;refine#[p,tr,rfl,j,m.hom (k:=.tup []) (by simpa[Di,D6]using g),?_];grind [GQ,Ah.refl,Fq]
 ·cases e
end
end L2
namespace L2
open PySem PySem.Spec PyProof.Rows
section
variable{prog:AM}{w:Ai}{A:Ag}{s:Ab}
noncomputable abbrev Tv(i:Ac):Obj:={cls:=.type "enumerate",data:=.fields (T' [.none,.bool O',.ref i,AV 0,.none,.none])}
set_option tactic.hygienic true in
theorem sZ(S:AK)(a:RelV S.v u)(xs:U V):Meets (Fk.«enumerate.__new__» #[[.type "enumerate",u],[]]) (λ_ R s=>S.ok s.heap xs/\R (.ok (.ret (.ref (s.heap.push (S.obj u)).objs.size))) {s with heap:=(s.heap.push (S.obj u)).push (Tv s.heap.objs.size)}):=.of_wp λprog w A R s h=>by
  obtain⟨f,g,d,i,os⟩:=s;obtain⟨e,q⟩:=h;have j:=sub_enumerate;have b:=e;wp_walk using S.pyIter a b;refine wpAny_stack_any λst=>AN ?_;split
  ·rename_i c _ _ _ _ _;cases(c==Value.type "enumerate")
   ·wp_walk using S.pyIter a b;exact#[_,rfl,q]
   ·wp_walk using S.pyIter a b;exact#[_,rfl,q]
  ·wp_walk using S.pyIter a b;exact#[_,rfl,q]
theorem s9{S:AK}(c:RelV S.v u){xs:U V}{Q:AL}(p:S.ok s.heap xs)
  (q:∀h',IsEnum h' (s.heap.objs.size+1) s.heap.objs.size 0 .none->S.it h' s.heap.objs.size 0->(∀b o,s.heap.get? b=Z o->h'.get? b=Z o)->Q (.ref (s.heap.objs.size+1)) {s with heap:=h' }):
  wpAny (Af prog w) A (call (.type "enumerate") [u]) Q E s:=by
 have f:(s.heap.push (S.obj u)).objs.size=s.heap.objs.size+1:=by simp
 have d:IsEnum ((s.heap.push (S.obj u)).push (Tv s.heap.objs.size)) (s.heap.objs.size+1) s.heap.objs.size 0 .none:=by
  have:=Cc (s.heap.push (S.obj u)) (o:=Tv s.heap.objs.size) rfl
  grind
 have a:=q _ d (S.itAt (S.new c) λo e=>Br _ e) λb o e=>Br _ (Br _ e)
 refine callType_new PySem.F.called_enumerate (by ext) (PySem.F.typeCall_enumerate_1 _) (PySem.F.newCall_enumerate_1 _) (λobj=>PySem.F.args_object_init_2 obj _) PySem.F.entry_enumerate_new (sZ S c xs) #[p,?_]
 rw[f]
 exact#[#[_,d,rfl],a]
section
variable{e it:Ac}{fa:U Ac}{n k:Nat}{sa:Nat->Ak->Prop}{old:Aa}
theorem tf{Q:O Aa->Ab->Prop}(SA:HM prog w it fa n isA sa)(a:IsEnum s.heap e it k old)(ha:sa k s.heap)(kn:k<n)(u:e≠it)(hfe:e∉fa) (q:∀x h' t' v,isA k x->IsEnumOut h' e it ((k:Int)+1) x s.heap.objs.size->sa (k+1) h'->h'.get? s.heap.objs.size=Z {cls:=.type "tuple",data:=.seq (T' [.int k t',x])}->(∀b o,b≠e->b≠it->s.heap.get? b=Z o->h'.get? b=Z o)->Q (Z (.ref s.heap.objs.size)) {s with heap:=h',toks:=v}):wpAny (Af prog w) A (pyNext (.ref e)) Q E s:=by
 obtain⟨f,g,d,tk,os⟩:=s;have ty:Shared.TypeIs #[f,g,d,tk,os] (.ref e) "enumerate":=#[_,a,rfl];refine Al<|wpAny_attempt<|LI (name:=Jt "__next__") ty Tw (Kr Tw ty PySem.F.entry_enumerate_next ?_<|PySem.F.args_enumerate_next_1 _);have fr:∀{h h':Ak},sa (k+1) h->(∀b o,b≠e->h.get? b=Z o->h'.get? b=Z o)->sa (k+1) h':=λst kp=>SA.frame _ _ _ st λb c o x=>kp b o (by
  grind) x
 show wpAny _ _ (field (.ref e) 2 >>= _) _ _ _
 refine Al<|Ev a rfl (x:=.ref it) rfl ?_;refine Al<|SA.item _ _ _ k _ kn ha λx y j hx a1 l=>?_;replace l:DP it f y:=l;have B:IsEnum y e it k old:=(l.2 e u).trans a;refine Al<|Ev B rfl (x:=AV k) rfl ?_;refine Al<|Ev B rfl (x:=.none) rfl ?_;refine Al<|wpAny_mkInt ?_;refine Al<|HN B (by simp) λC G m=>?_;replace m:DP e y C:=m;replace G:IsEnum C e it ((k:Int)+1) old:=G;refine Al<|HN G (by simp) λi H p=>?_;replace p:DP e C i:=p;replace H:IsEnum i e it ((k:Int)+1) old:=H;refine Al<|wpAny_newTuple ?_;have sz:i.objs.size=f.objs.size:=by rw[p.1,m.1,l.1]
 have el:e<f.objs.size:=BC a;have r:IsEnum (i.push {cls:=.type "tuple",data:=.seq (T' [.int k j,x])}) e it ((k:Int)+1) old:=Br _ H;have t4:(i.push {cls:=.type "tuple",data:=.seq (T' [.int k j,x])}).get? f.objs.size=Z {cls:=.type "tuple",data:=.seq (T' [.int k j,x])}:=by rw[<- sz];exact Cc _ rfl
 have k4:∀b o,b≠e->b≠it->f.get? b=Z o->(i.push {cls:=.type "tuple",data:=.seq (T' [.int k j,x])}).get? b=Z o:=λb o a S c=>
  Br _<|p.extBut b o a<|m.extBut b o a<|l.extBut b o S c
 have a4:sa (k+1) (i.push {cls:=.type "tuple",data:=.seq (T' [.int k j,x])}):=fr a1 λb o c z=>Br _<|p.extBut b o c<|m.extBut b o c z;generalize (i.push {cls:=.type "tuple",data:=.seq (T' [.int k j,x])})=h4 at r t4 k4 a4 ⊢;rw[sz];refine Al ?_;refine Al<|Ev r rfl (x:=.none) rfl (AN ?_);refine Al<|Ju ?_;refine Al<|Ev r rfl (x:=old) rfl ?_;refine Al<|HN r (by simp) λK L M=>?_;replace M:DP e h4 K:=M;replace L:IsEnum K e it ((k:Int)+1) x:=L;refine Al ?_;refine Al<|HN L (by simp) λN P T=>?_;replace T:DP e K N:=T;replace P:IsEnumOut N e it ((k:Int)+1) x f.objs.size:=P;refine HN P (by simp) λt R Y=>?_;replace Y:DP e N t:=Y;replace R:IsEnumOut t e it ((k:Int)+1) x f.objs.size:=R;have up:∀b o,b≠e->h4.get? b=Z o->t.get? b=Z o:=λb o c z=>Y.extBut b o c<|T.extBut b o c<|M.extBut b o c z;refine Al<|wpAny_letGo<|AN ⟨_,rfl,AN<|q x t _ _ hx R (fr a4 up) (up _ _ (Hs el) t4) λb o a S z=>up b o a<|k4 b o a S z⟩
theorem ti{Q:O Aa->Ab->Prop}(d:A.handled=J)(f:HM prog w it fa n isA sa)(a:IsEnum s.heap e it k old)(g:sa k s.heap)(kn:n<=k) (q:∀h',Heap.ExtBut it s.heap h'->Q J {s with heap:=h' }):wpAny (Af prog w) A (pyNext (.ref e)) Q E s:=by
 have ty:s.TypeIs (.ref e) "enumerate":=#[_,a,rfl];refine Al<|wpAny_attempt<|LI ty Tw<|Kr Tw ty PySem.F.entry_enumerate_next ?_<|PySem.F.args_enumerate_next_1 _;show wpAny _ _ (field (.ref e) 2 >>= _) _ _ _
 refine Al<|Ev a rfl (x:=.ref it) rfl ?_;refine Al<|f.fin _ _ _ k _ (by exact d) kn g λh' x h i=>?_;obtain⟨o,j,l⟩:=i;exact Al<|wpAny_isInstance (T:="StopIteration") (b:=J') #[o,j,l] isSubtype_stop (AN<|q _ h)
theorem tj{a:U Expr} {b} {i:Int} {v:Aa} {T:Ac} (hz:IsEnumOut s.heap e it i v T) (q:∀h',IsEnum h' e it i v->DP e s.heap h'->Q () {s with heap:=h' }):wpAny (Af prog w) A (letOwnedTupleGo (.Tuple a b pos) (.ref e) (.ref T)) Q E s:=by
 refine Al<|wpAny_load hz ?_;show wpAny _ _ (if(["enumerate","zip","dict_itemiterator","dict_reverseitemiterator","odict_iterator","itertools.zip_longest","itertools.pairwise"].contains "enumerate"&&((T' [AV T,.bool O',.ref it,AV i,.none,v]):Array Aa)[0]?==Z (AV T))=J' then _ else _) Q E s
 rw[if_pos (by simp)];refine Al<|Ju ?_;exact HN hz (by simp) λh' z c=>q h' z c
end
end
def bX(K:Ao)(S:AK):It:=
 #[λi H=>∃a x,S.sq K H a/\a[i]?=Z x,
  λi H v b=>∃p x,v=.ref p/\H p=J/\b=AG H p (.tup [.int i,x])/\(∀a,S.sq K H a->a[i]?=Z x),
  λi H=>∃a,S.sq K H a/\a.length<=i]
theorem tm{P:AM}{w:Ai}{K:Ao}{g:U Expr} {W} (S:AK) (n:Nat) (Y:∀b∈S.fp,b<n):Ht P w K (.Tuple g W pos) (bX K S) [n+1,n] (n+1) (λi h=>(∃f,IsEnum h (n+1) n i f)/\S.it h n i) where
 mem:=by simp
 obj:=λi h z0 q a=>by
  obtain⟨⟨x,z⟩,c⟩:=z0;erw[Bo,L6,or_false]at a;rcases a with rfl|rfl
  ·exact#[_,z,λv e=>nomatch (show Data.fields _=Data.cell v from e)]
  ·exact S.itOb c
 keep:=λi h m ⟨⟨x,z⟩,c⟩ k=>#[#[x,k _ (by simp) _ z],S.itAt c λo e=>k _ (by simp) o e];item:=by
  intro X t u y M i d s N H E zA p #[#[f,z],c] #[xs,x,r,ex];subst t u y;obtain⟨sa,A,B,R⟩:=S.sub (P:=X.prog) (w:=X.w) (i:=n) (S.of zA r);have l1:=(C8.mp ex).1;have hlt:n+1<s.heap.objs.size:=BC z;refine tf A z (B _ c) l1 (by(show @Ne Nat _ _;lia)) (λz=>absurd (show @LT.lt Nat _ _ _ from Y _ z) (by show ¬ @LT.lt Nat _ _ _;lia)) λQ m t1 T C z' G new kp=>?_;obtain⟨x2,j,F⟩:=C;rw[ex]at j;cases j;have G:=R _ _ G;refine#[_,rfl,tj (s:={s with heap:=m,toks:=T}) z' λl z2 sb=>?_];have L:∀q o,q≠n+1->m.get? q=Z o->l.get? q=Z o:=λq o a e=>sb.extBut _ _ a e;have I1:Inv X d N (AG H s.heap.objs.size<|.tup [.int i,x]) {s with heap:=l}:=by
   refine zA.yielded p (λq o a e=>L q o (λz=>a (by simp[z])) (kp q o (λz=>a (by simp[z])) (λz=>a (by simp[z])) e)) (Bf _) ?_;exact#[show 2<=Ax by ext,[.int i t1,Q],.cons #[_,rfl]<|.cons F .nil,⟨_,L _ _ (by(show @Ne Nat _ _;lia)) new,rfl,_,rfl⟩]
  refine#[.ref s.heap.objs.size,_,I1.tok T,rfl,#[_,x,rfl,zA.hok.fresh<|Bf _,rfl,λzs hz=>by rw[S.inj zA hz r];exact ex],#[#[Q,?_],S.itAt G λo e=>L _ o (by(show @Ne Nat _ _;lia)) e],λq a=>?_]
  ·have:((i+1:Nat):Int)=(i:Int)+1:=by lia
   exact z2
  rw[Zm]
  ·exact(p q a).1
  ·erw[Bo,L6,or_false]at a;rcases a with rfl|rfl<;>(show @Ne Nat _ _;lia)
 done:=by
  intro X t u y M i d s N H E zA p #[#[f,z],c] #[xs,r,hl];subst t u y;obtain⟨sa,A,B,R⟩:=S.sub (P:=X.prog) (w:=X.w) (i:=n) (S.of zA r);refine ti (zA.ok.hd M) A z (B _ c) hl λm kp=>#[rfl,zA.turnedL p λq o a e=>kp q o (λz=>a (by simp[z])) e]
 self:=λ_ _ _ _ _ ⟨⟨_,z⟩,_⟩ q=>wpAny_pyIter_enum z q
@[simp] def NG(f:AB):VE->A0:=λa=>match(f a).bind FU with
  |some b=>Z (E8 0 b)
  |none=>J
theorem tu{K:Ao}{M N:Fb}{S:AK}{us:U V}(e:Ad K N H xs us)(j:∀f b,Step M N f H b->S.sq K b us):LW K M N H (bX K S) (E8 0 xs):=λf b St i=>by
 have c:=j _ _ St;have k:=Ad.step St _ _ e;refine#[λd a=>?_,λa=>#[us,c,?_]]
 ·rw[ak]at a;obtain⟨x,ex,a⟩:=B0.mp a;cases a;obtain⟨u,g,l⟩:=k.get ex;refine#[#[us,u,c,g],λz r m=>?_];obtain⟨p,s,n,h,o,q⟩:=m;have:=q us c;rw[g]at this;cases this;subst n o;refine#[Yh h,Na h<|Ad.cons ?_<|Ad.cons l Ad.nil];simp[As]
 ·have l1:=e.length;rw[SM]at a;lia
section
variable{M:Fb}{f:AB}{a:Expr}{p tpos:AD}
set_option tactic.hygienic true in
theorem tw {L} (N:Gl X "enumerate") (P:X.mg "enumerate"=J) (k:JE X a (tQ X.K M H0 f)) (y:AC [a] X.env=[(O',Ap a X.env)]:=by rfl) (l:AC [] X.env=[]:=by rfl):JI X (.Tuple elts L tpos) (.Call (.Name "enumerate" p) [a] [] pos) (tI X.K M H0 (NG f)):=#[have k:=k.h;by
 intro d s m H Q zA #[n,ds,R,e,q];unfold NG at e;split at e
 ·next T ex=>
  cases e;obtain⟨W,Y,ex⟩:=B4.mp ex;have o:=Z3 k A8 (by rw[y,l]);refine Call_<|Hr zA N P qh<|MJ (AT (o pos d s m H (λA t=>∃S g,A=[AK.v S]/\Ah H t/\Ad X.K (Nf M n m) t T g/\(∀N2 B,Step M (Nf M n m) N2 t B->S.sq X.K B g)) zA ?_) λg u ⟨A,C,i,r1,w⟩=>?_) y rfl
  ·refine#[n,W,R,Y,λv1 C z1 w=>?_];obtain⟨S,g,x,c,j⟩:=Tr w ex;exact#[S,g,by rw[x],z1,c,j]
  ·obtain⟨S,us',rfl,z,c,j⟩:=w;cases r1 with
   |cons r rr=>
    cases rr;have E:=S.of i<|j _ _ Step.refl;refine s9 r E λh' G a4 kp=>wpAny_pyIter_enum G ?_;refine#[_,_,_,_,C,rfl,i.kept (t':=u.toks) kp,tm S u.heap.objs.size<|S.lt E,⟨⟨_,G⟩,a4⟩,λb hb=>?_,q _ _ z<|tu c j];have F:u.heap.objs.size<=b:=by
     grind
    exact i.fpOk F<|i.hok.fresh F
 ·cases e]
end
open PySem.W
inductive IV where
 |no|val (d:D)|cel (n:Nat)|exc (c:Ae)
inductive Cl where
 |dead|dat (k:Kd) (xs:List D)|mix (k:Kd) (xs:List IV)
abbrev Gh:=U Cl
variable{G':Gh}{FX:U IV->Gh->O Ae}
abbrev IS:=U IV×Gh
variable{gp:IS->O Nat}{gx:IS->O (IV×Gh)}
@[simp] def un:IV->D
  |.val d=>d
  |_=>.non
@[simp] def Cl.kd:Cl->O Kd
  |.dead=>J
  |.dat k _=>Z k
  |.mix k _=>Z k
def LV(φ:Nat->Ac)(G:Gh):Fb:=λa=>∃n c k,G[n]?=Z c/\c.kd=Z k/\φ n=a
def Bg(K:Ao)(φ:Nat->Ac)(L:Nat)(N:Fb)(H:Hp):IV->V->Prop
 |.no,_=>False
 |.val d,v=>As K N H d v
 |.cel n,v=>n<L/\v=.ref (φ n)
 |.exc c,v=>∃a C,v=.ref a/\nsIn K BU c=Z (Z (.ref C))/\H a=Z (.ext (Fl a C))
def Tz(K:Ao)(φ:Nat->Ac)(L:Nat)(N:Fb)(H:Hp)(a:Ac):Cl->Prop
 |.dead=>True
 |.dat k b=>∃c,H a=Z (CO K k a b c)/\Ad K N H b c
 |.mix k b=>∃c,H a=Z (CO K k a (b.map un) c)/\Paired (Bg K φ L N H) b c
structure Bv(K:Ao)(φ:Nat->Ac)(G:Gh)(H:Hp):Prop where
 cell:∀n c,G[n]?=Z c->Tz K φ G.length (LV φ G) H (φ n) c
 inj:∀n m c c' k k',G[n]?=Z c->G[m]?=Z c'->c.kd=Z k->c'.kd=Z k'->φ n=φ m->n=m
structure Bt(K:Ao)(φ:Nat->Ac)(s:IS)(I:St)(H:Hp):Prop where
 len:s.1.length=I.length
 g:Bv K φ s.2 H
 slot:∀(i:Nat) (x:IV),s.1[i]?=Z x->x=.no\/∃v,I[i]?.join=Z v/\Bg K φ s.2.length (LV φ s.2) H x v
structure Go(φ:Nat->Ac)(G:Gh)(H:Hp)(φ':Nat->Ac)(G':Gh)(H':Hp):Prop where
 ext:∀n,n<G.length->φ' n=φ n
 len:G.length<=G'.length
 st:Step (λ_=>False) (LV φ G) (LV φ' G') H H'
section
variable{K:Ao}{φ1 φ2:Nat->Ac}{G G1 G2:Gh}{H1 H2:Hp}{s:IS}
theorem Go.same(sm:Ah H H'):Go φ G H φ G H':=#[λ_ _=>rfl,Bf _,Step.of_same sm]
theorem Go.trans(a:Go φ G H φ1 G1 H1)(b:Go φ1 G1 H1 φ2 G2 H2):Go φ G H φ2 G2 H2:=#[λn h=>(b.ext n<|B6 h a.len).trans<|a.ext n h,BZ a.len b.len,a.st.trans b.st]
theorem Bg.go(g:Go φ G H φ1 G1 H1){x:IV}{v:V}(h:Bg K φ G.length (LV φ G) H x v):Bg K φ1 G1.length (LV φ1 G1) H1 x v:=by
 cases x with
 |no=>exact h
 |val d=>exact As.step g.st d v h
 |cel n=>exact#[B6 h.1 g.len,by rw[g.ext n h.1];exact h.2]
 |exc c=>obtain⟨a,C,e,b,f⟩:=h;exact#[a,C,e,b,g.st.kp _ _ f<|.inr<|.inr rfl]
theorem Bv.same(R:Bv K φ G H)(sm:Ah H H'):Bv K φ G H':=#[λn c e=>by
 have h:=R.cell n c e;cases c with
 |dead=>trivial
 |dat k f=>obtain⟨a,b,d⟩:=h;exact#[a,sm _ _ b,d.same sm]
 |mix k f=>obtain⟨a,b,d⟩:=h;exact#[a,sm _ _ b,Paired.mapP d λ_ _ q=>Bg.go (Go.same sm) q],R.inj]
theorem Bt.go(R:Bt K φ s I H)(a:Bv K φ1 G1 H1)(g:Go φ s.2 H φ1 G1 H1):Bt K φ1 (s.1,G1) I H1:=#[R.len,a,λi x e=>(R.slot i x e).imp id λ⟨v,b,c⟩=>#[v,b,c.go g]]
theorem Bt.same(R:Bt K φ s I H)(sm:Ah H H'):Bt K φ s I H':=R.go (R.g.same sm)<|Go.same sm
theorem Bv.has(R:Bv K φ G H){n:Nat}{c:Cl}{k:Kd}(e:G[n]?=Z c)(a:c.kd=Z k):∃xs vs,H (φ n)=Z (CO K k (φ n) xs vs):=by
 have h:=R.cell n c e;cases c with
 |dead=>cases a
 |dat k xs=>cases a;obtain⟨vs,b,_⟩:=h;exact#[_,vs,b]
 |mix k xs=>cases a;obtain⟨vs,b,_⟩:=h;exact#[_,vs,b]
theorem Bv.nh(R:Bv K φ G H)(h:LV φ G a):H a≠J:=by
 obtain⟨n,c,k,e,b,rfl⟩:=h;obtain⟨d,f,q⟩:=R.has e b;simp_all
end
@[simp] def vk:Nat->Kd->Bool
  |0,_=>O'
  |1,.l=>O'
  |_,_=>J'
@[simp] def NH:U (O D)->A0
  |[]=>Z []
  |o::r=>Zh o (NH r)
@[simp] noncomputable def tr(m:Nat)(G:Gh):Nat->IV->O D
  |_,.val d=>Z d
  |f+1,.cel n=>match G[n]? with
   |some (.dat k a)=>if vk m k=J' then Z (.lst a k)else J
   |some (.mix k a)=>if vk m k=J' then(NH (a.map (tr m G f))).map λl=>.lst l k else J
   |_=>J
  |_,_=>J
@[simp] def D9(m:Nat)(G:Gh):IV->Sl
  |.val d=>.val d
  |.no=>.no
  |.exc c=>.exc c
  |.cel n=>match tr m G 3 (.cel n)with
   |some d=>.val d
   |none=>match G[n]? with
    |some (.dat k a)=>if vk m k=J' then .no else .lent a k
    |_=>.no
@[simp] def vw(m:Nat)(s:IS):VE:=s.1.map (D9 m s.2)
def NW(m:Nat)(φ:Nat->Ac)(G:Gh):Fb:=λa=>∃n c k,G[n]?=Z c/\c.kd=Z k/\vk m k=O'/\φ n=a
mutual
/-- no container within of a kind that m reads as data -/
noncomputable def A9(m:Nat):D->Bool
 |.lst a k=>!vk m k&&Dn m a
 |.tup a=>Dn m a
 |.non=>J'
 |.bl _=>J'
 |.int _=>J'
 |.str _=>J'
 |.ty _=>J'
noncomputable def Dn(m:Nat):U D->Bool
 |[]=>J'
 |x::a=>A9 m x&&Dn m a
end
section
variable{K:Ao}{G:Gh}{s:IS}{m:Nat}{B:Fb}
theorem NW.lv(h:NW m φ G a):LV φ G a:=let⟨n,c,k,b,d,_,e⟩:=h;#[n,c,k,b,d,e]
theorem tx:∀{f:Nat}{x:IV}{d:D},tr m G f x=Z d->MW (un x)=MW d
 |f,.val d,_,h=>by erw[tr]at h;cases h;rfl
 |0,.cel n,_,h=>by erw[tr]at h;cases h
 |f+1,.cel n,d,h=>by
  unfold tr at h;split at h
  ·split at h<;>cases h;rfl
  ·obtain⟨_,h⟩:=ZV h;obtain⟨l,_,rfl⟩:=B0.mp h;rfl
  ·cases h
 |f,.no,_,h=>by erw[tr]at h;cases h
 |f,.exc _,_,h=>by erw[tr]at h;cases h
theorem bY{f:Nat}:∀{xs:U IV}{b:U D},NH (xs.map (tr m G f))=Z b->JD (xs.map un)=JD b
 |[],_,h=>by cases h;rfl
 |[x],_,h=>by
  obtain⟨d,r,c,a,rfl⟩:=Iy h;cases a;rfl
 |x::y::r,_,h=>by
  obtain⟨d,l,c,a,rfl⟩:=Iy h;obtain⟨g,i,j,e,rfl⟩:=Iy a;erw[AS,JD,tx c,bY e]
theorem tz{f:Nat}{xs:U IV}{b:U D}{k:Kd}(h:NH (xs.map (tr m G f))=Z b):CO K k a (xs.map un) vs=CO K k a b vs:=by
 cases k<;>erw[CO,bY h]
theorem Bv.nnv(R:Bv K φ G H){n:Nat}{c:Cl}{k:Kd}(e:G[n]?=Z c)(a:c.kd=Z k)(i:vk m k=J'):¬ NW m φ G (φ n):=λ⟨j,b,d,f,g,l,h⟩=>by
 have:=R.inj j n b c d k f e g a h;simp_all
set_option tactic.hygienic true in
theorem bZ(R:Bv K φ G H):∀{f:Nat}{x:IV}{d:D}{v:V},tr m G f x=Z d->Bg K φ G.length (LV φ G) H x v->As K (NW m φ G) H d v
 |f,.val d,_,v,h,q=>by erw[tr]at h;cases h;exact As.nw q λa i=>.inl i.lv
 |0,.cel n,_,_,h,_=>by erw[tr]at h;cases h
 |f,.no,_,_,h,_=>by erw[tr]at h;cases h
 |f,.exc _,_,_,h,_=>by erw[tr]at h;cases h
 |f+1,.cel n,d,v,h,q=>by
  obtain⟨_,rfl⟩:=q;unfold tr at h;split at h
  ·next k c e=>
   obtain⟨j,h⟩:=ZV h;cases h;obtain⟨b,g,o⟩:=R.cell n _ e;exact#[_,b,rfl,.of (R.nnv e rfl j) g,o.nw λa i=>.inl i.lv]
  ·next k c e=>
   obtain⟨j,h⟩:=ZV h;obtain⟨l,p,rfl⟩:=B0.mp h;obtain⟨b,g,o⟩:=R.cell n _ e;rw[tz p]at g;refine#[_,b,rfl,.of (R.nnv e rfl j) g,?_];have all:∀{c:U IV} {b:U V} {l:U D},Paired (Bg K φ G.length (LV φ G) H) c b->NH (c.map<|tr m G f)=Z l->Ad K (NW m φ G) H l b:=by
    intro c b l h;induction h generalizing l with|nil=>intro e;cases e;exact Ad.nil|cons q t s=>
     intro e;obtain⟨d,r,u,w,rfl⟩:=Iy e;exact Ad.cons (bZ R u q)<|s w
   exact all o p
  ·cases h
theorem tE{k:Kd}{b:Ac}{ys:U D}{ws:U V}(h:CO K k a xs vs=CO K k' b ys ws):vk m k=vk m k':=by
 cases k<;>cases k'<;>first|rfl|cases h|(cases m with|zero=>rfl|succ j=>cases j<;>rfl)
mutual
theorem As.up(R:Bv K φ G H)(sm:Ah H H'):∀(d:D)(v:V),A9 m d=J'->As K (λa=>NW m φ G a\/B a) H' d v->As K (λa=>LV φ G a\/B a) H' d v
 |.non,_,_,h=>by simpa only[As]using h
 |.bl _,_,_,h=>by simpa only[As]using h
 |.int _,_,_,h=>by simpa only[As]using h
 |.str _,_,_,h=>by simpa only[As]using h
 |.ty _,_,_,h=>by simpa only[As]using h
 |.tup g,v,b,h=>by
  erw[A9]at b
  erw[As]at h ⊢
  obtain⟨a,f,e,q,r⟩:=h
  exact#[a,f,e,q,Ad.up R sm g f b r]
 |.lst g k,v,b,h=>by
  erw[A9,CM,Nz]at b
  erw[As]at h ⊢
  obtain⟨a,f,e,q,r⟩:=h
  refine#[a,f,e,?_,Ad.up R sm g f b.2 r]
  rcases q with⟨n,q⟩|q
  ·refine .inl #[λz=>z.elim (λ⟨j,c,l,p,s,t⟩=>n (.inl #[j,c,l,p,s,?_,t])) λz=>n (.inr z),q]
   obtain⟨u,w,z⟩:=R.has p s
   have i:=sm _ _ z
   rw[t]at i
   rcases q with q|⟨o,q⟩
   ·rw[i]at q;rw[tE (GX q)];exact b.1
   ·rw[i]at q;cases l<;>cases q
  ·exact .inr q
theorem Ad.up(R:Bv K φ G H)(sm:Ah H H'):∀(xs:U D)(vs:U V),Dn m xs=J'->Ad K (λa=>NW m φ G a\/B a) H' xs vs->Ad K (λa=>LV φ G a\/B a) H' xs vs
 |[],_,_,h=>by simpa only[Ad]using h
 |x::xs,vs,b,h=>by
  erw[Dn,CM]at b
  erw[Ad]at h ⊢
  obtain⟨v,r,e,q,t⟩:=h
  exact#[v,r,e,As.up R sm x v b.1 q,Ad.up R sm xs r b.2 t]
end
theorem b3{i:Nat}{b:Kd}{a:O Ac}:(vw m s)[i]?≠Z (Sl.own xs b a):=λh=>by
 erw[vw,Dy]at h;cases e:s.1[i]? with|none=>simp[e]at h|some x=>
  rw[e]at h;unfold D9 at h;grind
theorem TC(h:Nf (NW m φ s.2) (vw m s) I a):NW m φ s.2 a:=h.elim id λ⟨_,_,_,_,h,_⟩=>(b3 h).elim
set_option tactic.hygienic true in
theorem Bt.vw(R:Bt K φ s I H):Bh K (NW m φ s.2) H (vw m s) I H:=by
 refine#[by erw[L2.vw,Bi];exact R.len,Ah.refl H,λa h=>R.g.nh h.lv,λi A e=>?_,λi j p B b E _ _ a h=>(b3 h).elim]
 erw[L2.vw,Dy]at e
 obtain⟨x,w,e⟩:=B0.mp e
 subst e
 rcases R.slot i x w with rfl|⟨v,l,q⟩
 ·trivial
 ·cases x with
  |no=>exact q.elim
  |val d=>exact#[v,l,As.nw q λa f=>.inl (TC f).lv]
  |exc c=>obtain⟨a,C,rfl,o,r⟩:=q;exact#[a,C,l,o,r]
  |cel n=>
   cases t:tr m s.2 3 (.cel n)with
   |some d=>
    have z:D9 m s.2 (.cel n)=.val d:=by unfold D9;dsimp only;rw[t]
    rw[z];exact#[v,l,(bZ R.g t q).nw λa f=>.inl (TC f)]
   |none=>
    obtain⟨_,rfl⟩:=q
    have z:D9 m s.2 (.cel n)=(match s.2[n]? with
     |some (.dat k p)=>if vk m k=J' then .no else .lent p k
     |_=>.no):=by unfold D9;dsimp only;rw[t]
    rw[z]
    split
    ·next k p e=>
     split
     ·trivial
     ·next u=>
      have u:vk m k=O':=by simpa using u
      obtain⟨y,o,r⟩:=R.g.cell n _ e
      exact#[_,y,l,#[#[n,_,k,e,rfl,u,rfl],by rw[o];exact λz=>nomatch z],.inl o,r.nw λa f=>.inl (TC f).lv]
    ·trivial
end
@[simp] def jO(m:Nat)(o:O D):O D:=o.bind λd=>if A9 m d=J' then Z d else J
@[simp] def jL(m:Nat)(o:A0):A0:=o.bind λd=>if Dn m d=J' then Z d else J
def jE(m:Nat)(f:AB)(s:IS):O D:=jO m (f (vw m s))
def jG(m:Nat)(f:VE->A0)(s:IS):A0:=jL m (f (vw m s))
def jT(m:Nat)(t:VE->O Bool)(s:IS):O Bool:=t (vw m s)
def tJ(K:Ao)(g:IS->O D):TE:=λc H Q=>∃b s d,Bt K b s c H/\g s=Z d/\∀v a,Ah H a->As K (LV b s.2) a d v->Q v a
def TD(fl:Kd)(K:Ao)(g:IS->A0):TE:=λh H Q=>∃e s d,Bt K e s h H/\g s=Z d /\
 ∀a f c,Ah H c->H a=J->c a=Z (CO K fl a d f)->Ad K (λb=>LV e s.2 b\/b=a) c d f->Q (.ref a) c
def TF(K:Ao)(g:IS->O Bool):TT:=λc H Q=>∃d s b,Bt K d s c H/\g s=Z b/\∀a,Ah H a->Q b a
def EZ(K:Ao)(g:IS->O Nat):TE:=λb H Q=>∃a s n,Bt K a s b H/\g s=Z n/\(n<s.2.length->Q (.ref (a n)) H)
def DM(K:Ao)(g:IS->O (IV×Gh)):TE:=λc H Q=>∃d s r,Bt K d s c H/\g s=Z r /\
 ∀a v b,Bt K a (s.1,r.2) c b->Bg K a r.2.length (LV a r.2) b r.1 v->Go d s.2 H a r.2 b->Q v b
def FY(K:Ao)(g:IS->O (U IV)):TA:=λe H Q=>∃a s c,Bt K a s e H/\g s=Z c /\
 ∀d b,Ah H b->Paired (Bg K a s.2.length (LV a s.2) b) c d->Q d b
def TH(K:Ao)(g:IS->O IV):TE:=λc H Q=>∃a s x,Bt K a s c H/\g s=Z x /\
 ∀v b,Ah H b->Bg K a s.2.length (LV a s.2) b x v->Q v b
section
variable{e:Expr}{f:AB}{ff:VE->A0}{t:VE->O Bool}{g:IS->O D}
theorem tH(m:Nat)(h:∀M H0,JE X e (tD X.K M H0 f)):JE X e (tJ X.K (jE m f)):=#[λb st i H Q t j=>by
 obtain⟨p,s,d,R,e,q⟩:=j;obtain⟨r,k,e⟩:=B4.mp e;split at e
 ·next l=>cases e;exact(h _ _).h b st i H Q t #[_,_,R.vw,k,λv n sm o=>q v n sm<|(As.up R.g sm _ _ l<|o.nw λa c=>.inl<|.inl<|c.resolve_right id).nw λa c=>.inl<|.inl c]
 ·cases e]
theorem b4(m:Nat)(h:∀M H0,JE X e (Fm fl X.K M H0 ff)):JE X e (TD fl X.K (jG m ff)):=#[λc st d H Q w f=>by
 obtain⟨t,s,u,R,e,q⟩:=f;obtain⟨v,i,e⟩:=B4.mp e;split at e
 ·next j=>
  cases e;exact(h _ _).h c st d H Q w #[_,_,R.vw,i,λa k l sm n o p=>q a k l sm n o<|Ad.up R.g sm _ _ j<|p.nw λb r=>.inl<|r.imp .inl id]
 ·cases e]
theorem b5(m:Nat)(h:∀M H0,JT X e (BQ X.K M H0 t)):JT X e (TF X.K (jT m t)):=#[λa st c H Q g d=>by
 obtain⟨f,s,b,R,e,q⟩:=d;exact(h _ _).h a st c H Q g #[_,b,R.vw,e,q]]
end
section
variable{K:Ao}{G:Gh}{s:IS}
theorem Bt.put(R:Bt K φ s I H){x:IV}{v:V}(i:Nat)(h:Bg K φ s.2.length (LV φ s.2) H x v):Bt K φ (s.1.set i x,s.2) (I.set i (Z v)) H:=by
 refine#[by simp[R.len],R.g,λj y e=>?_];by_cases a:i=j
 ·subst a;have b:i<s.1.length:=by have:=(C8.mp e).1;simpa using this
  rw[Gw b]at e;cases e;exact .inr #[v,by rw[Gw (by rw[<- R.len];exact b)];rfl,h]
 ·rw[Ed a]at e;rw[Ed a];exact R.slot j y e
@[simp] def DN(φ:Nat->Ac)(n:Nat)(a:Ac):Nat->Ac:=λj=>if j=n then a else φ j
theorem b6{c:Cl}{k:Kd}(l:c.kd=Z k){b:Ac}:LV (DN φ G.length a) (G++[c]) b↔LV φ G b\/b=a:=by
 constructor
 ·rintro⟨n,h,i,e,d,f⟩;rw[KA]at e;split at e
  ·next g=>
   have:=B9 g;erw[DN,if_neg this]at f;exact .inl #[n,h,i,e,d,f]
  ·next g=>
   cases m:n-G.length with
   |zero=>
    have:n=G.length:=by lia
    erw[DN,if_pos this]at f;exact .inr f.symm
   |succ j=>simp[m]at e
 ·rintro(⟨n,h,i,e,d,f⟩|rfl)
  ·have g:=(C8.mp e).1;exact#[n,h,i,by rw[MQ g];exact e,d,by erw[DN,if_neg<|B9 g];exact f]
  ·exact#[G.length,c,k,by rw[RW<|Bf _,Nat.sub_self];rfl,l,by erw[DN,if_true]]
theorem Go.new(sm:Ah H H'){c:Cl}{k:Kd}(f:H a=J)(g:c.kd=Z k):Go φ G H (DN φ G.length a) (G++[c]) H':=by
 refine#[λn d=>by erw[DN,if_neg<|B9 d],by simp,λb o e _=>sm b o e,λb h=>?_];grind [b6]
theorem Bv.new(R:Bv K φ G H)(sm:Ah H H'){c:Cl}{k:Kd}(u:H a=J)(v:c.kd=Z k)(L:Tz K (DN φ G.length a) (G++[c]).length (LV (DN φ G.length a) (G++[c])) H' a c):Bv K (DN φ G.length a) (G++[c]) H':=by
 have go:Go φ G H (DN φ G.length a) (G++[c]) H':=Go.new sm u v;refine#[λn d e=>?_,λn m w x y A B C f g h=>?_]
 ·rw[KA]at e;split at e
  ·next b=>
   have q:=R.cell n d e;have z:DN φ G.length a n=φ n:=by erw[DN,if_neg<|B9 b]
   rw[z];cases d with
   |dead=>trivial
   |dat k E=>obtain⟨l,f,g⟩:=q;exact#[l,sm _ _ f,Ad.step go.st _ _ g]
   |mix k E=>obtain⟨l,f,g⟩:=q;exact#[l,sm _ _ f,Paired.mapP g λ_ _ q=>Bg.go go q]
  ·next b=>
   cases o:n-G.length with
   |zero=>
    have b:n=G.length:=by lia
    simp_all
   |succ j=>simp[o]at e
 ·have at_:∀{n:Nat} {d:Cl} {p:Kd},(G++[c])[n]?=Z d->d.kd=Z p->(n<G.length/\G[n]?=Z d/\DN φ G.length a n≠a)\/n=G.length:=λ{n d p} e r=>by
   rw[KA]at e;split at e
   ·next b=>
    refine .inl #[b,e,?_];erw[DN,if_neg<|B9 b];intro z;exact R.nh ⟨n,d,p,e,r,z⟩ u
   ·next b=>
    cases o:n-G.length with
    |zero=>exact .inr (by lia)
    |succ j=>simp[o]at e
  rcases at_ B f with⟨b,s,M⟩|b<;>rcases at_ C g with⟨i,t,F⟩|i
  ·erw[DN,if_neg<|B9 b,if_neg<|B9 i]at h;exact R.inj n m w x y A s t f g h
  ·exact(M (by rw[h,i];erw[DN,if_true])).elim
  ·exact(F (by rw[<- h,b];erw[DN,if_true])).elim
  ·rw[b,i]
theorem tL{n:Nat}{c c':Cl}{k:Kd}(e:G[n]?=Z c)(m:c.kd=Z k)(g:c'.kd=Z k'){b:Ac}:LV φ (G.set n c') b↔LV φ G b:=by
 have o:=(C8.mp e).1;constructor
 ·rintro⟨j,h,i,f,l,a⟩;by_cases d:n=j
  ·subst d;exact#[n,c,k,e,m,a]
  ·rw[Ed d]at f;exact#[j,h,i,f,l,a]
 ·rintro⟨j,h,i,f,l,a⟩;by_cases d:n=j
  ·subst d;exact#[n,c',k',by rw[Gw o],g,a]
  ·exact#[j,h,i,by rw[Ed d];exact f,l,a]
theorem Bv.chg(R:Bv K φ G H){n:Nat}{c c':Cl}{k:Kd}{u:HO}(e:G[n]?=Z c)(l:c.kd=Z k)(v:c'.kd=Z k') (A:∀L N H',Go φ G H φ (G.set n c') H'->H' (φ n)=Z u->L=(G.set n c').length->N=LV φ (G.set n c')->Tz K φ L N H' (φ n) c'):Bv K φ (G.set n c') (AG H (φ n) u)/\Go φ G H φ (G.set n c') (AG H (φ n) u):=by
 have go:Go φ G H φ (G.set n c') (AG H (φ n) u):=by
  refine#[λ_ _=>rfl,by simp,λa o x z=>?_,λb B=>.inl<|(tL e l v).mp B];have ne:a≠φ n:=by
   rintro rfl;rcases z with z|z|z
   ·exact z #[n,c,k,e,l,rfl]
   ·exact z
   ·obtain⟨y,r,q⟩:=R.has e l;rw[x]at q;cases q;rw[Yi]at z;cases z
  rw[Zm ne];exact x
 refine#[#[λj f d=>?_,λj m f w s t d C g p h=>?_],go]
 ·by_cases i:n=j
  ·subst i;rw[Gw (C8.mp e).1]at d;cases d;exact A _ _ _ go ZH rfl rfl
  ·rw[Ed i]at d;have q:=R.cell j f d;cases f with
   |dead=>trivial
   |dat t y=>
    obtain⟨r,g,p⟩:=q;exact#[r,by rw[Zm λz=>i (R.inj j n _ _ _ _ d e rfl l z).symm];exact g,Ad.step go.st _ _ p]
   |mix t y=>
    obtain⟨r,g,p⟩:=q;exact#[r,by rw[Zm λz=>i (R.inj j n _ _ _ _ d e rfl l z).symm];exact g,Paired.mapP p λ_ _ q=>Bg.go go q]
 ·have at_:∀{j:Nat} {f:Cl} {s:Kd},(G.set n c')[j]?=Z f->f.kd=Z s->∃w t,G[j]?=Z w/\w.kd=Z t:=λ{j f s} d g=>by
   by_cases i:n=j
   ·subst i;exact#[c,k,e,l]
   ·rw[Ed i]at d;exact#[f,s,d,g]
  obtain⟨E,l1,S,F⟩:=at_ d g;obtain⟨M,P,Q,T⟩:=at_ C p;exact R.inj j m E M l1 P S Q F T h
end
@[simp] def xD(o:O D)(s:IS):O (IV×Gh):=o.map λd=>(.val d,s.2)
@[simp] def xF(fl:Kd)(o:A0)(s:IS):O (IV×Gh):=o.map λl=>(.val (.lst l fl),s.2)
@[simp] noncomputable def xC(fl:Kd)(o:A0)(s:IS):O (IV×Gh):=o.map λl=>(.cel s.2.length,s.2++[.dat fl l])
@[simp] noncomputable def xP(o:O Nat)(s:IS):O (IV×Gh):=o.bind λn=>if n<s.2.length then Z (.cel n,s.2)else J
@[simp] noncomputable def Cr(s:IS)(i:Nat):O Nat:=match s.1[i]? with
  |some (.cel n)=>Z n
  |_=>J
@[simp] def Mh(c f:Ae)(s:IS)(o:O Nat):O Nat:=o.bind λn=>match s.2[n]? with
  |some (.mix (.i ns a) b)=>if a=c then match(ns.zip b).lookup f with
   |some (.cel j)=>Z j
   |_=>J
   else J
  |_=>J
section
variable{e o:Expr}{g:IS->O D}{gf:IS->A0}{g1:IS->O IV}{ga:IS->O (U IV)}
theorem TJ(h:JE X e (tJ X.K g)):JE X e (DM X.K λs=>xD (g s) s):=#[h.h.mono λi H Q b=>by
 obtain⟨a,s,r,R,e,q⟩:=b;obtain⟨d,hd,rfl⟩:=B0.mp e;exact#[a,s,d,R,hd,λv c sm f=>q a v c (R.same sm) f<|Go.same sm]]
theorem tM(h:JE X e (TD fl X.K gf)):JE X e (DM X.K λs=>xF fl (gf s) s):=#[h.h.mono λp H Q d=>by
 obtain⟨c,s,r,R,e,q⟩:=d;obtain⟨l,f,rfl⟩:=B0.mp e;refine#[c,s,l,R,f,λa i j sm k m n=>q c _ j (R.same sm) ?_<|Go.same sm];exact⟨a,i,rfl,.of (λz=>R.g.nh z k) m,n.nw λb o=>.inl<|.inl o⟩]
theorem tN(h:JE X e (TD fl X.K gf)):JE X e (DM X.K λs=>xC fl (gf s) s):=#[h.h.mono λp H Q i=>by
 obtain⟨c,s,r,R,e,q⟩:=i;obtain⟨l,j,rfl⟩:=B0.mp e;refine#[c,s,l,R,j,λa k d sm f m n=>?_];have go:Go c s.2 H (DN c s.2.length a) (s.2++[.dat fl l]) d:=Go.new sm f rfl;refine q _ _ d (R.go (R.g.new sm f rfl #[k,m,n.nw λb o=>.inl<|(b6 rfl).mp o]) go) ⟨by simp,by erw[DN,if_true]⟩ go]
theorem b9(h:JE X e (EZ X.K gp)):JE X e (DM X.K λs=>xP (gp s) s):=#[h.h.mono λf H Q c=>by
 obtain⟨a,s,r,R,e,q⟩:=c;obtain⟨n,d,e⟩:=B4.mp e;split at e
 ·next b=>cases e;exact#[a,s,n,R,d,λb=>q a _ H R #[b,rfl]<|Go.same<|Ah.refl H]
 ·cases e]
set_option tactic.hygienic true in
theorem tR{i:Nat}{x:Ae}(b:NV X i x:=by exact EF):JE X (.Name x pos) (EZ X.K λs=>Cr s i):=#[(Gy b).mono λc H Q d=>by
 obtain⟨f,s,n,R,e,q⟩:=d;dsimp only at e;unfold Cr at e;split at e
 ·next j g=>
  cases e;rcases R.slot i _ g with z|⟨v,a,h,rfl⟩
  ·cases z
  ·refine#[.ref<|f n,?_,q h];cases z:c[i]? with
   |none=>rw[z]at a;cases a
   |some o=>rw[z]at a;cases a;rfl
 ·cases e]
theorem ce{K:Ao}{φ:Nat->Ac}{L:Nat}{N:Fb}{H:Hp}{f:Ae}{x:IV}:∀{ns:U Ae}{xs:U IV}{vs:U V},Paired (Bg K φ L N H) xs vs->(ns.zip xs).lookup f=Z x->∃v,(ns.zip vs).lookup f=Z v/\Bg K φ L N H x v
 |[],_,_,_,e=>by simp at e
 |_::_,[],_,_,e=>by simp at e
 |n::ns,y::b,_,.cons q t,e=>by
  erw[Kx,List.lookup_cons]at e ⊢;cases a:f==n with
  |true=>rw[a]at e;cases e;exact#[_,rfl,q]
  |false=>rw[a]at e;exact ce t e
set_option tactic.hygienic true in
theorem tT{c f:Ae}(i:nsIn X.K BU c=Z (Z (.ref C)))(l:ES X.K C)(m:BF X.K C f)(p:JE X o (EZ X.K gp))(r:F6 o f X.env (Ap o X.env)=Ap o X.env:=by rfl):JE X (.Attribute o f pos) (EZ X.K λs=>Mh c f s (gp s)):=#[(XA p.h r).mono λE H Q t=>by
 obtain⟨u,s,n,R,e,q⟩:=t;obtain⟨j,x,w⟩:=B4.mp e;split at w
 ·next ns G M y=>
  split at w
  ·next a=>
   subst a;split at w
   ·next k z=>
    cases w;refine#[u,s,j,R,x,λF=>?_];obtain⟨L,d,A⟩:=R.g.cell j _ y;obtain⟨v,B,b,rfl⟩:=ce A z;erw[CO,JZ i]at d;exact#[_,C,_,_,_,rfl,.inl d,l,m,B,q b]
   ·cases w
  ·cases w
 ·cases w]
theorem cf(h:JE X e (tJ X.K g)):JE X e (TH X.K λs=>(g s).map .val):=#[h.h.mono λi H Q a=>by
 obtain⟨b,s,r,R,e,q⟩:=a;obtain⟨d,hd,rfl⟩:=B0.mp e;exact#[b,s,d,R,hd,λv c sm f=>q v c sm f]]
theorem tU(h:JE X e (EZ X.K gp)):JE X e (TH X.K λs=>(gp s).map .cel):=#[h.h.mono λf H Q a=>by
 obtain⟨b,s,r,R,e,q⟩:=a;obtain⟨n,c,rfl⟩:=B0.mp e;exact#[b,s,n,R,c,λd=>q _ H (Ah.refl H) #[d,rfl]]]
theorem cg:JA X [] (FY X.K λ_=>Z []):=#[A8.mono λb H Q a=>by
 obtain⟨c,s,d,R,e,q⟩:=a;cases e;exact q [] H (Ah.refl H) .nil]
theorem cj(h:JE X e (TH X.K g1))(d:JA X es (FY X.K ga))(f:AC (e::es) X.env=(O',Ap e X.env)::AC es X.env:=by exact ZR rfl):JA X (e::es) (FY X.K λs=>Zh (g1 s) (ga s)):=#[(Z3 h.h d.h f).mono λn H Q g=>by
 obtain⟨a,s,o,R,e,q⟩:=g;obtain⟨x,r,i,j,rfl⟩:=Iy e;exact#[a,s,x,R,i,λv p b k=>#[a,s,r,R.same b,j,λt l c m=>q _ l (b.trans c)<|.cons (k.go<|Go.same c) m]]]
end
inductive RI where
 |fail|next(s:IS)|brk (s:IS)|cont (s:IS)|ret (x:IV) (G:Gh)
abbrev A5:=IS->RI
def TK(K:Ao)(φ:Nat->Ac)(G:Gh)(H:Hp)(s':IS)(Q:St->Hp->Prop):Prop:=∀a b c,Bt K a s' b c->Go φ G H a s'.2 c->Q b c
def C4(K:Ao)(φ:Nat->Ac)(G:Gh)(H:Hp)(D:Ends):RI->Prop
 |.fail=>False
 |.next b=>TK K φ G H b D.nx
 |.brk b=>TK K φ G H b D.bk
 |.cont b=>TK K φ G H b D.ct
 |.ret x c=>∀a v d,Bv K a c d->Bg K a c.length (LV a c) d x v->Go φ G H a c d->D.rt v d
def tK(K:Ao)(g:A5):TS:=λD b H=>∃a s,Bt K a s b H/\C4 K a s.2 H D (g s)
set_option backward.eqns.nonrecursive true in
@[simp] def Zl(a:RI)(g:A5):RI:=match a with
  |.next s=>g s
  |r=>r
@[simp] def Cu(c:O Bool)(a b:RI):RI:=match c with
  |some J'=>a
  |some O'=>b
  |none=>.fail
@[simp] noncomputable def Dd(i:Nat)(o:O (IV×Gh))(s:IS):RI:=match o with
  |some r=>.next (s.1.set i r.1,r.2)
  |none=>.fail
@[simp] def CH(o:O (IV×Gh)):RI:=match o with
  |some r=>.ret r.1 r.2
  |none=>.fail
@[simp] def Fx(o:O (IV×Gh))(s:IS):RI:=match o with
  |some r=>.next (s.1,r.2)
  |none=>.fail
noncomputable def GI(i:Nat)(g:A5):U D->A5
 |[],s=>.next s
 |d::b,s=>match g (s.1.set i (.val d),s.2)with
  |.next a=>GI i g b a
  |.cont a=>GI i g b a
  |.brk a=>.next a
  |r=>r
@[simp] def K5(i:Nat)(g:A5)(o:A0)(s:IS):RI:=match o with
  |some a=>GI i g a s
  |none=>.fail
@[simp] def Mi:D->A0
  |.lst a .l=>Z a
  |_=>J
@[simp] def PR:D->A0
  |.int j=>gd (-1000000000<=j/\j<1000000000) (Z (Hz 0 j.toNat))
  |_=>J
section
variable{K:Ao}{φ1:Nat->Ac}{G G1:Gh}{H1:Hp}{D:Ends}{r:RI}
theorem C4.from(g:Go φ G H φ1 G1 H1)(h:C4 K φ G H D r):C4 K φ1 G1 H1 D r:=by
 cases r with
 |fail=>exact h
 |next s=>exact λa b c R go=>h a b c R<|g.trans go
 |brk s=>exact λa b c R go=>h a b c R<|g.trans go
 |cont s=>exact λa b c R go=>h a b c R<|g.trans go
 |ret x e=>exact λa v c R d go=>h a v c R d<|g.trans go
end
section
variable{st:Az}{AH a b:U Az}{g g1 g2:A5}{gd':IS->O D}{c:Expr}{t:IS->O Bool}{pos':AD}{e o:Expr}{x:Ae}
theorem tV:JB X [] (tK X.K λs=>.next s):=#[Eu.mono λD a H ⟨b,s,R,q⟩=>q b a H R<|Go.same<|Ah.refl H]
theorem ck(d:JS X st (tK X.K g1))(e:JB X AH (tK X.K g2)):JB X (st::AH) (tK X.K λs=>Zl (g1 s) g2):=#[(RH d.h e.h).mono λD k H f=>by
 obtain⟨g,s,R,q⟩:=f;dsimp only at q;refine#[g,s,R,?_];cases a:g1 s with
 |fail=>rw[a]at q;exact q
 |next b=>rw[a]at q;exact λc i l j go=>#[c,b,j,C4.from go q]
 |brk b=>rw[a]at q;exact q
 |cont b=>rw[a]at q;exact q
 |ret x m=>rw[a]at q;exact q]
theorem tW:JS X st (tK X.K λ_=>.fail):=#[GY.mono λD a H ⟨b,s,R,q⟩=>q]
theorem tY(f:JT X c (TF X.K t))(g:JB X a (tK X.K g1))(i:JB X b (tK X.K g2)):JS X (.If c a b pos) (tK X.K λs=>Cu (t s) (g1 s) (g2 s)):=#[(OG f.h g.h i.h).mono λD l H j=>by
 obtain⟨d,s,R,q⟩:=j;dsimp only at q;cases e:t s with|none=>rw[e]at q;exact q.elim|some k=>
  rw[e]at q;refine#[d,s,k,R,e,λm sm=>?_];cases k with
  |true=>exact Ky #[d,s,R.same sm,C4.from (Go.same sm) q]
  |false=>exact Kz #[d,s,R.same sm,C4.from (Go.same sm) q]]
theorem cm{i:Nat}(c:X.N.Nodup)(d:JE X e (DM X.K gx))(f:X.N[i]?=Z x:=by rfl)(g:Loc X.env.scope x:=by first|exact .inl rfl|exact .inr rfl)(j:Ef e (Z (.Name x pos')) pos.line X.env=AA O':=by rfl)(k:X.fn x=J'\/X.env.scope.names.lookup x=Z .local:=by first|exact .inl rfl|exact .inr rfl|assumption):JS X (.Assign [.Name x pos'] e pos) (tK X.K λs=>Dd i (gx s) s):=#[(OI c f g d.h j k).mono λD t H l=>by
 obtain⟨m,s,R,q⟩:=l;dsimp only at q;cases a:gx s with
 |none=>rw[a]at q;exact q.elim
 |some r=>rw[a]at q;exact#[m,s,r,R,a,λb v n o p go=>q b _ n (o.put i p) go]]
theorem tZ(c:JE X e (DM X.K gx)):JS X (.Return (Z e) pos) (tK X.K λs=>CH (gx s)):=#[(OE c.h).mono λD l H d=>by
 obtain⟨f,s,R,q⟩:=d;dsimp only at q;cases a:gx s with
 |none=>rw[a]at q;exact q.elim
 |some r=>rw[a]at q;exact#[f,s,r,R,a,λb v i j k go=>q b v i j.g k go]]
theorem t5(c:JE X e (DM X.K gx))(d:Ef e J pos.line X.env=AA O':=by rfl):JS X (.Expr e pos) (tK X.K λs=>Fx (gx s) s):=#[(OD c.h d).mono λD k H f=>by
 obtain⟨g,s,R,q⟩:=f;dsimp only at q;cases a:gx s with
 |none=>rw[a]at q;exact q.elim
 |some r=>rw[a]at q;exact#[g,s,r,R,a,λb v i j l go=>q b _ i j go]]
def TL(K:Ao)(f:IS->A0):TI:=λd H R=>∃b s c,Bt K b s d H/\f s=Z c/\∀e a,Ah H a->LW K (λ_=>False) (LV b s.2) a e c->R e a
theorem t6{u:Expr}(h:JE X e (tJ X.K gd')):JI X u e (TL X.K λs=>(gd' s).bind Mi):=#[(Xj h.h).mono λF H L A=>by
 obtain⟨n,s,M,R,e,q⟩:=A;obtain⟨d,hd,e⟩:=B4.mp e;unfold Mi at e;split at e
 ·cases e;refine#[n,s,_,R,hd,λv o B C=>?_];obtain⟨a,c,E,f,p⟩:=C;have r:∀j g,Step (λ_=>False) (LV n s.2) j o g->BL X.K g a c:=λj g S=>by
   rcases f with⟨G,f⟩|⟨N,z,f⟩
   ·exact .inl<|f.step S<|.inl G
   ·cases z;exact f.sq
  refine#[a,E,#[c,r _ _ Step.refl],q _ o B λj g S i=>?_];have b:=r _ _ S;have k:=Ad.step S _ _ p;refine#[λd l=>?_,λl=>#[c,b,by rw[l,p.length];exact Bf _]];obtain⟨w,t,m⟩:=k.get l;refine#[#[c,w,b,t],λx P y=>?_];obtain⟨rfl,y⟩:=y;have:=y c b;rw[t]at this;cases this;exact#[Ah.refl _,m]
 ·cases e]
set_option tactic.hygienic true in
theorem t7{c a:Expr}{p:AD}(f:Gl X "range")(g:X.mg "range"=J)(i:JE X a (tJ X.K gd'))(k:AC [a] X.env=[(O',Ap a X.env)]:=by rfl)(b:AC (a::[]) X.env=(O',Ap a X.env)::AC [] X.env:=by exact ZR rfl):JI X c (.Call (.Name "range" p) [a] [] pos) (TL X.K λs=>(gd' s).bind PR):=#[(Xl f g (cj (cf i) cg b).h k).mono λu H v l=>by
   obtain⟨m,s,w,R,e,q⟩:=l;obtain⟨d,hd,e⟩:=B4.mp e;unfold PR at e;split at e
   ·next j=>
    obtain⟨x,e⟩:=O8 e;cases e;refine#[m,s,[.val<|.int j],R,by erw[hd,Jz,Zh,BH],λy n sm o=>?_];cases o with
    |cons r t=>
     cases t;subst r;exact#[j,rfl,by lia,by lia,q _ n sm Sw]
   ·cases e]
theorem t8{p:U Az}{f:IS->A0}{i:Nat}{tp:AD}(hp:Bz (Af X.prog X.w) X.A X.env X.xe)(hc:X.calm=J')(hi:JI X (.Name x tp) iter (TL X.K f))(hN:X.N.Nodup)(hb:JB X p (tK X.K g)) (P:X.N[i]?=Z x:=by rfl) (hx:Loc X.env.scope x:=by first|exact .inl rfl|exact .inr rfl) (hf:X.fn x=J'\/X.env.scope.names.lookup x=Z .local:=by first|exact .inl rfl|exact .inr rfl|assumption) (hs:∀x,EQ iter X.env x=AA x:=by intro _;rfl):JS X (.For (.Name x tp) iter p [] pos) (tK X.K λs=>K5 i g (f s) s):=#[(ON hp hc hi.h (Xf hN P hx hf) hb.h hs).mono λD' I H z0=>by
 obtain⟨L,s,R,q⟩:=z0;dsimp only at q;cases r:f s with|none=>rw[r]at q;exact q.elim|some j=>
  rw[r]at q;refine#[L,s,j,R,r,λF Q s1 ok=>?_];refine#[λn m t u=>m=j.length-n/\n<=j.length/\∃a c,Bt X.K a c t u/\Go L s.2 Q a c.2 u/\C4 X.K a c.2 u D' (GI i g (j.drop n) c),#[j.length,by simp,FD _,L,s,R.same s1,Go.same<|Ah.refl Q,C4.from (Go.same s1) q],?_];rintro n m t u ⟨rfl,hle,a,c,Rn,T,k⟩;obtain⟨S,Y⟩:=ok _ _ T.st n;by_cases l:n<j.length
  ·obtain⟨go,y⟩:=S j[n]<|CK l;rw[MU l]at k;erw[GI]at k;refine .inr ⟨go,λG B=>n+1<=j.length/\∃a c,Bt X.K a c G B/\Go L s.2 Q a c.2 B/\C4 X.K a c.2 B D' (GI i g (j.drop<|n+1) c),λG B z=>⟨j.length-(n+1),by exact Nat.sub_succ_lt_self j.length n l,rfl,z⟩,λx B yl=>?_⟩;obtain⟨s3,hd⟩:=y x B yl;have E:Go a c.2 u a c.2 B:=Go.same s3;refine#[a,(c.1.set i<|.val j[n],c.2),(Rn.same s3).put i hd,?_];cases o:g (c.1.set i<|.val j[n],c.2)with
   |fail=>rw[o]at k;exact k
   |next M=>rw[o]at k;exact λd C W R2 b=>#[l,d,M,R2,T.trans<|E.trans b,C4.from (E.trans b) k]
   |cont M=>rw[o]at k;exact λd C W R2 b=>#[l,d,M,R2,T.trans<|E.trans b,C4.from (E.trans b) k]
   |brk M=>rw[o]at k;exact λd C W R2 b=>k d C W R2<|E.trans b
   |ret x G'=>rw[o]at k;exact λd v W R2 hv b=>k d v W R2 hv<|E.trans b
  ·have e:n=j.length:=by lia
   subst e;rw[MS<|Bf _]at k;exact .inl ⟨Y rfl,k a t u Rn<|Go.same<|Ah.refl u⟩]
end
abbrev FI:=U IV->Gh->O (IV×Gh)
def Dj(K:Ao)(F:FI):Sp:=λe H Q _=>∃b G d r,Bv K b G H/\Paired (Bg K b G.length (LV b G) H) d e/\F d G=Z r /\
 ∀a v c,Bv K a r.2 c->Bg K a r.2.length (LV a r.2) c r.1 v->Go b G H a r.2 c->Q v c
noncomputable def EL(a n:Nat)(g:A5):FI:=λb G=>if b.length=a then
  match g (b++Dx (n-a) .no,G)with
  |.ret x c=>Z (x,c)
  |.next s=>Z (.val .non,s.2)
  |_=>J
 else J
theorem fi{a n:Nat}{g:A5}{xs:U IV}{G:Gh}{r:RI}(h:xs.length=a):g (xs++Dx (n-a) .no,G)=r->EL a n g xs G=match r with
  |.ret x b=>Z (x,b)
  |.next s=>Z (.val .non,s.2)
  |_=>J:=λe=>by subst h e;exact if_pos rfl
theorem cq{K:Ao}{G:Gh}{xs:U IV}(R:Bv K φ G H)(h:Paired (Bg K φ G.length (LV φ G) H) xs vs)(n:Nat):Bt K φ (xs++Dx n .no,G) (vs.map Z++Dx n J) H:=by
 have a:=KZ h;refine#[by simp[a],R,λi x e=>?_];rw[KA]at e;split at e
 ·next b=>
  obtain⟨v,c,q⟩:=bG h e;refine .inr #[v,?_,q];rw[MQ (by simpa[<- a]using b),Dy,c];rfl
 ·rw[Jq]at e;obtain⟨_,e⟩:=ZV e;cases e;exact .inl rfl
section
variable{P:AM}{w:Ai}{K:Ao}{mg:Bx}{base:Ak}{x qual nm:Ae}{st:Az}{f fn:Ac}{fd:Cd}{N:U Ae}{k:Nat}{g g0:A5}
theorem cr(F:Jy K x qual st f fd)(S:EE N ps (Zf st))(t:ps.length<=N.length) (u:∀(b:Aa) (A:Ag) (outer:U Env) (s:Ab) (H:Hp) (E:XK),AI k (A.deeper (A3 qual (Zf st) s.heap.objs.size f b))->JB (Df Bm P w K mg base N qual (Zf st) f b A outer s H E).nox (ZI st) (tK K g)):AR P w K mg base Bm (k+1) f fd ps (Dj K (EL ps.length N.length g)):=by
 refine F.ok S (λi H Q E h=>?_) (λb A outer s H i Q E y h=>?_)
 ·obtain⟨n,G,o,r,R,e,a,q⟩:=h;obtain⟨j,a⟩:=ZV a;rw[<- KZ e];exact j
 ·obtain⟨n,G,o,r,R,e,a,q⟩:=h;refine#[_,(u b A outer s H E y).h,?_];obtain⟨j,a⟩:=ZV a;have z:FE N i=i.map Z++Dx (N.length-ps.length) J:=by unfold FE;rw[<- KZ e,j]
  rw[z];refine#[n,_,cq R e<|N.length-ps.length,?_];cases d:g (o++Dx (N.length-ps.length) .no,G)with
  |fail=>simp[d]at a
  |next p=>rw[d]at a;cases a;exact λc B l m go=>q c .non l m.g (by erw[Bg,As]) go
  |brk p=>rw[d]at a;cases a
  |cont p=>rw[d]at a;cases a
  |ret x L=>rw[d]at a;cases a;exact λc v l m C go=>q c v l m C go
theorem t9(D:DI K mg nm st ps fn fd)(S:EE N ps (Zf st)) (c:∀(a:Aa) (A:Ag) (outer:U Env) (s:Ab) (H:Hp) (E:XK),AI k (A.deeper (A3 nm (Zf st) s.heap.objs.size fn a))->JB (Df Bm P w K mg base N nm (Zf st) fn a A outer s H E).nox (ZI st) (tK K g0)) (e:g0=g:=by rfl) (b:ps.length<=N.length:=by ext):AR P w K mg base Bm (k+1) fn fd ps (Dj K (EL ps.length N.length g)):=cr D.F S b (e ▸ c)
theorem ua(D:MI K C nm qual st ps fn fd)(S:EE N ps (Zf st)) (c:∀(a:Aa) (A:Ag) (outer:U Env) (s:Ab) (H:Hp) (E:XK),AI k (A.deeper (A3 qual (Zf st) s.heap.objs.size fn a))->JB (Df Bm P w K mg base N qual (Zf st) fn a A outer s H E).nox (ZI st) (tK K g0)) (e:g0=g:=by rfl) (b:ps.length<=N.length:=by ext):AR P w K mg base Bm (k+1) fn fd ps (Dj K (EL ps.length N.length g)):=cr D.F S b (e ▸ c)
end
@[simp] def Fy(F:FI)(o:O (U IV))(s:IS):O (IV×Gh):=o.bind λa=>F a s.2
@[simp] noncomputable def Em(c m:Ae):Cl->Bool
  |.dat (.i ns a) _=>decide (a=c)&&!ns.contains m
  |.mix (.i ns a) _=>decide (a=c)&&!ns.contains m
  |_=>O'
@[simp] def Gq(c m:Ae)(F:FI)(p:O Nat)(o:O (U IV))(s:IS):O (IV×Gh):=p.bind λn=>match s.2[n]? with
  |some cl=>if Em c m cl=J'/\n<s.2.length then o.bind λa=>F (.cel n::a) s.2 else J
  |none=>J
@[simp] noncomputable def PU(c:Ae)(F:FI)(o:O (U IV))(s:IS):O (IV×Gh):=o.bind λa=>(F (.cel s.2.length::a) (s.2++[.mix (.i [] c) []])).bind λr=>match r.1 with
  |.val .non=>Z (.cel s.2.length,r.2)
  |_=>J
@[simp] def GJ(c f:Ae)(p:IS->O Nat)(o:O (IV×Gh))(s:IS):RI:=match o with
  |some r=>match p (s.1,r.2)with
   |some n=>match r.2[n]? with
    |some (.mix (.i ns b) a)=>if b=c/\ns.length=a.length/\ns.length<1000 then .next (s.1,r.2.set n (.mix (.i (putN f ns) c) (D8 f r.1 ns a)))else .fail
    |_=>.fail
   |none=>.fail
  |none=>.fail
section
variable{e o:Expr}{ga:IS->O (U IV)}{pos' p:AD}{F:FI}{k n:Nat}{fn:Ac}{fd:Cd}{x c m f:Ae}{E:XK}
theorem ub(G:AR X.prog X.w X.K X.mg X.base CX k fn fd ps (Dj X.K F))(j:AI k X.A)(l:Gl X x)(m:X.mg x=Z (.ref fn))(n:Im X.K (.ref fn)=J')(o:Binds X.K fd ps [])(a:Fh CX X E) (t:JA X (e::es) (FY X.K ga)) (hz:CA X x e es pos:=by exact FM):JE X (.Call (.Name x p) (e::es) [] pos) (DM X.K λs=>Fy F (ga s) s):=#[(OR G j l m n o .nil a t.h hz.d hz.s hz.p).mono λN H Q u=>by
 obtain⟨f,s,r,R,e,q⟩:=u;obtain⟨i,a,y⟩:=B4.mp e;exact#[f,s,i,R,a,λM L sm z=>#[f,s.2,i,r,R.g.same sm,by rw[D0];exact z,y,λb v B C c go=>q b v B (R.go C<|(Go.same sm).trans go) c<|(Go.same sm).trans go]]]
theorem cu{K:Ao}{G:Gh}{cl:Cl}(b:nsIn K BU c=Z (Z (.ref C)))(R:Bv K φ G H)(e:G[n]?=Z cl)(h:Em c m cl=J'):∃d fs,H (φ n)=Z (.ins C d fs)/\fs.lookup m=J:=by
 have q:=R.cell n cl e;unfold Em at h;split at h
 ·erw[CM,decide_eq_true_eq,Nz]at h;obtain⟨rfl,h⟩:=h;obtain⟨f,a,_⟩:=q;erw[CO,JZ b]at a;exact#[_,_,a,NA h]
 ·erw[CM,decide_eq_true_eq,Nz]at h;obtain⟨rfl,h⟩:=h;obtain⟨f,a,_⟩:=q;erw[CO,JZ b]at a;exact#[_,_,a,NA h]
 ·cases h
theorem cw(i:nsIn X.K BU c=Z (Z (.ref C))){Q:VK}(h:DM X.K (λs=>Gq c m F (gp s) (ga s) s) I H Q):Kp C m (Dj X.K F) [] E (EZ X.K gp) (FY X.K ga) I H Q:=by
 obtain⟨a,s,r,R,e,q⟩:=h;obtain⟨n,j,e⟩:=B4.mp e;split at e
 ·next cl k=>
  obtain⟨l,e⟩:=ZV e;obtain⟨f,o,p⟩:=B4.mp e;refine#[a,s,n,R,j,λt=>?_];obtain⟨u,w,x,y⟩:=cu i R.g k l.1;refine#[a n,u,w,rfl,.inl x,y,a,s,f,R,o,λG L sm z=>#[a,s.2,.cel n::f,r,R.g.same sm,.cons #[t,rfl] (by rw[D0];exact z),p,λb v A B d go=>q b v A (R.go B<|(Go.same sm).trans go) d<|(Go.same sm).trans go]]
 ·cases e
section
variable(hC:nsIn X.K BU c=Z (Z (.ref C)))(cl:ES X.K C)(hm:Jp X.K C m fn)(G:AR X.prog X.w X.K X.mg X.base CX k fn fd ps (Dj X.K F))(hr:AI k X.A)(hb:Binds X.K fd ps [])(hx:Fh CX X E)(ho:JE X o (EZ X.K gp))
include hC cl hm G hr hb hx ho
theorem ud(d:JA X (e::es) (FY X.K ga)) (a:AC (e::es) X.env=(O',Ap e X.env)::AC es X.env:=by exact ZR rfl) (b:(Au pos (AC es X.env)).any (·.1)=O':=by rfl) (f:ME X o m (e::es) pl apos pos:=by rfl):JE X (.Call (.Attribute o m apos) (e::es) [] pos) (DM X.K λs=>Gq c m F (gp s) (ga s) s):=#[(XD ho.h cl hm G hr hb .nil hx d.h a b f).mono λ_ _ _ h=>cw hC h]
theorem ue(b:ME X o m [] pl apos pos:=by rfl):JE X (.Call (.Attribute o m apos) [] [] pos) (DM X.K λs=>Gq c m F (gp s) (Z []) s):=#[(XE ho.h cl hm G hr hb .nil hx b).mono λu H Q h=>by
 obtain⟨d,s,n,R,e,q⟩:=cw (E:=E) hC h;refine#[d,s,n,R,e,λf=>?_];obtain⟨a,g,i,j,k,l,p,v,w,R2,r,t⟩:=q f;cases r;exact#[a,g,i,j,k,l,t [] H (Ah.refl H) .nil]]
end
theorem uf(M:nsIn X.K BU c=Z (Z (.ref C)))(N:Mk X.K C fn)(G:AR X.prog X.w X.K X.mg X.base CX n fn fd ps (Dj X.K F))(S:AI (n+1) X.A)(T:Gl X x)(W:X.mg x=Z (.ref C))(Y:Binds X.K fd ps [])(hx:Fh CX X E) (f:JA X (e::es) (FY X.K ga)) (hz:CA X x e es pos:=by exact FM):JE X (.Call (.Name x p) (e::es) [] pos) (DM X.K λs=>PU c F (ga s) s):=#[(l5 N G S T W Y .nil hx f.h hz.d hz.s hz.p).mono λI H Q z0=>by
 obtain⟨l,s,r,R,e,q⟩:=z0;obtain⟨zA,m,e⟩:=B4.mp e;obtain⟨⟨y,G'⟩,hF,e⟩:=B4.mp e;dsimp only at e;split at e
 ·cases e;refine#[l,s,zA,R,m,λvs o P hv a k f hd t=>?_];have nd:a≠k:=by lia
  generalize j:AG (AG o k<|.own a) a (.ins C k [])=u;have e0:u a=Z (.ins C k []):=by rw[<- j,ZH]
  have sm:Ah o u:=by rw[<- j];exact(Z5 hd).trans<|Z5 (by rw[Zm nd];exact f)
  have go:Go l s.2 o (DN l s.2.length a) (s.2++[.mix (.i [] c) []]) u:=Go.new sm f rfl;have gr:=(R.g.same P).new sm f (c:=.mix (.i [] c) []) rfl #[[],by rw[e0,t];erw[CO,JZ M,Nat.add_sub_cancel];rfl,.nil];refine#[_,_,.cel s.2.length::zA,_,gr,.cons #[by simp,by erw[DN,if_true]] (by rw[D0];exact Paired.mapP hv λ_ _ q=>Bg.go go q),hF,λz v H3 R3 B b=>?_];have L:=((Go.same P).trans go).trans b;refine#[B,q z _ H3 (R.go R3 L) #[B6 (by simp) b.len,?_] L];rw[b.ext _ (by simp)];erw[DN,if_true]
 ·cases e]
theorem ug{K:Ao}{L:Nat}{N:Fb}{y:IV}{v:V}{ns:U Ae}{xs:U IV}(a:ns.length=xs.length)(h:Paired (Bg K φ L N H) xs vs)(q:Bg K φ L N H y v):Paired (Bg K φ L N H) (D8 f y ns xs) (D8 f v ns vs):=by
 induction h generalizing ns with
 |nil=>cases ns with
  |nil=>exact .cons q .nil
  |cons=>cases a
 |cons h t b=>cases ns with|nil=>cases a|cons=>
   erw[D8];split
   ·exact .cons q t
   ·exact .cons h<|b (by simpa using a)
set_option tactic.hygienic true in
theorem uh(w:nsIn X.K BU c=Z (Z (.ref C)))(cl:ES X.K C)(B:BF X.K C f)(E:JE X o (EZ X.K gp))(G:JE X e (DM X.K gx)) (S:Ef e (Z (.Attribute o f pos')) pos.line X.env=AA O':=by rfl):JS X (.Assign [.Attribute o f pos'] e pos) (tK X.K λs=>GJ c f gp (gx s) s):=#[(lR E.h G.h S).mono λD u H M=>by
   obtain⟨F,s,R,q⟩:=M;unfold GJ at q;dsimp only at q;split at q
   ·next r Q=>
    refine#[F,s,r,R,Q,λa v l j T go=>?_];split at q
    ·next n m=>
     refine#[a,(s.1,r.2),n,j,m,λhl=>?_];split at q
     ·next ns k p x=>
      split at q
      ·next P=>
       obtain⟨rfl,y,h2⟩:=P;obtain⟨b,Y,z⟩:=j.g.cell n _ x;have lv:=KZ z;obtain⟨R2,d⟩:=j.g.chg (c':=.mix (.i (putN f ns) k)<|D8 f r.1 ns p) x rfl rfl
        (λL N H' A e2 hL hN=>by subst hL hN;exact#[_,e2,ug y (Paired.mapP z λ_ _ q=>Bg.go A q) (Bg.go A T)])
       have t:l (a n)=Z (.ins C (a n-1)<|ns.zip b):=by rw[Y];erw[CO,JZ w]
       refine#[a n,C,a n-1,ns.zip b,rfl,t,cl,B,by rw[List.length_zip];lia,?_];have ew:AG l (a n) (CO X.K (.i (putN f ns) k) (a n) ((D8 f r.1 ns p).map un)<|D8 f v ns b)=AG l (a n) (.ins C (a n-1)<|E4 f v<|ns.zip b):=by
        rw[bH<|y.trans lv];erw[CO,JZ w]
       rw[<- ew];exact q a u _ (j.go R2 d)<|go.trans d
      ·exact q.elim
     ·exact q.elim
    ·exact q.elim
   ·exact q.elim]
end
structure BO(X:Cx)(o:Expr)(m:Ae)(apos:AD)(e:Expr)(cpos:AD):Prop where
 b:F6 o m X.env (Ap o X.env)=Ap o X.env
 f:((Au cpos (AC [e] X.env)).all (λx=>!x.1)&&(F7 cpos (F8 [] X.env)).all (λx=>x.1.isSome)&&decide ([e].length+([]:List D1).length+(if([]:List D1).isEmpty then 0 else 1)<30))=J'
 l:(apos.endLine==cpos.line)=J'
 s:AC [e] X.env=(O',Ap e X.env)::AC [] X.env
 p:(Au cpos (AC [] X.env)).any (·.1)=O'
theorem TM{o:Expr}{m:Ae}{e:Expr}(b:F6 o m X.env (Ap o X.env)=Ap o X.env:=by rfl) (f:((Au cpos (AC [e] X.env)).all (λx=>!x.1)&&(F7 cpos (F8 [] X.env)).all (λx=>x.1.isSome)&&decide ([e].length+([]:U D1).length+(if([]:U D1).isEmpty then 0 else 1)<30))=J':=by rfl) (l:(apos.endLine==cpos.line)=J':=by rfl) (s:AC [e] X.env=(O',Ap e X.env)::AC [] X.env:=by exact ZR rfl) (p:(Au cpos (AC [] X.env)).any (·.1)=O':=by rfl):BO X o m apos e cpos:=#[b,f,l,s,p]
@[simp] noncomputable def K6(p:O Nat)(o:O D)(s:IS):O (IV×Gh):=match p,o with
  |some n,Z d=>match s.2[n]? with
   |some (.dat .l a)=>if a.length<Ax then Z (.val .non,s.2.set n (.dat .l (a++[d])))else J
   |_=>J
  |_,_=>J
@[simp] def NI(p:O Nat)(o:O D)(s:IS):O (IV×Gh):=match p,o with
  |some n,Z d=>match s.2[n]? with
   |some (.dat .l a)=>if A7 ZT d&&a.all (A7 ZT)then(a.findIdx? λz=>AF z d).map λj=>(.val .non,s.2.set n (.dat .l (a.eraseIdx j)))else J
   |_=>J
  |_,_=>J
section
variable{e o ei:Expr}{g gi:IS->O D}{tpos:AD}
theorem PV{K:Ao}{G:Gh}{n:Nat}{k:Kd}{ys:U D}{ws:U V}(R:Bv K φ G H)(e:G[n]?=Z (.dat k xs))(h:Ad K (LV φ G) H ys ws):Bv K φ (G.set n (.dat k' ys)) (AG H (φ n) (CO K k' (φ n) ys ws))/\Go φ G H φ (G.set n (.dat k' ys)) (AG H (φ n) (CO K k' (φ n) ys ws)):=R.chg e rfl rfl λL N f a b c d=>by subst c d;exact#[ws,b,Ad.step a.st _ _ h]
set_option tactic.hygienic true in
theorem ui(t:JE X o (EZ X.K gp))(u:JE X e (tJ X.K g))(hz:BO X o "append" apos e cpos:=by exact TM):JE X (.Call (.Attribute o "append" apos) [e] [] cpos) (DM X.K λs=>K6 (gp s) (g s) s):=#[(Hv O4 Yw Yx R0 t.h (Z3 u.h A8 hz.s) hz.b hz.f hz.l hz.s hz.p).mono λA H Q w=>by
   obtain⟨a,s,r,R,ex,q⟩:=w;dsimp only at ex;unfold K6 at ex;split at ex
   ·next n d x hd=>
    split at ex
    ·next B c=>
     obtain⟨y,ex⟩:=ZV ex;cases ex;obtain⟨i,j,k⟩:=R.g.cell n _ c;refine#[a,s,n,R,x,λ_=>#[.inl #[rfl,i,.inl<|.inl j],a,s,d,R,hd,λv C sm z=>?_]];obtain⟨R2,m⟩:=PV (k':=.l) (R.g.same sm) c ((k.same sm).append<|Ad.cons z Ad.nil);exact⟨a n,i,v,rfl,rfl,sm _ _ j,by rw[<- k.length];exact y,q a _ _ (R.go R2<|(Go.same sm).trans m) (by erw[Bg,As])<|(Go.same sm).trans m⟩
    ·cases ex
   ·cases ex]
set_option tactic.hygienic true in
theorem uj(w:X.A.units+64<Aq)(x:JE X o (EZ X.K gp))(y:JE X e (tJ X.K g))(hz:BO X o "remove" apos e cpos:=by exact TM):JE X (.Call (.Attribute o "remove" apos) [e] [] cpos) (DM X.K λs=>NI (gp s) (g s) s):=#[(Hv O4 PySem.F.slot_list_remove PySem.F.type_list_remove (sy w) x.h (Z3 y.h A8 hz.s) hz.b hz.f hz.l hz.s hz.p).mono λM H Q z=>by
   obtain⟨a,s,r,R,ex,q⟩:=z;dsimp only at ex;unfold NI at ex;split at ex
   ·next n d B hd=>
    split at ex
    ·next C i=>
     obtain⟨c,ex⟩:=ZV ex;rw[CM]at c;obtain⟨j,E,rfl⟩:=B0.mp ex;obtain⟨k,m,t⟩:=R.g.cell n _ i;refine#[a,s,n,R,B,λ_=>#[.inl #[rfl,k,.inl<|.inl m],a,s,d,R,hd,λv L sm G=>?_]];obtain⟨R2,u⟩:=PV (k':=.l) (R.g.same sm) i ((t.same sm).erase j);exact#[a n,k,v,_,d,C,j,rfl,rfl,sm _ _ m,t.same sm,G.p,c.1,c.2,E,q a _ _ (R.go R2<|(Go.same sm).trans u) (by erw[Bg,As])<|(Go.same sm).trans u]
    ·cases ex
   ·cases ex]
@[simp] def PX(p:IS->O Nat)(ok b:O D)(s:IS):RI:=match p s,ok,b with
  |some n,Z y,Z d=>match s.2[n]? with
   |some (.dat .d c)=>match Ek c,Dh y with
    |some a,Z k=>if Di k a&&decide (a.length<Ax)then .next (s.1,s.2.set n (.dat .d (Zb (ZY a k d))))else .fail
    |_,_=>.fail
   |_=>.fail
  |_,_,_=>.fail
set_option tactic.hygienic true in
theorem uk(E:X.A.units+64<Aq)(W:JE X o (EZ X.K gp))(F:JE X ei (tJ X.K gi))(L:JE X e (tJ X.K g)) (M:∀v,assign (.Subscript o ei tpos) X.env v=(do
   let f <- Ee [v] (Ap o X.env);let j <- Ee [v,f] (Ap ei X.env);standAt tpos
   Ee [v,f,j] (setItem f j v)
   release [v,f,j] []):=by intro _;rfl) (N:swapsWithSole [.Subscript o ei tpos] e pos.line X.env=AA O':=by rfl) (c:swappedStores [.Subscript o ei tpos] e X.env=AA J:=by rfl) (P:(Gx [.Subscript o ei tpos] X.env).map (·.2)=[assign (.Subscript o ei tpos) X.env]:=by rfl):JS X (.Assign [.Subscript o ei tpos] e pos) (tK X.K λs=>PX gp (gi s) (g s) s):=#[(RL L.h (RK W.h F.h (aC E) M) N c P).mono λD' Q H T=>by
 obtain⟨b,s,R,q⟩:=T;unfold PX at q;dsimp only at q;split at q
 ·next n y d S Y hd=>
  split at q
  ·next xs u=>
   split at q
   ·next kvs k l hk=>
    split at q
    ·next m=>
     rw[CM,decide_eq_true_eq]at m;refine#[b,s,d,R,hd,λv H1 i hv=>#[b,s,n,R.same i,S,λ_=>#[b,s,y,R.same i,Y,λw H2 r c=>?_]]];have ex:=Gi l;subst ex;have R2:=(R.same i).same r;obtain⟨vs,z3,z4⟩:=R2.g.cell n _ u;obtain⟨t,e',a⟩:=KQ z4;subst e';rw[HG hk]at c;have x:=a.put (k:=k) (HI c.p) (hv.same r);obtain⟨z,B⟩:=PV (k':=.d) R2.g u x.flat;rw[HJ x]at z B;have C:=(Go.same (φ:=b) (G:=s.2) (i.trans r)).trans B;refine#[b n,t,k,rfl,?_,a.keys,a.hom m.1,HH<|HI c.p,by rw[<- GQ a];exact m.2,q b Q _ (R.go z C) C];rw[<- HJ a];exact z3
    ·exact q.elim
   ·exact q.elim
  ·exact q.elim
 ·exact q.elim]
end
theorem um{P:AM}{w:Ai}{K:Ao}{mg:Bx}{base:Ak}{k:Nat}{f:Ac}{fd:Cd}{F:FI}(G:AR P w K mg base Bm k f fd ["_law_script"] (Dj K F)) (h:∀ns:U Int,ns.length<=63->∃G',F [.val (.lst (ns.map D.int))] []=Z (.val (.bl J'),G')):AR P w K mg base Bm k f fd ["_law_script"] (MV K):=G.imp λp H Q E d=>by
  obtain⟨a,ns,e,g,i,q⟩:=d;obtain⟨G',j⟩:=h ns i;subst e;refine#[λ_=>0,[],[.val<|.lst<|ns.map D.int],_,⟨λn c e=>by simp at e,λn m c r k s e=>by simp at e⟩,.cons ?_ .nil,j,λl v o t b go=>?_]
  ·erw[Bg,As];exact#[a,_,rfl,(LstAt.of_sq g).imp (λz=>#[λ⟨n,c,k,e,_⟩=>by simp at e,z.2]) id,Ad.ints ns]
  ·erw[Bg,As]at b;subst b;exact q o
section
variable{s:Ab}{N:Fb}
def FZ:U Sl->O Rv
 |[.val x]=>Z (.val x)
 |_=>J
theorem K7(a:U D):a.map (DK FZ)=a:=by induction a with
 |nil=>rfl
 |cons x c b=>rw[AS,b];rfl
theorem uo(W:Inv X pins I H s)(A:Ag)(S:A.units+40<Aq){items:U Aa}{Y:Nat}{xs:U V}{l:U D}(g:s.heap.get? a=Z (Dm items Y))(m:H a=J)(n:Off X pins a)(o:An xs items)(r:Ad X.K N H l xs)(ok:Bn FZ l) {P:PySem.Fin->Ab->Prop} (q:∀s' vs,Inv X pins I (AG H a (.lst vs)) s'->Ad X.K N H (E9 (CD FZ) l) vs->P (.done (.ret .none)) s'):wpAny (Af X.prog X.w) A (Fk.«list.sort» #[[.ref a],[]]) P E s:=by
 have l1:=r.length;have l2:=o.length;have few:=ok.few;have hsl:Ax=16777216:=Il;rw[list_sort_plain];refine Al<|listItems_at g rfl ?_;obtain⟨n1,L,I1⟩:=W.rawset (f:=λ_=>(T' [])) (its':=[]) m n g rfl;refine Al<|Nx g rfl ?_ (by simp;lia) (by simp);refine Al<|seqEpoch_at L rfl ?_;refine Al<|wpAny_newTuple ?_ (by simp;lia);generalize t:({heap:=s.heap.update a<|FH λx=>(T' []),gens:=s.gens,drawn:=s.drawn,toks:=s.toks,os:=s.os}:Ab)=d at *;have v:d.heap.get? a=Z (Dm [] n1):=by rw[<- t];exact L
 have I2:=I1.kept (t':=d.toks) (λb u e=>Br {cls:=.type "tuple",data:=.seq items.toArray} e);have g2:=Br {cls:=.type "tuple",data:=.seq items.toArray} v;generalize B:({heap:=d.heap.push {cls:=.type "tuple",data:=.seq items.toArray},gens:=d.gens,drawn:=d.drawn,toks:=d.toks,os:=d.os}:Ab)=M at *;have C:M.heap.get? a=Z (Dm [] n1):=by rw[<- B];exact g2
 refine Al<|wpAny_newList ?_ (by simp);have R:=I2.kept (t':=M.toks) (λb u e=>Br (Dm [] 0) e);have G:=Br (Dm [] 0) C;refine FC ?_;refine aZ (N:=N) (F:=FZ) (kvs:=xs) (us:=items) (items:=items) (T:=λz=>do
  let k:=(arrOf z).map λy=>y.2;let h:=(<- seqEpoch a) != n1
  Builtin.List.listUpdate (.ref a) λ_=>k
  if let Z x:=failedOf z then
   rule "list.sort.comparison-raised";throw x
  if h then
   rule "list.sort.modified";raiseError "ValueError" "list modified during sort"
  ret .none) R A S ok (by rw[K7];exact r) o (by lia) λp st Q hs ha hf=>?_
 have hpl:p.length=l.length:=by have:=Q.length_eq;simpa using this
 refine Al<|seqEpoch_at G rfl ?_;generalize c:p.map (λj=>items.getD j .none)=out at *;have hv:An (p.map λj=>xs.getD j .non) out:=by rw[<- c];exact Nw o p
 have i:out.length<=Ax:=by rw[<- c,Bi];lia
 obtain⟨n3,g4,I4⟩:=R.rawset (f:=λ_=>out.toArray) (its':=out) m n G rfl;rw[ha];refine Al<|Nx G rfl ?_ (by simp) (by simp;exact Ku i);have hb:(n1 != n1)=O':=by simp
 rw[hf];erw[hb,F9,if_false];refine AN<|q _ _ (I4.catch m n g4 hv (by rw[Bi];lia)) ?_;rw[<- hs];exact Tb r p λj hj=>by have:=Q.subset hj;simpa using this
theorem cx(v:Inv X pins I H s)(p:X.A.units+64<Aq){a:U Aa}{xs:U V}{c:U D}(f:An xs a)(h:Ad X.K N H c xs)(ok:Bn FZ c){P:PySem.Fin->Ab->Prop}
  (q:∀d s' vs,H d=J->Inv X pins I (AG H d (.lst vs)) s'->Ad X.K N H (E9 (CD FZ) c) vs->wpAny (Af X.prog X.w) X.A.in1 (B (.ref d)) P X.xe s'):
  wpAny (Af X.prog X.w) X.A.in1 (do
   let l <- newList a
   let _ <- Ee [l] (call (.builtin "list.sort") [l])
   B l) P X.xe s:=by
 have l1:=h.length
 have r:=f.length
 have few:=ok.few
 have j:=Il
 refine Al (wpAny_newList ?_ (by lia))
 have k:=v.kept (t':=s.toks) (λb u e=>Br (Dm a 0) e)
 have g:=Cc s.heap (o:=Dm a 0) rfl
 have m:=v.off (Bf s.heap.objs.size)
 have i:H s.heap.objs.size=J:=v.fresh
 refine Al (FC (Kr slot_list_sort #[_,g,rfl] entry_list_sort (uo (N:=N) k _ ?_ g i m f h ok λs' vs t n=>#[_,rfl,q _ s' vs i t n]) (args_list_sort _)))
 show X.A.units+1+1+40<_;lia
end
section
variable{M:Fb}{e:Expr}{f:AB}{x:Ae}{p:AD}
def IM(o:O D):A0:=match o with
 |some (.lst a .l)=>FQ FZ a
 |some (.lst a .d)=>(Ek a).bind λb=>FQ FZ (b.map λp=>kD p.1)
 |_=>J
set_option tactic.hygienic true in
theorem uq(hc:X.calm=J')(hu:X.A.units+64<Aq)(hg:Gl X x)(hm:X.mg x=J)(hv:Ec x=Z (.builtin "sorted"))(he:JE X e (tP X.K M H0 f)) (hn:x≠"__name__":=by ext) (L:Cs x:=by ext) (hs:AC [e] X.env=(O',Ap e X.env)::AC [] X.env:=by exact ZR rfl):JE X (.Call (.Name x p) [e] [] pos) (tF X.K M H0 λρ=>IM (f ρ)):=#[by
 intro g s r H Q W h;obtain⟨ρ,ys,R,i,q⟩:=h;dsimp only at i;have hsl:Ax=16777216:=Il;cases P:f ρ with|none=>rw[P]at i;cases i|some d=>
 rw[P]at i;refine MP<|Hr W hg hm hv ?_ hn L;have ha:=(Z3 he.h (A8 (X:=X)) hs) pos g s r H (λj t=>∃v,j=[v]/\Ah H t/\Aw X.K (Nf M ρ r) t d v) W #[ρ,d,R,P,λv t S y=>#[v,rfl,S,y]];refine PyProof.Rows.callWith_builtin1 ?_ hs rfl;refine AT ha λus S hh=>?_;obtain⟨j,t,C,r1,v,rfl,sm,y⟩:=hh;obtain⟨u,rfl,ru⟩:=ER r1;have fin:∀k w j,t k=J->Inv X g r (AG t k<|.lst j) w->Ad X.K (Nf M ρ r) t ys j->EP X g r Q (.ref k) w:=λk w j c F E=>
  #[.ref k,_,F,rfl,q k j _ (sm.trans<|Z5 c) (sm.none c) ZH<|(E.nw λb hb=>hb.imp id λz=>by subst z;exact c).same (Z5 c)]
 unfold IM at i;split at i
 ·next xs hd=>
  cases hd;obtain⟨ok,rfl⟩:=Ta i;obtain⟨a,ws,rfl,Y,dl⟩:=y;cases ru;obtain⟨its,rv,⟨o,n,ho,hc',hdd,hd⟩,hz⟩:=C.list Y;have l2:=rv.length;refine bW kind_sorted plain_sorted entry_sorted (args_sorted1 _) ?_;refine Al (m:=checkCount "sorted" 1 1 _) (AN ?_);refine Al<|wpAny_collect_seq a (T:="list") (.inl rfl) ho hc' hd (λh1 k1=>?_) (by simp;lia);exact cx (N:=Nf M ρ r) (B:=λl=>ret l) (C.kept (t':=S.toks) k1) hu rv dl ok λk w j c F E=>AN #[_,rfl,fin k w j c F E]
 ·next xs hd=>
  cases hd;obtain⟨kvs,hun,i⟩:=B4.mp i;obtain⟨ok,rfl⟩:=Ta i;rw[Gi hun]at y;obtain⟨a,ws,rfl,Y,dl⟩:=y;cases ru;obtain⟨tr,dc,pd⟩:=IH Y dl;have kd:=pd.kden;obtain⟨z,hs',nd,o,es,ep,e1,e2,e3,e4⟩:=dc.1.ok C.hok;have G:=Tj e4;have few:=ok.few;have hl:kvs.length=es.size:=by have h1:=kd.length;have h2:=G.length;simp at h1 h2;lia
  refine bW kind_sorted plain_sorted entry_sorted (args_sorted1 _) ?_;refine Al (m:=checkCount "sorted" 1 1 _) (AN ?_);refine Al<|rR (bw (es:=es) (ep:=ep) hs') (by show X.A.handled=J;exact C.ok.hd hc) #[o,e1,e2,e3] (by simp at few;lia) λh1 tk acc k1 hi=>?_;rw[bz hi];exact cx (N:=Nf M ρ r) (B:=λl=>ret l) (C.kept (t':=tk) k1) hu G kd ok λk w j c F E=>AN #[_,rfl,fin k w j c F E]
 ·cases i]
end
mutual
theorem ZQ:∀(d:D),A9 0 d=J'
 |.non=>rfl
 |.bl _=>rfl
 |.int _=>rfl
 |.str _=>rfl
 |.ty _=>rfl
 |.tup a=>by erw[A9];exact TN a
 |.lst a k=>by erw[A9,vk,Ha,Bool.true_and];exact TN a
theorem TN:∀(xs:U D),Dn 0 xs=J'
 |[]=>rfl
 |x::xs=>by erw[Dn,ZQ x,TN xs,J1]
end
theorem HQ{m:Nat}:∀{xs:U D},(∀x∈xs,A9 m x=J')->Dn m xs=J'
 |[],_=>rfl
 |x::xs,h=>by erw[Dn,h x Ba,HQ λy a=>h y<|Be _ a,J1]
section
variable{K:Ao}{M:Fb}{e:Expr}{F:U Sl->O Rv}{k:Nat}{fn:Ac}{fd:Cd}{x:Ae}{p:AD}{E:XK}
theorem ur(G:AR X.prog X.w X.K X.mg X.base CX k fn fd ps (A1 K F))(a:AI k X.A)(b:Gl X x)(c:X.mg x=Z (.ref fn))(f:Im X.K (.ref fn)=J')(g:Binds X.K fd ps [])(i:Fh CX X E) (j:JA X (e::es) (CW K M H0 fa)) (hz:CA X x e es pos:=by exact FM):JE X (.Call (.Name x p) (e::es) [] pos) (Fm .d K M H0 (Hx F fa)):=#[(OR G a b c f g .nil i j.h hz.d hz.s hz.p).mono λ_ _ _ h=>nY h]
end
theorem ut{l:PySem.W.OpenLaw}{w:Ai}{K:Ao}{mg:Bx}{f:Ac}{fd:Cd}{st:Az}{n:Nat}{F:FI}(d:mg "law"=Z (.ref f))(q:DI K mg "law" st ["_law_script"] a fd) (G:∀base:Ak,AR l.prog w K mg base Bm n a fd ["_law_script"] (Dj K F)) (h:∀ns:U Int,ns.length<=63->∃G',F [.val (.lst (ns.map D.int))] []=Z (.val (.bl J'),G')) (e:∀(g b i:Aa) (j:O Ac) (c ct v:Aa),bindArgs (Js "law" "law" (Hw st) (ZI st) (Zf st) .none g b i j c ct) #[[v],[]]=AA [(("_law_script":Ae),v)]):∃fd:Cd,(∀(s:Ab) (v:Aa),BindsTo s fd #[[v],[]] [("_law_script",v)])/\∀base:Ak,K.In base->base.Ns BU mg->AR l.prog w K mg base Bm n f fd ["_law_script"] (MV K):=by
 cases d.symm.trans q.m;obtain⟨p,r,g,b,i,j,c,ct,k,rfl,t,o⟩:=q.F.ex;exact#[_,λs v=>.of_eq<|e _ _ _ _ _ _ _,λbase _ _=>um (G base) h]
end L2
variable{gp:L2.IS->O Nat}{gx:L2.IS->O (L2.IV×L2.Gh)}{G':L2.Gh}{FX:U L2.IV->L2.Gh->O Ae}
noncomputable def DU{a b:Type}[DecidableEq a]:U (a×b)->a->U (a×b)
 |[],_=>[]
 |t::r,k=>if t.1=k then r else t::DU r k
theorem TQ{a b:Type}[DecidableEq a]{k:a}{x:a×b}:∀{l:U (a×b)},x∈DU l k->x∈l
 |[],h=>nomatch h
 |t::r,h=>by
  unfold DU at h;split at h
  ·exact Be _ h
  ·rcases Bo.mp h with rfl|h
   ·exact Ba
   ·exact Be _<|TQ h
theorem TR{a b:Type}[DecidableEq a]{k:a}:∀{l:U (a×b)},(l.map (·.1)).Nodup->((DU l k).map (·.1)).Nodup
 |[],h=>h
 |t::r,h=>by
  rw[AS,E5]at h;unfold DU;split
  ·exact h.2
  ·rw[AS,E5];refine#[λz=>h.1 ?_,TR h.2];obtain⟨x,c,e⟩:=Bp.mp z;exact Bp.mpr #[x,TQ c,e]
theorem cy{a c:Type}[DecidableEq a]{k:a}{p:c}:∀{l:U (a×c)}{j:Nat},(l.map (·.1)).Nodup->l[j]?=Z (k,p)->l.eraseIdx j=DU l k
 |[],_,_,h=>by simp at h
 |t::r,0,_,h=>by cases h;simp[DU]
 |t::r,j+1,b,h=>by
  rw[AS,E5]at b;have ne:t.1≠k:=λe=>b.1<|e ▸ Bp.mpr ⟨(k,p),LF h,rfl⟩;unfold DU;rw[if_neg ne,List.eraseIdx_cons_succ,cy b.2 h]
theorem cz{b c:Type}(f:b->c):∀(l:U b)(j:Nat),(l.map f).eraseIdx j=(l.eraseIdx j).map f
 |[],_=>rfl
 |_::_,0=>rfl
 |a::l,j+1=>by simp[cz f l j]
theorem cA{a b:Type}[DecidableEq a]{k:a}:∀l:U (a×b),(DU l k).length<=l.length
 |[]=>Bf _
 |t::r=>by
  have:=cA (k:=k) r;unfold DU;split<;>simp<;>lia
namespace PySem
section
variable{prog:AM}{w:Ai}{K:Type}[DecidableEq K]{knd:HeapKind prog w K}{A:Ag}{s:Ab}
theorem uv{d:Ac}{xs:U (K×Ac×Aa)}{k:K}{p:Ac×Aa}{Q:O GR->Ab->Prop}(n:knd.room A)(b:knd.is s.heap k a)(r:s.heap.DictOfH knd d xs)(hsz:xs.length<=Ax)(i:atKey xs k=Z p)
  (t:∀e:GR,e.val=p.2->∀h',h'.DictOfH knd d (DU xs k)->DP d s.heap h'->Q (Z e) {s with heap:=h',toks:=s.toks+knd.draws k}):
  wpAny (Af prog w) A (Builtin.Dict.takeOut d (.ref a)) Q E s:=by
 obtain⟨o,z,u,c,v,hd,g,f,h⟩:=r
 unfold Builtin.Dict.takeOut
 try with_reducible refine FC ?_
 refine Al (knd.pyHash n b ?_)
 refine Al (wpAny_dictFind_heap n b c hd g f h ?_ ?_)
 ·intro l
  rw[Ps l]at i;cases i
 ·intro j B m
  have q:=atKey_of_get h m
  rw[i]at q
  cases q
  refine Al (Nm (s:={s with toks:=s.toks+knd.draws k}) c hd ?_)
  rw[entry_at g j,m]
  refine Al (wpAny_updateDictKeys (hz:=by have e:=size_of_entries g;lia) (s:={s with toks:=s.toks+knd.draws k}) c hd (AN (t _ rfl _ #[_,_,u+1,LK _ c (Obj.isFreed_of_dict (SO hd _)),
   v.mapDictKeys _,SO hd _,?_,?_,TR h] (JU ..))))
  ·rw[<- cy h m,Array.toList_eraseIdxIfInBounds,g,cz]
  ·exact λx y=>knd.keeps (f x (TQ y)) c hd (JU ..)
theorem uw{k:K}(d:Ac):MeetsIn prog w (Fk.«dict.pop» #[[.ref d,.ref a],[]]) (λA R s=>knd.room A.in1/\∃xs p,knd.is s.heap k a/\s.heap.DictOfH knd d xs/\xs.length<=Ax/\atKey xs k=Z p/\∀h',h'.DictOfH knd d (DU xs k)->DP d s.heap h'->R (.ok (.ret p.2)) {s with heap:=h',toks:=s.toks+knd.draws k}):=.of_wp λA R s j=>by
  obtain⟨l,xs,p,c,f,m,i,n⟩:=j;refine Al ?_;refine Al<|SQ f.typeIs ?_;refine AN ?_;have q:xs≠[]:=λe=>by subst e;cases i
  have b:=f;obtain⟨o,r,y,t,z,hd,u,v,B⟩:=b;have g:r.isEmpty=O':=by
   have:=size_of_entries u;grind
  refine Al<|Nm t hd<|Al<|AN ?_;rw[g];refine Al<|uv l c f m i λe x h' b h=>?_;exact Al<|wpAny_letGo<|AN ⟨e.val,rfl,by rw[x];exact n h' b h⟩
end
end PySem
namespace L2
open PySem PySem.Spec PyProof.Rows PySem.W
theorem RT.out{l:U At}{tr:U T3}(h:RT tr us):RT (DU tr (.tup l)) (DU us l):=by
 induction h with|nil=>exact .nil|@cons t u _ _ h a b=>
  unfold DU;by_cases e:u.1=l
  ·rw[if_pos (by rw[h.1,e]),if_pos e];exact a
  ·rw[if_neg<|λz=>e<|KT.tup.inj<|h.1.symm.trans z,if_neg e];exact .cons h b
def ux(K:Ao):V->U V->Hp->VK->Prop:=λx b H Q=>∃a tr l y v,x=.ref a/\b=[y]/\H a=Z (Dq tr)/\(∀t∈tr,By K H t.1 t.2.1)/\He (.tup l) tr/\By K H (.tup l) y/\Cp tr (.tup l)=Z v/\Q v (AG H a (Dq (DU tr (.tup l))))
section
theorem uy(hu:X.A.units+64<Aq):Ks X "dict.pop" (ux X.K):=by
 intro j s I H x xs v d Q P o r h;obtain⟨a,tr,l,y,z,rfl,rfl,e,f,t,u,B,q⟩:=h;cases o;obtain⟨C,rfl,E⟩:=ER r;have hd:Cf X.K H a tr:=#[.inl e,f];obtain⟨p,rfl,w⟩:=u;cases(show C=Cj p from E);obtain⟨m,L,nd,d,rel,n⟩:=KN P hd t
 have M:d.length<=Ax:=by rw[<- GQ rel];exact m
 have b:=rel.val l
 rw[B]at b
 cases g:atKey d l with
 |none=>rw[g]at b;exact b.elim
 |some N=>
  rw[g]at b
  refine call_meetsIn PySem.F.slot_dict_pop n.typeIs PySem.F.entry_dict_pop (PySem.F.args_dict_pop_2 _ _) (uw (k:=l) a)
   #[KO (by lia),d,N,IF P w,n,M,g,λT c i=>?_]
  have G:∃q,T.get? a=Z q:=let⟨q,_,_,Y,_⟩:=c;#[q,Y]
  exact#[z,_,KP P (by rw[e];exact G3) i G (Pr (BZ (cA _) m) L (TR nd) rel.out c),b,q]
end
section
variable{K:Ao}{N:Fb}
theorem PD.out{k:KT}{tr:U T3}(h:PD K N H kvs tr):PD K N H (DU kvs k) (DU tr k):=by
 induction h with|nil=>exact .nil|cons h a b=>
  unfold DU;rw[h.1];split
  ·exact a
  ·exact .cons h b
end
@[simp] def cB:KT->Bool
  |.tup _=>J'
  |_=>O'
@[simp] def PY(p:O Nat)(o:O D)(s:IS):O (IV×Gh):=match p,o with
  |some n,Z y=>match s.2[n]? with
   |some (.dat .d b)=>match Ek b,Dh y with
    |some a,Z k=>if Di k a&&cB k then(Zx a k).map λd=>(.val d,s.2.set n (.dat .d (Zb (DU a k))))else J
    |_,_=>J
   |_=>J
  |_,_=>J
section
variable{e o:Expr}{g:IS->O D}
set_option tactic.hygienic true in
theorem uz(N:X.A.units+64<Aq)(S:JE X o (EZ X.K gp))(T:JE X e (tJ X.K g))(hz:BO X o "pop" apos e cpos:=by exact TM):JE X (.Call (.Attribute o "pop" apos) [e] [] cpos) (DM X.K λs=>PY (gp s) (g s) s):=#[(Hv SX PySem.F.slot_dict_pop PySem.F.type_dict_pop (uy N) S.h (Z3 T.h A8 hz.s) hz.b hz.f hz.l hz.s hz.p).mono λI H Q W=>by
   obtain⟨i,s,r,R,ex,q⟩:=W;dsimp only at ex;unfold PY at ex;split at ex
   ·next n y Y hy=>
    split at ex
    ·next xs u=>
     split at ex
     ·next kvs k x hk=>
      obtain⟨z,ex⟩:=ZV ex;rw[CM]at z;obtain⟨d,hd,rfl⟩:=B0.mp ex;cases k with| «at» b=>exact absurd z.2 (by simp)|tup l=>
       have ex:=Gi x;subst ex;obtain⟨vs,t,B⟩:=R.g.cell n _ u;obtain⟨tr0,e0,pd0⟩:=KQ B;subst e0;refine#[i,s,n,R,Y,λ_=>#[.inr<|.inr ⟨rfl,_,_,.inl t⟩,i,s,y,R,hy,λw H1 sm E=>?_]];have zA:=R.same sm;obtain⟨vs,t,B⟩:=zA.g.cell n _ u;obtain⟨j,e',a⟩:=KQ B;subst e';rw[HG hk]at E;have P:=a.out (k:=.tup l);obtain⟨L,C⟩:=PV (k':=.d) zA.g u P.flat;rw[HJ P]at L C;rw[HJ a]at t;have M:=(Go.same (φ:=i) (G:=s.2) sm).trans C;have m:=a.val<|.tup l;rw[hd]at m;cases c:Cp j (.tup l)with
       |none=>rw[c]at m;exact m.elim
       |some v=>
        rw[c]at m;exact#[i n,j,l,w,v,rfl,rfl,t,a.keys,a.hom z.1,HH<|HI E.p,c,q i v _ (R.go L M) (As.step C.st _ _ m) M]
     ·cases ex
    ·cases ex
   ·cases ex]
end
structure PZ(Y:Cx)(e:Expr)(h:IS->Option Ae):Prop where
 h:∀pins s I H φ S c,Inv Y pins I H s->Bt Y.K φ S I H->h S=Z c->wpAny (Af Y.prog Y.w) Y.A (Ap e Y.env) (λ_ _=>False) (EY Y pins I H c) s
structure NJ(Y:Cx)(st:Az)(h:IS->Option Ae):Prop where
 h:∀pins s I H φ S c,Inv Y pins I H s->Bt Y.K φ S I H->h S=Z c->wpAny (Af Y.prog Y.w) Y.A (exec st Y.env) (λ_ _=>False) (EY Y pins I H c) s
structure IN(Y:Cx)(b:List Az)(h:IS->Option Ae):Prop where
 h:∀pins s I H φ S c,Inv Y pins I H s->Bt Y.K φ S I H->h S=Z c->wpAny (Af Y.prog Y.w) Y.A (execs b Y.env) (λ_ _=>False) (EY Y pins I H c) s
@[simp] def Hg(o:O (U IV))(x:Ae):O Ae:=match o with
  |some [_]=>Z x
  |_=>J
def IP(K:Ao)(F:U IV->Gh->O Ae):Sp:=λe H Q E=>∃a G b c,Bv K a G H/\Paired (Bg K a G.length (LV a G) H) b e/\F b G=Z c/\∀D d,nsIn K BU c=Z (Z (.ref D))->Ah H d->E (.ref D) J d
def K8(a n:Nat)(h:IS->O Ae):U IV->Gh->O Ae:=λb G=>if b.length=a then h (b++Dx (n-a) .no,G)else J
@[simp] def Hh(c m:Ae)(F:U IV->Gh->O Ae)(p:O Nat)(o:O (U IV))(s:IS):O Ae:=p.bind λn=>match s.2[n]? with
  |some cl=>if Em c m cl=J'/\n<s.2.length then o.bind λa=>F (.cel n::a) s.2 else J
  |none=>J
@[simp] noncomputable def P0:RI->RI
  |.ret x G=>.ret x G
  |_=>.fail
@[simp] def IQ(a:U Ae)(i:Nat)(o:O Ae)(r:RI)(g:A5)(s:IS):RI:=match o with
  |none=>r
  |some c=>if a.contains c=J' then P0 (g (s.1.set i (.exc c),s.2))else .fail
@[simp] noncomputable def K9(o:O (IV×Gh))(b c:A5)(s:IS):RI:=match o with
  |some (.val (.bl k),a)=>if k=J' then c (s.1,a)else b (s.1,a)
  |_=>.fail
section
variable{e o:Expr}{st:Az}{AH a b:U Az}{h h1 h2:IS->O Ae}{g g1 g2 gs:A5}{p np:AD}{ga:IS->O (U IV)}{x:Ae}
theorem uA:IN Y b (λ_=>J):=#[λ_ _ _ _ _ _ _ _ _ q=>nomatch q]
theorem uB(z:NJ Y st h):IN Y (st::AH) h:=#[λa s b H d S c e R q=>wpAny_execs_cons<|EN (z.h a s b H d S c e R q) (λ_ _ z=>z.elim) λ_ _ z=>z]
theorem uC{c:Expr}{t:IS->O Bool}(nx:KW Y)(p:JT Y c (TF Y.K t))(r:IN Y a h1)(u:IN Y AH h2):IN Y (.If c a [] pos::AH) (λs=>D7 (t s) (h1 s) (h2 s)):=#[λb s f H g S n y R q=>by
 cases i:t S with|none=>simp[i]at q|some k=>
  rw[i]at q;refine wpAny_execs_cons<|wpAny_If<|EN (p.h b s f H (λv j=>v=k/\Ah H j) y #[g,S,k,R,i,λj sm=>#[rfl,sm]]) (λd l w=>?_) λe x z=>(nx e x z).elim;obtain⟨m,o,rfl,sm⟩:=w;cases d with
  |true=>exact EN (r.h b l f m g S n o (R.same sm) q) (λ_ _ z=>z.elim) λ_ _ z=>z.from sm
  |false=>exact wpAny_execs_nil (EN (u.h b l f m g S n o (R.same sm) q) (λ_ _ z=>z.elim) λ_ _ z=>z.from sm)]
theorem uD{a:AD}(z:PZ Y e h)(d:Ef e (Z (.Name x a)) pos.line Y.env=AA O':=by rfl):NJ Y (.Assign [.Name x a] e pos) h:=#[λb s f H g S c i R q=>wpAny_Assign_Name (EN (z.h b s f H g S c i R q) (λ_ _ z=>z.elim) λ_ _ z=>z) d]
theorem uE{D:Ac}(nx:KW Y)(W:Y.calm=J')(Q:Ti Y.K D)(T:nsIn Y.K BU x=Z (Z (.ref D)))(X:Gl Y x)(hm:Y.mg x=Z (.ref D))(ha:JA Y (e::es) (FY Y.K ga)) (i:Cs x:=by ext) (j:AC (e::es) Y.env=(O',Ap e Y.env)::AC es Y.env:=by exact ZR rfl) (k:(Au cpos (AC es Y.env)).any (·.1)=O':=by rfl):NJ Y (.Raise (Z (.Call (.Name x np) (e::es) [] cpos)) J pos) (λs=>Hg (ga s) x):=#[λb s I H l S c zA R q=>by
 cases n:ga S with|none=>rw[n]at q;cases q|some p=>
  rw[n]at q;obtain⟨s0,rfl⟩:∃s0,p=[s0]:=by
   cases p with
   |nil=>cases q
   |cons s0 r=>cases r with
    |nil=>exact#[s0,rfl]
    |cons _ _=>cases q
  cases q;obtain⟨t,qn,N,bs,bm,a,u,sub,w,d,y,A,B,C,E,G,l1,P,L,l4⟩:=Q.ex;have F:=PySem.F.excBase_ValueError;refine wpAny_Raise_call_subU (mN:=Y.base.nsMap N) (nm:=t) (q:=qn) (N:=N) (bs:=bs) (hdct:=a) (sn:=u) (sub:=sub) (ab:=w) (col:=d) (dd:=y) (k0:=A) (k1:=B) (k2:=C) (k3:=E) (k5:=G) F F.hasB F ((tail_of_in zA.kIn P).hasType F.hasBase) (zA.ok.hd W) (by rw[j];exact k) (nsMap_none_of_in zA.ok.mod.kin L l4) (MD zA X hm #[rfl,?_] i);rw[j];refine Calls.evalArgs_plain<|EN (j ▸ ha.h cpos b s I H (λo f=>Ah H f/\Paired (Bg Y.K l S.2.length (LV l S.2) f) [s0] o) zA #[l,S,[s0],R,n,λo f sm h1=>#[sm,h1]]) (λM s1 z9=>?_) λe s' z=>(nx e s' z).elim;obtain⟨o,f,g,r,sm,h1⟩:=z9;have ul:M.length=1:=by rw[<- r.length,<- KZ h1];rfl
  refine#[rfl,?_,g.kIn _ _ l1,?_,tail_of_in g.kIn P,λh' v m=>#[D,T,(rG g m).from sm]]
  ·show M.length<=Ax
   rw[ul];exact Lw<|mT (by ext)
  ·exact(Heap.Ns.of_isNs<|isNs_of_in zA.ok.mod.kin L).keeps g.bk]
theorem uF{F:U IV->Gh->O Ae}{k:Nat}{fn:Ac}{fd:Cd}{L:U Ae}{c m:Ae}(nx:KW Y)(hC:nsIn Y.K BU c=Z (Z (.ref C)))(cl:ES Y.K C)(zA:Jp Y.K C m fn)(G:AR Y.prog Y.w Y.K Y.mg Y.base (JY Y.prog Y.w) k fn fd L (IP Y.K F))(hr:AI k Y.A)(hb:Binds Y.K fd L []) (ho:JE Y o (EZ Y.K gp)) (ha:JA Y (e::es) (FY Y.K ga)) (M:AC (e::es) Y.env=(O',Ap e Y.env)::AC es Y.env:=by exact ZR rfl) (N:(Au pos (AC es Y.env)).any (·.1)=O':=by rfl) (ht:ME Y o m (e::es) pl apos pos:=by rfl):PZ Y (.Call (.Attribute o m apos) (e::es) [] pos) (λs=>Hh c m F (gp s) (ga s) s):=#[λd s I H b S cc zB R q=>by
 obtain⟨n,hn,q⟩:=B4.mp q;split at q
 ·next cel hc=>
  obtain⟨hi,q⟩:=ZV q;obtain⟨X,Q,hF⟩:=B4.mp q;obtain⟨dx,fs,q1,q2⟩:=cu hC R.g hc hi.1;refine PySem.W.methodCall_KW (EN (ho.h d s I H (λv j=>v=.ref (b n)/\j=H) zB #[b,S,n,R,hn,λ_=>#[rfl,rfl]]) (λu s1 z9=>?_) λe E z=>(nx e E z).elim) ht;obtain⟨y,H1,I1,rx,p,t⟩:=z9;subst p t;obtain rfl:u=Cj (b n):=rx;refine RS I1 (.inl q1) cl zA q2 ?_;refine RV zB.ok.mod.kin zA.kp (EN (ha.h pos d s1 I H1 (λl i=>Ah H1 i/\Paired (Bg Y.K b S.2.length (LV b S.2) i) X l) I1 #[b,S,X,R,Q,λl i sm h1=>#[sm,h1]]) (λx T ⟨l,i,P,r,sm,h1⟩=>#[P.kIn,?_]) λe E z=>(nx e E z).elim) M N;have sp:IP Y.K F (.ref (b n)::l) i (λ_ _=>False) (λv _ j=>∃D,v=.ref D/\nsIn Y.K BU cc=Z (Z<|.ref D)/\Ah i j):=#[b,S.2,.cel n::X,cc,R.g.same sm,.cons #[hi.2,rfl] h1,hF,λD j p t=>#[D,rfl,p,t]];have r2:An (.ref (b n)::l) (.ref (b n)::x):=.cons rfl r;have hl:((Cj (b n)::x)++[]).length=L.length:=by rw[D0,<- r2.length];exact G.len _ _ _ _ sp
  have bd:=hb T (.ref (b n)::x) P.kIn hl;rw[D0]at bd;refine wpAny_call<|LB (G.run Y.A Y.stack T i ⟨.ref (b n)::x,[]⟩ (.ref (b n)::x) (.ref (b n)::l) _ _ hr P.env0 bd r2 sp) λr E B=>?_;cases r with
  |error v=>
   obtain⟨a,C',j,p,os,ba,fl,D,t,e3,e4⟩:=B;cases t;exact#[C',e3,a,i,j,T,p,P,sm,os,ba,fl]
  |ok f=>
   cases f with
   |ret u=>obtain⟨_,_,_,_,_,_,_,z⟩:=B;exact z.elim
   |next=>exact B.elim
   |brk=>exact B.elim
   |cont=>exact B.elim
 ·cases q]
theorem uG{P:AM}{w:Ai}{K:Ao}{mg:Bx}{base:Ak}{nm a:Ae}{st:Az}{fn:Ac}{fd:Cd}{N d:U Ae}{k:Nat}{h l:IS->O Ae}(D:MI K C nm a st d fn fd)(S:EE N d (Zf st)) (x:∀(b:Aa) (A:Ag) (outer:U Env) (s:Ab) (H:Hp) (E:XK),AI k (A.deeper (A3 a (Zf st) s.heap.objs.size fn b))->IN (Df Bm P w K mg base N a (Zf st) fn b A outer s H E).nox (ZI st) l) (e:l=h:=by rfl):AR P w K mg base (JY P w) (k+1) fn fd d (IP K (K8 d.length N.length h)):=by
 subst e;obtain⟨oc,od,kV,y,pm,an,b,ct,B,rfl,W,m⟩:=D.F.ex;have len:∀f H Q E,IP K (K8 d.length N.length l) f H Q E->f.length=d.length:=λf H Q E z=>by
  obtain⟨n,G,u,c,R,o,j,q⟩:=z;grind [K8,KZ]
 refine XN W m S len λA outer s H f Q E L z=>?_;obtain⟨n,G,u,c,R,o,j,q⟩:=z;obtain⟨M,j⟩:=ZV j;have X:FE N f=f.map Z++Dx (N.length-d.length) J:=by unfold FE;rw[<- KZ o,M]
 refine#[λD p g=>D={nx:=λ_ r=>Q .non r,rt:=Q}/\g=H/\Bt K n (u++Dx (N.length-d.length) .no,G) p H,λi T p g D zA Y=>?_,rfl,rfl,by rw[X];exact cq R o _];obtain⟨_,rfl,R1⟩:=Y;refine EN ((x b A outer s g E L).h i T p g n _ c (zA.wish _) R1 j) (λ_ _ z=>z.elim) λv s'' z=>?_;obtain⟨D',e1,t⟩:=z;exact rH rfl rfl rfl (Ah.refl g) t λr e2=>q D' r e1 e2
theorem uH{bs:U Az}{m:IS->O Ae}{G:Ac}{l n:Ae}{b0:Az}{b:U Az}{T:AD}(i:Nat)(F:U Ae)(nx:KW Y)(ys:Y.stack=Y.env::Y.outer)(W:Y.env.frame=Z Y.env.locals)(zx:IN Y bs m)(zb:JB Y bs (tK Y.K g)) (hm:Y.mg l=Z (.ref G)) (hg:Gl Y l) (hc:∀c D,F.contains c=J'->nsIn Y.K BU c=Z (Z (.ref D))->exmOne Y.K (.ref D) (.ref G)=Z J') (hN:Y.N.Nodup) (hi:Y.N[i]?=Z n) (hl:Y.env.scope.names.lookup n=Z .local) (zs:∀(x:Ac),JB (Y.hand x) (b0::b) (tK Y.K gs)) (hd:Cs l:=by ext):JS Y (.Try bs [.ExceptHandler (Z (.Name l np)) (Z n) (b0::b) T] [] [] pos) (tK Y.K λs=>IQ F i (m s) (g s) gs s):=#[λd s L H D X z0=>by
 obtain⟨o,S,R,q⟩:=z0;try dsimp only at q
 cases p:m S with
 |none=>
  rw[p]at q;refine wpAny_Try_except<|EN (zb.h d s L H D X ⟨o,S,R,q⟩) (λf M z=>?_) λe w z=>(nx e w z).elim;cases f with
  |next=>exact wpAny_execs_nil z
  |ret v=>exact z
  |brk=>exact z
  |cont=>exact z
 |some c=>
  rw[p]at q;erw[IQ]at q;split at q
  ·next y=>
   refine wpAny_Try_except<|EN (zx.h d s L H o S c X R p) (λf M z=>z.elim) λv M z=>?_;obtain⟨P,Q,t⟩:=z;cases a:gs (S.1.set i<|.exc c,S.2)with
   |ret r G'=>
    rw[a]at q;refine rJ (Q':=D.rt) ys W t hm hg (hc c P y Q) hN hi hl (λx H3 s3 hx0 sm I3 A=>?_) (λu vv j k s5 I5 B C=>#[vv,j,k,I5,B,C]) hd;have R3:=(R.same sm).put i (x:=.exc c) (v:=.ref x) #[x,P,rfl,Q,A];refine EN ((zs x).h d s3 _ H3 {nx:=λ_ _=>False,rt:=D.rt} I3 #[o,_,R3,?_]) (λf s4 z=>?_) λe w z=>(nx e w z).elim
    ·dsimp only;rw[a];exact λE v k R' hv go=>q E v k R' hv<|(Go.same sm).trans go
    ·cases f with
     |ret u=>obtain⟨vv,j,k,I',B,C⟩:=z;exact#[u,vv,j,k,rfl,I',B,C]
     |next=>obtain⟨_,_,_,z⟩:=z;exact z.elim
     |brk=>obtain⟨_,_,_,z⟩:=z;exact z.elim
     |cont=>obtain⟨_,_,_,z⟩:=z;exact z.elim
   |next _=>rw[a]at q;exact q.elim
   |fail=>rw[a]at q;exact q.elim
   |brk _=>rw[a]at q;exact q.elim
   |cont _=>rw[a]at q;exact q.elim
  ·exact q.elim]
set_option tactic.hygienic true in
theorem uI(g:JE Y e (DM Y.K gx))(i:JB Y a (tK Y.K g1))(j:JB Y b (tK Y.K g2))(l:∀c,isTrue e Y.env c=(do let v <- c;standAt e.pos;Ee [v] (truthy v)):=by intro _;rfl):JS Y (.If (.UnaryOp .Not e p) a b pos) (tK Y.K λs=>K9 (gx s) g1 g2 s):=#[(OG (Xe<|ki g.h l) i.h j.h).mono λD t H m=>by
 obtain⟨n,s,R,q⟩:=m;unfold K9 at q;dsimp only at q;split at q
 ·next k u o=>
  refine#[n,s,_,R,o,λd v w f r go=>?_];subst r;refine#[k,rfl,?_];cases k with
  |true=>exact Kz #[d,_,f,C4.from go q]
  |false=>exact Ky #[d,_,f,C4.from go q]
 ·exact q.elim]
end
def IR(a:Scope):U Ae:=(a.names.tail.filter λp=>match p.2 with | .local=>J'|_=>O').map (·.1)
noncomputable def TU(own a:U Ae)(b c:Scope):Bool:=decide (b.kind=.function)&&b.names.all (λx=>decide (x.2≠.cell))&&b.names.all (λx=>decide (x.2≠.free)||decide (c.names.lookup x.1=Z .cell)||decide (c.names.lookup x.1=Z .free))
 && b.names.all (λx=>decide (x.2≠.local)||decide (b.names.lookup x.1=Z .local))&&a.all (λx=>decide (b.names.lookup x=Z .free))&&decide (own++a).Nodup
theorem uJ{own a:U Ae}{d b:Scope}(h:TU own a d b=J'):Iw own a d b:=by
 erw[TU,CM,D4,Bool.or_eq_true,decide_eq_true_eq]at h;obtain⟨⟨⟨⟨⟨f,g⟩,i⟩,j⟩,k⟩,l⟩:=h;exact#[f,g,λx c e=>(i x c).elim (λz=>z.elim (λz=>absurd e z) .inl) .inr,λx c e=>(j x c).elim (λz=>absurd e z) id,k,l]
structure XI(P:AM)(w:Ai)(K:Ao)(mg:Bx)(base:Ak)(X:Cx)(N:List Ae)(sc:Scope):Prop where
 p:X.prog=P
 w:X.w=w
 k:X.K=K
 m:X.mg=mg
 b:X.base=base
 n:X.N=N
 s:X.env.scope=sc
 d:N.Nodup
theorem XI.nd{P:AM}{w:Ai}{K:Ao}{mg:Bx}{base:Ak}{N:U Ae}{a:Scope}(h:XI P w K mg base X N a):X.N.Nodup:=h.n ▸ h.d
def oN(N:U Ae)(oix:U Nat):U Ae:=oix.filterMap (N[·]?)
structure CQ(N:List Ae)(sc scope:Scope)(n:Nat)(oix:List Nat):Prop where
 S:Iw (IR scope) (oN N oix) scope sc
 l:(IR scope).length=n
 x:oix.map (λj=>N[j]?)=(oN N oix).map Z
theorem NK{N:U Ae}{a:Scope}{n:Nat}{oix:U Nat}(h:(TU (IR scope) (oN N oix) scope a&&decide ((IR scope).length=n)&&decide (oix.map (λj=>N[j]?)=(oN N oix).map Z))=J'):CQ N a scope n oix:=by
 erw[CM,decide_eq_true_eq]at h;exact#[uJ h.1.1,h.1.2,h.2]
section
variable{K:Ao}{M:Fb}{f:VE->A0}{fd:AB}{b:D->VE->O VE}{t:VE->O Bool}{e:AB}{spos pos':AD}{oix:U Nat}{n i:Nat}{N:U Ae}{x:Ae}
variable{P:AM}{w:Ai}{K0:Ao}{mg:Bx}{base:Ak}
theorem NL{own a:U Ae}(h:XI P w K0 mg base X N sc)(d:(own++a).Nodup)(l:∀C f g i c j H',XI P w K0 mg base (Dp X own a scope C f g i c) (own++a) (Dp X own a scope C f g i c).env.scope->JG (Dp X own a scope C f g i c) tg (tG K j H' ws b))(n:∀C f g i c j H',XI P w K0 mg base (Dp X own a scope C f g i c) (own++a) (Dp X own a scope C f g i c).env.scope->JF (Dp X own a scope C f g i c) ifs (BQ K j H' t))(o:∀C f g i c j H',XI P w K0 mg base (Dp X own a scope C f g i c) (own++a) (Dp X own a scope C f g i c).env.scope->JE (Dp X own a scope C f g i c) elt (tD K j H' e)):CB K X own a scope tg ifs elt ws b t e:=oV (l _ _ _ _ _ _ _ #[h.p,h.w,h.k,h.m,h.b,rfl,rfl,d]) (n _ _ _ _ _ _ _ #[h.p,h.w,h.k,h.m,h.b,rfl,rfl,d])<|o _ _ _ _ _ _ _ ⟨h.p,h.w,h.k,h.m,h.b,rfl,rfl,d⟩
variable(h:XI P w K0 mg base X N sc)(q:CQ N sc scope n oix)(hc:X.calm=J')(hK:K0=K)
include h q hc hK
theorem uK(a:JI X tg iter (tI K M H0 f))(c:CB K X (IR scope) (oN N oix) scope tg ifs elt ws b t e)(d:∀j∈ws,j<n)(g:∀x,EQ iter X.env x=AA x:=by intro _;rfl):JE X (.ListComp elt [#[tg,iter,ifs,0]] scope pos) (tF K M H0 (Zn n oix f b t e)):=by
 obtain⟨_,_,i,_,_,rfl,rfl,_⟩:=h;obtain⟨S,rfl,x⟩:=q;grind [oW]
theorem uL(a:N[i]?=Z x)(d:sc.names.lookup x=Z .local)(g:JI X tg iter (tI K M H0 f))(k:CB K X (IR scope) (oN N oix) scope tg ifs elt ws b t e)(l:∀j∈ws,j<n)(c:Ef (.ListComp elt [#[tg,iter,ifs,0]] scope pos) (Z (.Name x pos')) spos.line X.env=AA J':=by rfl)(m:∀x,EQ iter X.env x=AA x:=by intro _;rfl):JS X (.Assign [.Name x pos'] (.ListComp elt [#[tg,iter,ifs,0]] scope pos) spos) (tS K M H0 λρ=>Dg i (Zn n oix f b t e ρ) ρ):=by
 obtain⟨_,_,o,_,_,rfl,rfl,nd⟩:=h;obtain⟨S,rfl,x⟩:=q;grind [oX]
theorem uM(a:N[i]?=Z x)(d:sc.names.lookup x=Z .local)(g:JI X tg iter (tI K M H0 f))(k:CB K X (IR scope) (oN N oix) scope tg ifs elt ws b t e)(l:∀j∈ws,j<n)(c:Ef (.ListComp elt [#[tg,iter,ifs,0]] scope pos) (Z (.Name x pos')) spos.line X.env=AA J':=by rfl)(m:∀x,EQ iter X.env x=AA x:=by intro _;rfl):JS X (.Assign [.Name x pos'] (.ListComp elt [#[tg,iter,ifs,0]] scope pos) spos) (tS K M H0 λρ=>Z0 i (Zw (Zn n oix f b t e ρ)) ρ):=by
 obtain⟨_,_,o,_,_,rfl,rfl,nd⟩:=h;obtain⟨S,rfl,x⟩:=q;grind [oY]
theorem uN(a:JE X iter (tQ K M H0 fd))(c:CB K X (IR scope) (oN N oix) scope tg ifs elt ws b t e)(d:∀j∈ws,j<n)(f:∀x,EQ iter X.env x=AA x:=by intro _;rfl):JE X (.ListComp elt [#[tg,iter,ifs,0]] scope pos) (tF K M H0 (Zn n oix (λρ=>(fd ρ).bind El) b t e)):=by
 obtain⟨_,_,g,_,_,rfl,rfl,_⟩:=h;obtain⟨S,rfl,x⟩:=q;grind [sT]
theorem uO(a:N[i]?=Z x)(d:sc.names.lookup x=Z .local)(f:JE X iter (tQ K M H0 fd))(g:CB K X (IR scope) (oN N oix) scope tg ifs elt ws b t e)(k:∀j∈ws,j<n)(c:Ef (.ListComp elt [#[tg,iter,ifs,0]] scope pos) (Z (.Name x pos')) spos.line X.env=AA J':=by rfl)(l:∀x,EQ iter X.env x=AA x:=by intro _;rfl):JS X (.Assign [.Name x pos'] (.ListComp elt [#[tg,iter,ifs,0]] scope pos) spos) (tS K M H0 λρ=>Dg i (Zn n oix (λρ=>(fd ρ).bind El) b t e ρ) ρ):=by
 obtain⟨_,_,m,_,_,rfl,rfl,nd⟩:=h;obtain⟨S,rfl,x⟩:=q;grind [sU]
end
def All{a:Type}(p:a->Prop):U a->Prop
 |[]=>True
 |x::r=>p x/\All p r
theorem All.get{a:Type}{p:a->Prop}:∀{l:U a}(i:Nat){x:a},All p l->l[i]?=Z x->p x
 |_::_,0,_,h,e=>by cases e;exact h.1
 |_::_,i+1,_,h,e=>All.get i h.2 (by simpa using e)
 |[],_,_,_,e=>by simp at e
def DX(K:Ao)(mg:Bx):Ae×Az×U Ae->Prop
 |(a,st,b)=>∃fn fd,DI K mg a st b fn fd
def MX(K:Ao)(C:Ac):Ae×Ae×Az×U Ae->Prop
 |(b,a,st,c)=>∃fn fd,MI K C b a st c fn fd
section
variable(P:AM)(w:Ai)(K:Ao)(mg:Bx)(base:Ak)
def OF(k:Nat)(nm:Ae)(sp:Sp):Prop:=∃st a fn fd,DI K mg nm st a fn fd/\AR P w K mg base Bm k fn fd a sp
def OM(C:Ac)(c:DZ)(k:Nat)(nm:Ae)(sp:Sp):Prop:=∃a st b fn fd,MI K C nm a st b fn fd/\AR P w K mg base c k fn fd b sp
end
section
variable{P:AM}{w:Ai}{K:Ao}{mg:Bx}{base:Ak}{nm qual:Ae}{st:Az}{k:Nat}{g:Ay}{gi:A5}{hx:IS->O Ae}(N:U Ae)
theorem BJ(D:DX K mg (nm,st,ps)) (l:∀(fn:Ac) (i:Aa) (A:Ag) (outer:U Env) (s:Ab) (H:Hp) (E:XK) (M:Fb) (H0:Hp),XI P w K mg base (Df Bm P w K mg base N nm (Zf st) fn i A outer s H E).nox N (Zf st)->AI k (A.deeper (A3 nm (Zf st) s.heap.objs.size fn i))->JB (Df Bm P w K mg base N nm (Zf st) fn i A outer s H E).nox (ZI st) (tS K M H0 g)) (S:EE N ps (Zf st):=by exact Mf) (j:ps.length<=N.length:=by ext):OF P w K mg base (k+1) nm (A1 K (AO ps.length N.length g)):=let⟨fn,fd,D⟩:=D
 #[st,ps,fn,fd,D,r6 D S (λa b c d e f g h r=>l fn a b c d e f g h #[rfl,rfl,rfl,rfl,rfl,rfl,rfl,S.nd] r) rfl j]
theorem TV(D:MX K C (nm,qual,st,ps)) (l:∀(fn:Ac) (i:Aa) (A:Ag) (outer:U Env) (s:Ab) (H:Hp) (E:XK) (M:Fb) (H0:Hp),XI P w K mg base (Df Bm P w K mg base N qual (Zf st) fn i A outer s H E).nox N (Zf st)->AI k (A.deeper (A3 qual (Zf st) s.heap.objs.size fn i))->JB (Df Bm P w K mg base N qual (Zf st) fn i A outer s H E).nox (ZI st) (tS K M H0 g)) (S:EE N ps (Zf st):=by exact Mf) (j:ps.length<=N.length:=by ext):OM P w K mg base C Bm (k+1) nm (A1 K (AO ps.length N.length g)):=let⟨fn,fd,D⟩:=D
 #[qual,st,ps,fn,fd,D,sS D S (λa b c d e f g h r=>l fn a b c d e f g h #[rfl,rfl,rfl,rfl,rfl,rfl,rfl,S.nd] r) rfl j]
theorem cC{fn:Ac}{fd:Cd}(D:DI K mg nm st ps fn fd) (i:∀(g:Aa) (A:Ag) (outer:U Env) (s:Ab) (H:Hp) (E:XK),XI P w K mg base (Df Bm P w K mg base N nm (Zf st) fn g A outer s H E).nox N (Zf st)->AI k (A.deeper (A3 nm (Zf st) s.heap.objs.size fn g))->JB (Df Bm P w K mg base N nm (Zf st) fn g A outer s H E).nox (ZI st) (tK K gi)) (S:EE N ps (Zf st):=by exact Mf) (h:ps.length<=N.length:=by ext):AR P w K mg base Bm (k+1) fn fd ps (Dj K (EL ps.length N.length gi)):=t9 D S (λa b c d e f r=>i a b c d e f #[rfl,rfl,rfl,rfl,rfl,rfl,rfl,S.nd] r) rfl h
theorem NM(D:DX K mg (nm,st,ps)) (c:∀(fn:Ac) (a:Aa) (A:Ag) (outer:U Env) (s:Ab) (H:Hp) (E:XK),XI P w K mg base (Df Bm P w K mg base N nm (Zf st) fn a A outer s H E).nox N (Zf st)->AI k (A.deeper (A3 nm (Zf st) s.heap.objs.size fn a))->JB (Df Bm P w K mg base N nm (Zf st) fn a A outer s H E).nox (ZI st) (tK K gi)) (S:EE N ps (Zf st):=by exact Mf) (b:ps.length<=N.length:=by ext):OF P w K mg base (k+1) nm (Dj K (EL ps.length N.length gi)):=let⟨fn,fd,D⟩:=D
 #[st,ps,fn,fd,D,cC N D (c fn) S b]
theorem NN(D:MX K C (nm,qual,st,ps)) (i:∀(fn:Ac) (g:Aa) (A:Ag) (outer:U Env) (s:Ab) (H:Hp) (E:XK),XI P w K mg base (Df Bm P w K mg base N qual (Zf st) fn g A outer s H E).nox N (Zf st)->AI k (A.deeper (A3 qual (Zf st) s.heap.objs.size fn g))->JB (Df Bm P w K mg base N qual (Zf st) fn g A outer s H E).nox (ZI st) (tK K gi)) (S:EE N ps (Zf st):=by exact Mf) (h:ps.length<=N.length:=by ext):OM P w K mg base C Bm (k+1) nm (Dj K (EL ps.length N.length gi)):=let⟨fn,fd,D⟩:=D
 #[qual,st,ps,fn,fd,D,ua D S (λa b c d e f r=>i fn a b c d e f #[rfl,rfl,rfl,rfl,rfl,rfl,rfl,S.nd] r) rfl h]
theorem TW(D:MX K C (nm,qual,st,ps)) (h:∀(fn:Ac) (g:Aa) (A:Ag) (outer:U Env) (s:Ab) (H:Hp) (E:XK),XI P w K mg base (Df Bm P w K mg base N qual (Zf st) fn g A outer s H E).nox N (Zf st)->AI k (A.deeper (A3 qual (Zf st) s.heap.objs.size fn g))->IN (Df Bm P w K mg base N qual (Zf st) fn g A outer s H E).nox (ZI st) hx) (S:EE N ps (Zf st):=by exact Mf):OM P w K mg base C (JY P w) (k+1) nm (IP K (K8 ps.length N.length hx)):=let⟨fn,fd,D⟩:=D
 #[qual,st,ps,fn,fd,D,uG D S (λa b c d e f r=>h fn a b c d e f #[rfl,rfl,rfl,rfl,rfl,rfl,rfl,S.nd] r) rfl]
end
section
variable{P:AM}{w:Ai}{K K':Ao}{mg:Bx}{base:Ak}{N:U Ae}{M:Fb}{k n:Nat}{c m x y:Ae}{F:U Sl->O Rv}{FF:FI}{e o:Expr}{fe:AB}{ga:IS->O (U IV)}{p kpos:AD}(h:XI P w K mg base X N sc)(r:AI n X.A)
include h r
theorem uP(G:OF P w K mg base k x (A1 K F))(a:K=K')(b:JA X (e::es) (CW K' M H0 fa))(c:k<=n)(d:Gl X x)(hz:CA X x e es pos):JE X (.Call (.Name x p) (e::es) [] pos) (tD K' M H0 (Zi F fa)):=by
 obtain⟨rfl,rfl,rfl,rfl,rfl,_,_,_⟩:=h;obtain⟨_,_,_,_,D,G⟩:=G;grind [rS]
theorem uQ(G:OF P w K mg base k x (A1 K F))(a:K=K')(b:JA X (e::es) (CW K' M H0 fa))(c:k<=n)(d:Gl X x)(hz:CA X x e es pos):JE X (.Call (.Name x p) (e::es) [] pos) (tF K' M H0 (Fn F fa)):=by
 obtain⟨rfl,rfl,rfl,rfl,rfl,_,_,_⟩:=h;obtain⟨_,_,_,_,D,G⟩:=G;grind [rT]
theorem uR(G:OF P w K mg base k x (A1 K F))(a:K=K')(c:JA X (e::es) (CW K' M H0 fa))(f:k<=n)(g:Gl X x)(hz:CA X x e es pos):JE X (.Call (.Name x p) (e::es) [] pos) (Fm .d K' M H0 (Hx F fa)):=by
 obtain⟨rfl,rfl,rfl,rfl,rfl,_,_,_⟩:=h;subst a;obtain⟨_,_,_,_,D,G⟩:=G;exact ur G (r.mono f) g D.m D.F.kp D.b Iu c hz
theorem uS(G:OF P w K mg base k x (Dj K FF))(a:K=K')(c:JA X (e::es) (FY K' ga))(d:k<=n)(f:Gl X x)(hz:CA X x e es pos):JE X (.Call (.Name x p) (e::es) [] pos) (DM K' λs=>Fy FF (ga s) s):=by
 obtain⟨rfl,rfl,rfl,rfl,rfl,_,_,_⟩:=h;subst a;obtain⟨_,_,_,_,D,G⟩:=G;exact ub G (r.mono d) f D.m D.F.kp D.b Iu c hz
theorem cD(G:OF P w K mg base k y (A1 K F))(f:mg x=J)(g:K=K')(i:JE X e (tP K' M H0 fe))(j:k+2<=n:=by ext)(l:Gl X x:=by rfl)(o:Ec x=Z (.builtin "sorted"):=by rfl)(c:Gl X y:=by rfl) (q:x≠"__name__":=by ext) (d:Cs x:=by ext) (a:Cs y:=by ext) (s:AC [e] X.env=(O',Ap e X.env)::AC [] X.env:=by exact ZR rfl):JE X (.Call (.Name x p) [e] [#[Z "key",.Name y p2,kpos]] pos) (tF K' M H0 (KU F fe)):=by
 obtain⟨rfl,rfl,rfl,rfl,rfl,_,_,_⟩:=h;subst g;obtain⟨_,_,_,_,D,G⟩:=G;exact rg G (r.mono j) l f o c D.m D.b i q d a s
variable(cb:CI K mg c C)
include cb
theorem uT(G:OM P w K mg base C Bm k "__init__" (Dj K FF))(a:K=K')(d:JA X (e::es) (FY K' ga))(f:k+1<=n:=by ext)(g:Gl X c:=by rfl)(hz:CA X c e es pos:=by exact FM):JE X (.Call (.Name c p) (e::es) [] pos) (DM K' λs=>PU c FF (ga s) s):=by
 obtain⟨rfl,rfl,rfl,rfl,rfl,_,_,_⟩:=h;subst a;obtain⟨_,_,_,_,_,D,G⟩:=G;exact uf cb.cof (cb.mkB D) G (r.mono f) g cb.m D.b Iu d hz
theorem TX(G:OM P w K mg base C Bm k m (A1 K F))(f:K=K')(g:JE X o (Gz K' M H0 fo))(i:JA X (e::es) (CW K' M H0 fa))(j:k<=n:=by ext) (a:AC (e::es) X.env=(O',Ap e X.env)::AC es X.env:=by exact ZR rfl) (d:(Au pos (AC es X.env)).any (·.1)=O':=by rfl) (l:ME X o m (e::es) pl apos pos:=by rfl):JE X (.Call (.Attribute o m apos) (e::es) [] pos) (tD K' M H0 λρ=>(DL c m F (fo ρ) (fa ρ)).map CY):=by
 obtain⟨rfl,rfl,rfl,rfl,rfl,_,_,_⟩:=h;subst f;obtain⟨_,_,_,_,_,D,G⟩:=G;exact sj cb.cof cb.cl D.M G (r.mono j) D.b Iu g i a d l
theorem uU(G:OM P w K mg base C Bm k m (A1 K F))(a:K=K')(d:JE X o (Gz K' M H0 fo))(e:k<=n:=by ext)(f:ME X o m [] pl apos pos:=by rfl):JE X (.Call (.Attribute o m apos) [] [] pos) (tD K' M H0 λρ=>(DL c m F (fo ρ) (Z [])).map CY):=by
 obtain⟨rfl,rfl,rfl,rfl,rfl,_,_,_⟩:=h;subst a;obtain⟨_,_,_,_,_,D,G⟩:=G;exact sk cb.cof cb.cl D.M G (r.mono e) D.b Iu d f
theorem TY(G:OM P w K mg base C Bm k m (Dj K FF))(f:K=K')(g:JE X o (EZ K' gp))(i:JA X (e::es) (FY K' ga))(j:k<=n:=by ext) (a:AC (e::es) X.env=(O',Ap e X.env)::AC es X.env:=by exact ZR rfl) (d:(Au pos (AC es X.env)).any (·.1)=O':=by rfl) (l:ME X o m (e::es) pl apos pos:=by rfl):JE X (.Call (.Attribute o m apos) (e::es) [] pos) (DM K' λs=>Gq c m FF (gp s) (ga s) s):=by
 obtain⟨rfl,rfl,rfl,rfl,rfl,_,_,_⟩:=h;subst f;obtain⟨_,_,_,_,_,D,G⟩:=G;exact ud cb.cof cb.cl D.M G (r.mono j) D.b Iu g i a d l
theorem uV(G:OM P w K mg base C Bm k m (Dj K FF))(a:K=K')(d:JE X o (EZ K' gp))(e:k<=n:=by ext)(f:ME X o m [] pl apos pos:=by rfl):JE X (.Call (.Attribute o m apos) [] [] pos) (DM K' λs=>Gq c m FF (gp s) (Z []) s):=by
 obtain⟨rfl,rfl,rfl,rfl,rfl,_,_,_⟩:=h;subst a;obtain⟨_,_,_,_,_,D,G⟩:=G;exact ue cb.cof cb.cl D.M G (r.mono e) D.b Iu d f
theorem TZ(nx:KW X)(G:OM P w K mg base C (JY P w) k m (IP K FX))(l:K=X.K)(f:JE X o (EZ X.K gp))(g:JA X (e::es) (FY X.K ga))(i:k<=n:=by ext) (a:AC (e::es) X.env=(O',Ap e X.env)::AC es X.env:=by exact ZR rfl) (d:(Au pos (AC es X.env)).any (·.1)=O':=by rfl) (j:ME X o m (e::es) pl apos pos:=by rfl):PZ X (.Call (.Attribute o m apos) (e::es) [] pos) (λs=>Hh c m FX (gp s) (ga s) s):=by
 obtain⟨rfl,rfl,rfl,rfl,rfl,_,_,_⟩:=h;obtain⟨_,_,_,_,_,D,G⟩:=G;exact uF nx cb.cof cb.cl D.M G (r.mono i) D.b f g a d j
end
section
variable{K:Ao}{M:Fb}{st:Az}{g:Ay}{i:Nat}{cs:U Ae}{f:Ae->Bool}{m n c:Ae}{np cp p:AD}
@[simp] def Hj(i:Nat)(g:Ay):Ay:=λa=>g (JN i a)
theorem uW(h:JS X st (tS K M H0 g)):JS X st (tS K M H0 (Hj i g)):=ow i h
theorem uX{ty:String}(k:X.mg m=J)(l:X.mg c=J)(o:∀c a,cs.contains c=J'->nsIn K BU c=Z (Z (.ref a))->GC K a/\kitOne K (.ref a) (.type ty)=Z (f c))(q:Ec c=Z (.type ty):=by rfl)(r:X.K=K:=by rfl)(s:X.N[i]?=Z n:=by rfl)(b:X.env.scope.names.lookup n=Z .local:=by rfl)(d:Gl X c:=by rfl)(t:Gl X m:=by rfl)(w:Ec m=Z (.builtin "isinstance"):=by rfl) (x:m≠"__name__":=by ext) (e:c≠"__name__":=by ext) (g:Cs m:=by ext) (hd:Cs n:=by ext) (h:(n==("__classdict__":Ae))=O':=by ext) (j:Cs c:=by ext):JE X (.Call (.Name m p) [.Name n np,.Name c cp] [] pos) (tD K M H0 (Gj i cs f)):=bo i cs f r s (Or.inl b) (W7 (v:=.ty ty) d l q rfl e j) (λu z=>z) o t k w x g hd h
theorem All.mem{a:Type}{p:a->Prop}{x:a}:∀{l:U a},All p l->x∈l->p x
 |_::_,h,e=>by cases e with
  |head=>exact h.1
  |tail _ e=>exact All.mem h.2 e
def XX(K:Ao)(mg:Bx)(c:Ae):Prop:=∃a,mg c=Z (.ref a)/\nsIn K BU c=Z (Z (.ref a))
def YY(K:Ao)(l:U Ae)(c:Ae):Prop:=∃a,nsIn K BU c=Z (Z (.ref a))/\Ti K a/\GC K a/\kitOne K (.ref a) (.type "ValueError")=Z (Gk "ValueError" c)/\(∃B,nsIn K BU "CubeError"=Z (Z (.ref B))/\exmOne K (.ref a) (.ref B)=Z J')/\All (λb=>∃B,nsIn K BU b=Z (Z (.ref B))/\kitOne K (.ref a) (.ref B)=Z (Gk b c)) l
theorem uY{l:U Ae}(r:X.mg m=J)(s:All (XX K X.mg) l)(t:All (YY K l) cs)(a:l.contains c=J':=by rfl)(w:X.K=K:=by rfl)(x:X.N[i]?=Z n:=by rfl)(b:X.env.scope.names.lookup n=Z .local:=by rfl)(d:Gl X c:=by rfl)(y:Gl X m:=by rfl)(A:Ec m=Z (.builtin "isinstance"):=by rfl) (B:m≠"__name__":=by ext) (g:Cs m:=by ext) (hd:Cs n:=by ext) (j:(n==("__classdict__":Ae))=O':=by ext) (o:Cs c:=by ext):JE X (.Call (.Name m p) [.Name n np,.Name c cp] [] pos) (tD K M H0 (Gj i cs (Gk c))):=by
 have a:=NO.mp a;obtain⟨C,E,G⟩:=s.mem a;refine bo i cs _ w x (Or.inl b) (RE (v:=.ref C) d E rfl o) (λu z=>z) (λc F h e=>?_) y r A B g hd j;obtain⟨_,H,_,f,_,_,q⟩:=t.mem<|NO.mp h;obtain⟨_,L,k⟩:=q.mem a;cases e.symm.trans H;cases G.symm.trans L;exact#[f,k]
theorem uZ{l:U Ae}(b:All (YY K l) cs):∀c a,cs.contains c=J'->nsIn K BU c=Z (Z (.ref a))->GC K a/\kitOne K (.ref a) (.type "ValueError")=Z (Gk "ValueError" c):=λc a h e=>by
 obtain⟨_,d,_,f,v,_⟩:=b.mem<|NO.mp h;cases e.symm.trans d;exact⟨f,v⟩
theorem u0{l:U Ae}{mg:Bx}(a:XX K mg "CubeError")(b:All (YY K l) cs):∃G,mg "CubeError"=Z (.ref G)/\∀c D,cs.contains c=J'->nsIn K BU c=Z (Z (.ref D))->exmOne K (.ref D) (.ref G)=Z J':=by
 obtain⟨_,d,f⟩:=a;refine#[_,d,λc D h e=>?_];obtain⟨_,g,_,_,_,⟨_,i,x⟩,_⟩:=b.mem<|NO.mp h;cases e.symm.trans g;cases f.symm.trans i;exact x
theorem u3{l:U Ae}{e:Expr}{ga:IS->O (U IV)}(nx:KW X)(g:X.calm=J')(h:All (XX X.K X.mg) l)(i:All (YY X.K l) cs)(j:Gl X c)(m:JA X (e::es) (FY X.K ga))(a:l.contains c=J':=by rfl)(n:cs.contains c=J':=by rfl) (b:Cs c:=by ext) (o:AC (e::es) X.env=(O',Ap e X.env)::AC es X.env:=by exact ZR rfl) (d:(Au p (AC es X.env)).any (·.1)=O':=by rfl):NJ X (.Raise (Z (.Call (.Name c np) (e::es) [] p)) J pos) (λs=>Hg (ga s) c):=by
 obtain⟨_,a,q⟩:=h.mem<|NO.mp a;obtain⟨_,f,k,_⟩:=i.mem<|NO.mp n;cases q.symm.trans f;exact uE nx g k f j a m b o d
end
end L2
namespace L2
open PySem PySem.Spec PyProof.Rows
@[simp] theorem ZFk(a b:Int):AF (.int a) (.int b)=decide (a=b):=by erw[AF];by_cases h:a=b<;>simp[h]
@[simp] theorem ZFb(a b:Ae):AF (.str a) (.str b)=decide (a=b):=by erw[AF];by_cases h:a=b<;>simp[h]
@[simp] theorem ZFi(a b:Bool):AF (.bl a) (.bl b)=decide (a=b):=by erw[AF];by_cases h:a=b<;>simp[h]
@[simp] theorem ZFn:AF .non .non=J':=by erw[AF]
@[simp] theorem ZE3(a:Bool)(b:Int):AF (.bl a) (.int b)=decide ((if a then 1 else 0)=b):=by erw[AF];by_cases h:(if a then 1 else 0)=b<;>simp[h]
@[simp] theorem ZEZ(a:Int)(b:Bool):AF (.int a) (.bl b)=decide (a=(if b then 1 else 0)):=by erw[AF];by_cases h:a=(if b then 1 else 0)<;>simp[h]
@[simp] theorem ZE9(a:Int)(b:Ae):AF (.int a) (.str b)=O':=by erw[AF]
@[simp] theorem ZFp(a:Ae)(b:Int):AF (.str a) (.int b)=O':=by erw[AF]
@[simp] theorem ZFd(a:Bool)(b:Ae):AF (.bl a) (.str b)=O':=by erw[AF]
@[simp] theorem ZEX(a:Ae)(b:Bool):AF (.str a) (.bl b)=O':=by erw[AF]
@[simp] theorem ZEW(b:Int):AF .non (.int b)=O':=by erw[AF]
@[simp] theorem ZFj(b:Ae):AF .non (.str b)=O':=by erw[AF]
@[simp] theorem ZE5(b:Bool):AF .non (.bl b)=O':=by erw[AF]
@[simp] theorem ZE8(b:Int):AF (.int b) .non=O':=by erw[AF]
@[simp] theorem ZE0(b:Ae):AF (.str b) .non=O':=by erw[AF]
@[simp] theorem ZFg(b:Bool):AF (.bl b) .non=O':=by erw[AF]
@[simp] theorem ZET(a b:U D):AF (.tup a) (.tup b)=CZ a b:=by erw[AF]
@[simp] theorem ZEU(a b:U D):AF (.lst a) (.lst b)=CZ a b:=by erw[AF]
@[simp] theorem ZFm(a b:U D):AF (.tup a) (.lst b)=O':=by erw[AF]
@[simp] theorem ZFo(a b:U D):AF (.lst a) (.tup b)=O':=by erw[AF]
@[simp] theorem ZE7(a:U D)(b:Int):AF (.tup a) (.int b)=O':=by erw[AF]
@[simp] theorem ZE6(a:U D)(b:Ae):AF (.tup a) (.str b)=O':=by erw[AF]
@[simp] theorem ZFh(a:U D):AF (.tup a) .non=O':=by erw[AF]
@[simp] theorem ZFr(a:U D)(b:Bool):AF (.tup a) (.bl b)=O':=by erw[AF]
@[simp] theorem ZFs(a:U D)(b:Int):AF (.int b) (.tup a)=O':=by erw[AF]
@[simp] theorem ZFq(a:U D)(b:Ae):AF (.str b) (.tup a)=O':=by erw[AF]
@[simp] theorem ZFe(a:U D):AF .non (.tup a)=O':=by erw[AF]
@[simp] theorem ZEV(a:U D)(b:Bool):AF (.bl b) (.tup a)=O':=by erw[AF]
@[simp] theorem ZFf(a:U D)(b:Int):AF (.lst a) (.int b)=O':=by erw[AF]
@[simp] theorem ZE4(a:U D)(b:Ae):AF (.lst a) (.str b)=O':=by erw[AF]
@[simp] theorem ZFc(a:U D):AF (.lst a) .non=O':=by erw[AF]
@[simp] theorem ZFl(a:U D)(b:Bool):AF (.lst a) (.bl b)=O':=by erw[AF]
@[simp] theorem ZFa(a:U D)(b:Int):AF (.int b) (.lst a)=O':=by erw[AF]
@[simp] theorem ZE2(a:U D)(b:Ae):AF (.str b) (.lst a)=O':=by erw[AF]
@[simp] theorem ZE1(a:U D):AF .non (.lst a)=O':=by erw[AF]
@[simp] theorem ZEK(a:U D)(b:Bool):AF (.bl b) (.lst a)=O':=by erw[AF]
@[simp] theorem ZD0:CZ [] []=J':=by erw[CZ]
@[simp] theorem ZDJ(a b:D)(c bs:U D):CZ (a::c) (b::bs)=(AF a b&&CZ c bs):=by erw[CZ]
@[simp] theorem ZEM(b:D)(bs:U D):CZ [] (b::bs)=O':=by erw[CZ]
@[simp] theorem ZER(b:D)(bs:U D):CZ (b::bs) []=O':=by erw[CZ]
@[simp] theorem u4:∀(a b:U Int),CZ (a.map D.int) (b.map D.int)=decide (a=b)
  |[],[]=>by simp
  |[],_::_=>by simp
  |_::_,[]=>by simp
  |x::a,y::b=>by simp[u4 a b]
@[simp] theorem ZEa(n:Nat)(a:U Int):(a.map D.int).all (A7 n)=J':=by
  rw[D4];intro x b;obtain⟨i,_,rfl⟩:=Bp.mp b;cases n<;>rfl
@[simp] theorem ZEO(t n:String):L5 t n=(t==n||(t=="bool"&&n=="int")):=rfl
@[simp] theorem ZCI:Hd=["NoneType","bool","int","str","tuple","list"]:=rfl
@[simp] theorem HR:ZT=12:=rfl
@[simp] theorem ZEc:Dl.tysL []=Z []:=rfl
@[simp] theorem ZDK(n:String)(r:U D):Dl.tysL (.ty n::r)=(Dl.tysL r).map (n::·):=rfl
@[simp] theorem ZES(ns:U Int):Hc (ns.map D.int)=Z ns:=Pj ns
@[simp] theorem T0:∀(ns:U Bool),IE (ns.map D.bl)=Z ns
  |[]=>rfl
  |n::ns=>by erw[AS,IE,T0 ns];rfl
theorem ZA{c:Type}{b:D->VE->O VE}{e:AB}{ρ:VE}(G F:c->D):∀(xs:U c),(∀x∈xs,∃a,b (G x) ρ=Z a/\e a=Z (F x))->ZX b (λ_=>Z J') e ρ (xs.map G)=Z (xs.map F)
 |[],_=>rfl
 |x::xs,h=>by
  obtain⟨a,d,f⟩:=h x Ba;erw[AS,ZX,d,f,Zh,BH,ZA G F xs λy g=>h y<|Be _ g]
theorem u5(lo:Int)(n:Nat):Hz lo n=(Bq n).map λ(k:Nat)=>D.int (lo+(k:Int)):=rfl
@[simp] theorem Zp{a:Type}(l:U a)(h:l.length<=1000000):Ze (Z l)=Z l:=by
  have:l.length<=Ax:=BZ h (by ext);simp[this]
theorem T4{a c:Type}(f:a->c)(xs:U a)(lo b:O Int):EX (xs.map f) lo b=(EX xs lo b).map f:=by simp_all [EX]
theorem cE{b:Type}(xs:U b)(k:Int)(h:0<=k):EX xs J (Z k)=xs.take k.toNat:=by
 have e:HT.sIx xs.length 0 J=0:=rfl;have c:HT.sIx xs.length xs.length (Z k)=min k.toNat xs.length:=by erw[HT.sIx];split<;>lia
 unfold EX;rw[e,c,List.drop_zero,Nat.sub_zero];rcases Nat.le_total k.toNat xs.length with a|a
 ·rw[Nat.min_eq_left a]
 ·rw[Nat.min_eq_right a,List.take_length,Nh a]
theorem cF{b:Type}(xs:U b)(k:Int)(h:0<=k):EX xs (Z k) J=xs.drop k.toNat:=by
 have e:HT.sIx xs.length xs.length J=xs.length:=rfl;have c:HT.sIx xs.length 0 (Z k)=min k.toNat xs.length:=by erw[HT.sIx];split<;>lia
 unfold EX;rw[e,c];rcases Nat.le_total k.toNat xs.length with a|a
 ·simp_all [Nat.min_eq_left,Nh,List.length_drop,Bf]
 ·rw[Nat.min_eq_right a,List.drop_length,List.drop_of_length_le a,List.take_nil]
theorem u6{c:Type}(xs:U c)(i j:Int)(f:0<=i)(g:0<=j):EX xs (Z i) (Z j)=(xs.drop i.toNat).take (j.toNat-i.toNat):=by
 have d:HT.sIx xs.length 0 (Z i)=min i.toNat xs.length:=by erw[HT.sIx];split<;>lia
 have e:HT.sIx xs.length xs.length (Z j)=min j.toNat xs.length:=by erw[HT.sIx];split<;>lia
 unfold EX;rw[d,e];rcases Nat.le_total i.toNat xs.length with a|a
 ·rw[Nat.min_eq_left a];rcases Nat.le_total j.toNat xs.length with b|b
  ·rw[Nat.min_eq_left b]
  ·rw[Nat.min_eq_right b,Nh (by rw[List.length_drop];exact Bf _),Nh (by rw[List.length_drop];lia)]
 ·rw[Nat.min_eq_right a,List.drop_length,List.drop_of_length_le a,List.take_nil,List.take_nil]
theorem J2(j:Int)(a:0<=j)(h:j<1000000000):EH [.int j]=Z ((Bq j.toNat).map λ(k:Nat)=>D.int (k:Int)):=by grind [Hz,EH,LX]
theorem NP(n:Nat)(h:n<1000000000):EH [.int (n:Int)]=Z ((Bq n).map λ(k:Nat)=>D.int (k:Int)):=by
 rw[J2 _ (La n)<|Int.lt_toNat.mp h,GD]
theorem u7(i j:Int)(c:0<=i)(a:i<1000000000)(h:j<1000000000)(b : -1000000000<j):M5 [.int i,.int j]=Z ((Bq (j-i).toNat).map λ(k:Nat)=>D.int (i+(k:Int))):=by
 erw[M5];rw[LX #[by lia,by exact Int.lt_of_add_one_le a,by exact Int.le_of_lt b,by exact Int.lt_of_add_one_le h]];rfl
theorem u8(xs ys:U D)(h:xs.length+ys.length<=1000000):Zu (.lst xs) (.lst ys)=Z (.lst (xs++ys)):=by
 erw[Zu];rw[if_pos<|BZ h (by ext)]
theorem T5(neg:Bool)(c:Nat)(z:Ae):Db neg (.str #[(T' [c])]) (.str z)=Z (.bl (if neg then !decide (c∈z.cps.toList)else decide (c∈z.cps.toList))):=by
 have h:=StrLaws.found_one z c;simp_all
@[simp] theorem HS(d:D):CY (.val d)=d:=rfl
@[simp] theorem HU(xs:U D)(b:Kd):CY (.own xs b)=.lst xs b:=rfl
end L2
set_option backward.eqns.nonrecursive true
namespace K54
open PySem PySem.Spec PyProof.Rows L2
abbrev A2:=U (U (U At))
abbrev BR:=U (U At)
section
set_option hygiene false in
local macro_rules | `(#[$a,*])=>do let w:Lean.Term <- a.getElems.foldrM (λx w=>if x.raw.isNatLit?.isSome then `(Zh (Co r $x) $w)else `(Zh (CL $x) $w)) (<- `(some []));return w
set_option hygiene false in
local macro_rules | `(#v[$a,*])=>`(λr=>#[$a,*])
local macro_rules | `(!$n:num)=>`(λr=>AU r $n)
local macro_rules | `(~~~$n:num)=>`(λ_=>some (.int $n))
local macro_rules | `(∅)=>`(λr=>.next r)
local macro_rules | `($a >>> $b)=>`(λr=>Zd ($a r) $b)
local macro_rules | `($a <<< $b)=>`(λr=>Zl ($a r) $b)
noncomputable def CS:U Ae:=["NoGrain","TooMuch"]
def P1:Ay:=λr=>Zd (Zv (Cn (DQ (AE ((Zk CN #v[0,Z (.ty "int")]) r)) (AE (Cn (ZG (AE ((Zk CN #v[0,Z (.ty "bool")]) r)))))))) ∅
def HV:=AO 1 1 P1
def P2:AB:=λr=>Cn (Cz (AE ((Za (Db O') (!0) (λ_=>Z (.str "abcdefghijklmnopqrstuvwxyz"))) r)) (AE ((Za (Db O') (!0) (λ_=>Z (.str "0123456789"))) r)))
def Lb:Ay:=λr=>Zd (ZO (ZG (ZM ((Zk CN #v[0,Z (.ty "str")]) r))) (Zd (Zv (Z (.bl O'))) ∅) (.next r)) (λr=>Zd (ZO (Cz (AE ((Za E7 (Zk Zr #v[0]) (~~~1)) r)) (AE ((Za EW (Zk Zr #v[0]) (~~~12)) r))) (Zd (Zv (Z (.bl O'))) ∅) (.next r)) (λr=>Zd (Zv (Cn (DQ (AE ((Za (Db O') (Za Ar (!0) (~~~0)) (λ_=>Z (.str "abcdefghijklmnopqrstuvwxyz"))) r)) (AE ((Zk EI #v[Zw ((Zn 1 [] (λr=>(BI r 0).bind Zs) (Zc 0) (λ_=>Z J') P2) r)]) r))))) ∅))
def IT:=AO 1 1 Lb
def cG:Ay:=λr=>Zd (Zv ((Zk Zr #v[(Za Ar (!0) (~~~0)) r]) r)) ∅
def P4:=AO 1 1 cG
def T6:Ay:=λr=>Zd (Zv (MZ (AE ((Za E7 (!1) (Zk Zr #v[0])) r)) ((Za Ar (!0) (!1)) r) (Z .non))) ∅
def IU:=AO 2 2 T6
def cH:AB:=(~~~0)
def cI:Ay:=λr=>Zd (Zv ((Zk D5 #v[Zw ((Zn 1 [] (λr=>(BI r 0).bind Zs) (Zc 0) (λ_=>Z J') cH) r)]) r)) ∅
def Lc:=AO 1 1 cI
def cJ:Ay:=λr=>Zd (Zv ((Ze (#[(Zk Zr #v[0]) r,(Zk Ni #v[0]) r,(Zk L1 #v[0]) r,(Zk L3 #v[0]) r].bind Zj)).map D.tup)) ∅
def P5:=AO 1 1 cJ
def cK:Ay:=λr=>Zd (Zv ((Ze (#[(Za Zu (Za Ar (!0) (~~~0)) (Za Ar (!1) (~~~0))) r,(Za Zu (Za Ar (!0) (~~~1)) (Za Ar (!1) (~~~1))) r,(Zk Ph #v[(Za Ar (!0) (~~~2)) r,(Za Ar (!1) (~~~2)) r]) r,(Zk L0 #v[(Za Ar (!0) (~~~3)) r,(Za Ar (!1) (~~~3)) r]) r].bind Zj)).map D.tup)) ∅
def NQ:=AO 2 2 cK
def P6:AB:=(Za (Dr O') (!1) (!0))
def T7:Ay:=λr=>Zd (Zv ((Zk EI #v[Zw ((Zn 2 [] (Fa (λr=>BI r 0) (λr=>BI r 1)) (Ch 2 (Zq (Zc 0) (Zq (Zc 1) Z9))) (λ_=>Z J') P6) r)]) r)) ∅
def P7:=AO 2 2 T7
def T8:A5:=λs=>Zl (Cu (jT 2 (λr=>AE ((Za KD (Zk Zr #v[0]) (~~~200)) r)) s) (Zl (.fail) ∅) (.next s)) (λs=>Zl (Fx (K6 (Cr s 0) ((jE 0 (λr=>Bb r 1)) s) s) s) ∅)
def T9:=EL 2 2 T8
def u9:A5:=λs=>Zl (Cu (jT 2 (λr=>AE ((Za (Db J') (!1) (!0)) r)) s) (Zl (.fail) ∅) (.next s)) (λs=>Zl (Fx (NI (Cr s 0) ((jE 0 (λr=>Bb r 1)) s) s) s) ∅)
def cL:=EL 2 2 u9
def Ua:Ay:=λr=>Zd (C9 (IM ((AU r 0).bind (Dc "Book" "tables")))) ∅
def P8:=AO 1 1 Ua
def Ub:Ay:=λr=>Zd (ZO (AE ((Za E7 (!1) (Zk Zr #v[0])) r)) (Zd (Zv ((Za Ar (!0) (!1)) r)) ∅) (.next r)) (λr=>Zd (Zv (Z (.int 0))) ∅)
def ZP:=AO 2 2 Ub
def P9:Ay:=λr=>Zd (Z0 2 ((Za ZS (Za Zu (Za Zu (Za Zu (Za EV (!2) (~~~45742)) (Za JQ (!2) (~~~46949))) (Za EV (~~~29) (!4))) (~~~11)) (~~~2147483647)) r) r) (λr=>Zd (Ge 3 ((Za JQ (!2) (~~~8)) r) r) ∅)
def cM:Ay:=λr=>Z0 2 ((Za Zu (Za ZS (!0) (~~~2147483549)) (~~~17)) r) r
def cN:Ay:=λr=>Dg 3 (Ze ((Z []).bind Zj)) r
def cO:Ay:=(Z4 (λr=>(#[(Za Zu (!1) (~~~2)) r].bind Zj).bind EH) (Zc 4) P9)
def cP:Ay:=λr=>Zv ((DR (!3) (λr=>DG (Z (.int 2))) (λ_=>Z J) D3) r)
def va:Ay:=λr=>.next r
def cQ:=cP >>> va
def cR:=cO >>> cQ
def cT:=cN >>> cR
def cU:=cM >>> cT
def cV:Ay:=cU
def HW:=AO 2 5 cV
def Qa:AB:=(Za Ar (!1) (Za ZS (Za Zu (Za JQ (!2) (Za Zu (!0) (~~~2))) (Za EV (~~~4) (!0))) (Za Ar (λr=>Zw (Ze (#[Z (.int 36),Z (.int 26)].bind Zj))) (Zk intD #v[(Za Bu (!0) (~~~0)) r]))))
def cX:Ay:=λr=>ZO (AE ((Za Bu (!1) (~~~0)) r)) (Zd (Zv ((Za Zu (Za Iz (Za ZS (!0) (Za KC (~~~10) (~~~30))) (Za EV (~~~5) (Za KC (~~~10) (~~~29)))) (!2)) r)) ∅) (.next r)
def cY:Ay:=λr=>Z0 3 (Z (.str "abcdefghijklmnopqrstuvwxyz0123456789")) r
def cZ:Ay:=λr=>Z0 4 ((Za Zu (~~~1) (Za ZS (!0) (~~~12))) r) r
def c0:Ay:=λr=>Z0 5 ((Za ZS (Za JQ (!0) (~~~12)) (!4)) r) r
def c3:Ay:=λr=>Dg 6 ((Zn 1 [3,0] (λr=>(#[Bb r 4].bind Zj).bind EH) (Zc 0) (λ_=>Z J') Qa) r) r
def c4:Ay:=λr=>Pn 6 (AU r 5) ((Za Ar (!3) (Za ZS (Za Zu (Za Zu (Za JQ (!0) (Za Zu (!5) (~~~2))) (Za EV (~~~4) (!5))) (Za EV (~~~5) (!2))) (Za Ar (λr=>Zw (Ze (#[Z (.int 36),Z (.int 26)].bind Zj))) (Zk intD #v[(Za Bu (!5) (~~~0)) r])))) r) r
def c5:Ay:=λr=>Zv ((KJ Po (λ_=>Z (.str "")) #v[6]) r)
def vb:Ay:=λr=>.next r
def c6:=c5 >>> vb
def c7:=c4 >>> c6
def c9:=c3 >>> c7
def db:=c0 >>> c9
def df:=cZ >>> db
def dg:=cY >>> df
def dh:=cX >>> dg
def dj:Ay:=dh
def J3:=AO 3 7 dj
def Ld:Ay:=λr=>Zd (ZO (DQ (AE ((Za Bu (Za Ar (!3) (~~~0)) (!1)) r)) (AE ((Za E7 (!2) (Zk Zr #v[3])) r))) (Zd (Zv ((Za Ar (!3) (!2)) r)) ∅) (.next r)) ∅
def Qb:Ay:=λr=>Zd ((Z4 (λr=>(BI r 0).bind Zs) (Zc 3) Ld) r) (λr=>Zd (Zv (Z .non)) ∅)
def Uc:=AO 3 4 Qb
def dm:Ay:=λr=>Zd (Zv ((Ze (#[(Zk Zr #v[0]) r,(Zk Ni #v[0]) r,(Zk L1 #v[0]) r,(Zk L3 #v[0]) r].bind Zj)).map D.tup)) ∅
def Qc:=AO 1 1 dm
def Z7:Ay:=λr=>Zd (ZO (AE ((Za Ce (!3) (!4)) r)) (Zd (Zv ((Za E7 (KJ Nk (!2) #v[3]) (KJ Nk (!2) #v[4])) r)) ∅) (.next r)) ∅
def NR:Ay:=λr=>ZO (Cz (Gb (AU r 0)) (Gb (AU r 1))) (Zd (Zv (Cn (DQ (AE (Cn (Gb (AU r 0)))) (AE (Cn (ZG (Gb (AU r 1)))))))) ∅) (.next r)
def Ud:Ay:=λr=>ZO (AE ((Za Ce (Zk CN #v[0,Z (.ty "str")]) (Zk CN #v[1,Z (.ty "str")])) r)) (Zd (Zv ((Zk CN #v[1,Z (.ty "str")]) r)) ∅) (.next r)
def dn:Ay:=λr=>ZO (ZM ((Zk CN #v[0,Z (.ty "int")]) r)) (Zd (Zv ((Za E7 (!0) (!1)) r)) ∅) (.next r)
def vc:Ay:=λr=>Z0 2 (Z (.str "0123456789abcdefghijklmnopqrstuvwxyz")) r
def Ue:Ay:=(Z4 (Fa (λr=>BI r 0) (λr=>BI r 1)) (Ch 2 (Zq (Zc 3) (Zq (Zc 4) Z9))) Z7)
def dr:Ay:=λr=>Zv ((Za E7 (Zk Zr #v[0]) (Zk Zr #v[1])) r)
def vd:Ay:=λr=>.next r
def dt:=dr >>> vd
def Qd:=Ue >>> dt
def ve:=vc >>> Qd
def du:=dn >>> ve
def Uf:=Ud >>> du
def Z6:=NR >>> Uf
def vf:Ay:=Z6
def Ug:=AO 2 5 vf
def vg:Ay:=λr=>Zd (Zv (Cn (DQ (AE ((Zk CN #v[0,Z (.ty "int")]) r)) (AE (Cn (ZG (AE ((Zk CN #v[0,Z (.ty "bool")]) r)))))))) ∅
def NS:=AO 1 1 vg
def vh:Ay:=λr=>Z0 2 (Zw (Ze (#[Zw ((FN ID #v[0]) r),(Za Zu (DR (!0) (λ_=>Z J) (λr=>DG (HA (Z (.int 1)))) D3) (λr=>(Ze (#[Z (.int 5)].bind Zj)).map D.tup)) r,(Za Zu (λr=>(Ze (#[HA (Z (.int 1))].bind Zj)).map D.tup) (DR (!0) (λr=>DG (Z (.int 1))) (λ_=>Z J) D3)) r,(Za Zu (λr=>(Ze (#[Z (.bl J')].bind Zj)).map D.tup) (DR (!0) (λr=>DG (Z (.int 1))) (λ_=>Z J) D3)) r,Z .non,Z (.str "0"),(DR (!0) (λ_=>Z J) (λr=>DG (HA (Z (.int 1)))) D3) r,(Za Zu (!0) (λr=>(Ze (#[Z (.int 0)].bind Zj)).map D.tup)) r].bind Zj))) r
def vi:Ay:=λr=>Z0 2 ((Za Zu (!2) (λr=>Zw (Ze (#[(Za Zu (λr=>(Ze (#[Z .non].bind Zj)).map D.tup) (DR (!0) (λr=>DG (Z (.int 1))) (λ_=>Z J) D3)) r,(Za Zu (λr=>(Ze (#[Z (.str "0")].bind Zj)).map D.tup) (DR (!0) (λr=>DG (Z (.int 1))) (λ_=>Z J) D3)) r,Z (.int 0),(Ze ((Z []).bind Zj)).map D.tup,(Za Zu (λr=>(Ze (#[Z (.int 5)].bind Zj)).map D.tup) (DR (!0) (λr=>DG (Z (.int 1))) (λ_=>Z J) D3)) r,Zw (Ze ((Z []).bind Zj)),(Za Zu (λr=>(Ze (#[(Ze (#[Z (.int 0)].bind Zj)).map D.tup].bind Zj)).map D.tup) (DR (!0) (λr=>DG (Z (.int 1))) (λ_=>Z J) D3)) r].bind Zj)))) r) r
def vj:Ay:=λr=>Z0 2 ((Za Zu (!2) (λr=>Zw (Ze (#[(Za Zu (λr=>(Ze (#[Zw (Ze (#[Z (.int 0)].bind Zj))].bind Zj)).map D.tup) (DR (!0) (λr=>DG (Z (.int 1))) (λ_=>Z J) D3)) r,(Za Zu (DR (!0) (λ_=>Z J) (λr=>DG (HA (Z (.int 1)))) D3) (λr=>(Ze (#[Zw (Ze ((Z []).bind Zj))].bind Zj)).map D.tup)) r].bind Zj)))) r) r
def dy:Ay:=λr=>Zv ((Za Ar (!2) (Za ZS (!1) (~~~17))) r)
def vm:Ay:=λr=>.next r
def Uh:=dy >>> vm
def vn:=vj >>> Uh
def vo:=vi >>> vn
def dz:=vh >>> vo
def vr:Ay:=dz
def Qe:=AO 2 3 vr
def Ui:AB:=(Za Bu (!0) (!1))
def Uj:Ay:=λr=>Zd (Zv ((Ze (#[Z (.str "refused"),Zw ((Zn 1 [0] (λr=>(#[Z (.int 8)].bind Zj).bind EH) (Zc 0) (λ_=>Z J') Ui) r),Z (.bl J')].bind Zj)).map D.tup)) ∅
def Qf:=AO 1 1 Uj
def Uk:AB:=(Za Zu (!1) (λr=>(Ze (#[Bb r 0].bind Zj)).map D.tup))
def Qg:Ay:=λr=>Zd (Z0 3 ((Za Zu (!3) (λr=>Zw ((Zn 1 [4] (λr=>(#[(Za Zu (Zk Zr #v[(Za Ar (!2) (~~~0)) r]) (~~~1)) r].bind Zj).bind EH) (Zc 0) (λ_=>Z J') Uk) r))) r) r) ∅
def Qh:Ay:=λr=>Zd (Z0 3 (Zw (Ze ((Z []).bind Zj))) r) (λr=>Zd ((Z4 (λr=>(BI r 1).bind Zs) (Zc 4) Qg) r) (λr=>Zd (Z0 1 (Bb r 3) r) ∅))
def Ul:Ay:=λr=>Zd (Z0 1 (Zw (Ze (#[(Ze ((Z []).bind Zj)).map D.tup].bind Zj))) r) (λr=>Zd ((Z4 (λr=>(BI r 0).bind Zs) (Zc 2) Qh) r) (λr=>Zd (Zv (Bb r 1)) ∅))
def Um:=AO 1 5 Ul
def dA:Ay:=λr=>Zd (Zv (Cn (Cz (AE ((Zi HV #v[0]) r)) (AE ((Zi IT #v[0]) r))))) ∅
def NT:=AO 1 1 dA
def dB:Ay:=λr=>Zd (ZO (Gb (AU r 0)) (Zd (Zv ((Ze (#[Z (.int 0),Z (.int 0)].bind Zj)).map D.tup)) ∅) (.next r)) (λr=>Zd (ZO (ZM ((Zi HV #v[0]) r)) (Zd (Zv ((Ze (#[Z (.int 1),Bb r 0].bind Zj)).map D.tup)) ∅) (.next r)) (λr=>Zd (Zv ((Ze (#[Z (.int 2),Bb r 0].bind Zj)).map D.tup)) ∅))
def Qi:=AO 1 1 dB
def Uo:AB:=λr=>(Ze (#[(Zi IU #v[0,1]) r,(Zi IU #v[0,2]) r].bind Zj)).map D.tup
def dC:Ay:=λr=>Zd (JJ ((HL (λr=>Zw ((Zn 1 [1,2] (λr=>(BI r 0).bind Zs) (Zc 0) (λ_=>Z J') Uo) r))) r)) ∅
def Qj:=AO 3 3 dC
def NU:Ay:=λr=>Zd (Zv (Cn (DQ (AE ((Zi HV #v[1]) r)) (AE ((Nj Pd Pd (~~~0) (!1) (Zi P4 #v[0])) r))))) ∅
def Up:=AO 2 2 NU
def Qk:Ay:=λr=>Zd (Ge 4 ((Za Zu (~~~1) (Za ZS (Za Ar (!1) (Za Zu (~~~2) (!5))) (Za Ar (!4) (Za Iz (!5) (~~~1))))) r) r) ∅
def NX:Ay:=λr=>Zd (ZO (AE ((Za EW (!5) (~~~0)) r)) (Zd (Z0 9 ((Za ZS (Za Ar (!1) (Za Zu (Za Zu (~~~7) (Za EV (~~~7) (!5))) (!9))) (Za Ar (!4) (!5))) r) r) ∅) (.next r)) (λr=>Zd (Ge 8 ((Zi J3 #v[(Za Zu (!0) (Za EV (Za Ar (!1) (~~~2)) (Za ZS (Za Ar (!1) (~~~6)) (~~~2)))) r,(Za ZS (Za Zu (Za Ar (!1) (~~~7)) (Za EV (!5) (Za ZS (Za Ar (!1) (~~~8)) (~~~2)))) (~~~2)) r,9]) r) r) ∅)
def Ql:Ay:=λr=>Zd (Dg 8 (Ze ((Z []).bind Zj)) r) (λr=>Zd (Z0 9 ((Za ZS (Za Zu (!7) (Za Ar (!1) (~~~2))) (!2)) r) r) (λr=>Zd ((Z4 (λr=>(#[Bb r 3].bind Zj).bind EH) (Zc 5) NX) r) (λr=>Zd (Ge 6 ((Zk D5 #v[8]) r) r) ∅)))
def dE:Ay:=λr=>Z0 1 ((Zi HW #v[0,Z (.int 40)]) r) r
def dF:Ay:=λr=>Z0 2 ((Za Zu (~~~1) (Za ZS (Za Ar (!1) (~~~0)) (~~~6))) r) r
def dG:Ay:=λr=>Z0 3 ((Za Ar (λr=>Zw (Ze (#[Z (.int 2),Z (.int 1),Z (.int 3),Z (.int 2),Z (.int 3),Z (.int 4),Z (.int 2),Z (.int 3)].bind Zj))) (Za ZS (Za Ar (!1) (~~~1)) (~~~8))) r) r
def dH:Ay:=λr=>Dg 4 (Ze (#[Bb r 2].bind Zj)) r
def dI:Ay:=(Z4 (λr=>(#[Z (.int 1),Bb r 3].bind Zj).bind M5) (Zc 5) Qk)
def dJ:Ay:=λr=>Dg 6 (Ze ((Z []).bind Zj)) r
def dK:Ay:=(Z4 (λr=>(#[Bb r 2].bind Zj).bind EH) (Zc 7) Ql)
def dL:Ay:=λr=>C9 (DF r 6)
def vt:Ay:=λr=>.next r
def dM:=dL >>> vt
def dN:=dK >>> dM
def dO:=dJ >>> dN
def dP:=dI >>> dO
def dQ:=dH >>> dP
def dR:=dG >>> dQ
def dT:=dF >>> dR
def dU:=dE >>> dT
def dV:Ay:=dU
def Qm:=AO 1 10 dV
def Uq:AB:=(Zi Uc #v[(Za Ar (!1) (!0)) r,(Za Ar (!2) (!0)) r,(Za Ar (!3) (!0)) r])
def Ur:Ay:=λr=>Zd (Zv ((Zk D5 #v[Zw ((Zn 1 [0,1,2] (λr=>(#[(Zk Zr #v[1]) r].bind Zj).bind EH) (Zc 0) (λ_=>Z J') Uq) r)]) r)) ∅
def Us:=AO 3 3 Ur
def Ut:AB:=(Za ZS (Za Ar (!1) (!0)) (Za Zu (Zk Zr #v[(Za Ar (Za Ar (!2) (!0)) (~~~0)) r]) (~~~1)))
def Uu:Ay:=λr=>Zd (Z0 2 ((Zi HW #v[1,(Zk Zr #v[0]) r]) r) r) (λr=>Zd (Zv ((Zk D5 #v[Zw ((Zn 1 [2,0] (λr=>(#[(Zk Zr #v[0]) r].bind Zj).bind EH) (Zc 0) (λ_=>Z J') Ut) r)]) r)) ∅)
def NY:=AO 2 3 Uu
def Qn:AB:=(Za Ar (Za Ar (Za Ar (!1) (!0)) (Za ZS (Za Ar (!2) (!0)) (Zk Zr #v[(Za Ar (!1) (!0)) r]))) (~~~0))
def Uv:Ay:=λr=>Zd (Z0 2 ((Zi HW #v[1,Z (.int 6)]) r) r) (λr=>Zd (Z0 3 ((Zk D5 #v[Zw ((Zn 1 [0,2] (λr=>(#[(Zk Zr #v[0]) r].bind Zj).bind EH) (Zc 0) (λ_=>Z J') Qn) r)]) r) r) (λr=>Zd (Zv ((Ze (#[Bb r 3,(Za Ar (λr=>Zw (Ze (#[(Za Iz (Za ZS (Za Ar (!2) (~~~4)) (~~~7)) (~~~3)) r,(Za ZS (!1) (Za KC (~~~10) (~~~30))) r,(Za Iz (~~~0) (Za ZS (!1) (Za KC (~~~10) (~~~30)))) r,(Za ZS (Za Ar (!2) (~~~4)) (~~~2)) r].bind Zj))) (Za ZS (Za Ar (!2) (~~~5)) (~~~4))) r].bind Zj)).map D.tup)) ∅))
def Uw:=AO 2 4 Uv
def Le:Ay:=λr=>Zd (ZO (AE ((Za Ce (!2) (!3)) r)) (Zd (Zv ((Zi Ug #v[2,3]) r)) ∅) (.next r)) ∅
def Qo:Ay:=λr=>Zd ((Z4 (Fa (λr=>BI r 0) (λr=>BI r 1)) (Ch 2 (Zq (Zc 2) (Zq (Zc 3) Z9))) Le) r) (λr=>Zd (Zv (Z (.bl O'))) ∅)
def Ux:=AO 2 4 Qo
def Uy:AB:=(Zi Qi #v[0])
def dW:Ay:=λr=>Zd (Zv ((Zk D5 #v[Zw ((Zn 1 [] (λr=>(BI r 0).bind Zs) (Zc 0) (λ_=>Z J') Uy) r)]) r)) ∅
def Mj:=AO 1 1 dW
def Uz:AB:=(Zi NT #v[0])
def Ml:Ay:=λr=>Zd (ZO (ZG (ZM ((Zk CN #v[0,Z (.ty "tuple")]) r))) (Zd (Zv (Z (.bl O'))) ∅) (.next r)) (λr=>Zd (ZO (Cz (AE ((Za E7 (Zk Zr #v[0]) (~~~1)) r)) (AE ((Za EW (Zk Zr #v[0]) (~~~4)) r))) (Zd (Zv (Z (.bl O'))) ∅) (.next r)) (λr=>Zd (Zv ((Zk EI #v[Zw ((Zn 1 [] (λr=>(BI r 0).bind Zs) (Zc 0) (λ_=>Z J') Uz) r)]) r)) ∅))
def J4:=AO 1 1 Ml
def UA:AB:=(Zi Up #v[0,1])
def Lf:Ay:=λr=>Zd (ZO (Cz (ZG (ZM ((Zk CN #v[1,Z (.ty "tuple")]) r))) (AE ((Za Ce (Zk Zr #v[1]) (Zk Zr #v[0])) r))) (Zd (Zv (Z (.bl O'))) ∅) (.next r)) (λr=>Zd (Zv ((Zk EI #v[Zw ((Zn 2 [] (Fa (λr=>BI r 0) (λr=>BI r 1)) (Ch 2 (Zq (Zc 0) (Zq (Zc 1) Z9))) (λ_=>Z J') UA) r)]) r)) ∅)
def ZD:=AO 2 2 Lf
def Qp:AB:=(Zi Qj #v[1,(Za Ar (!2) (!0)) r,(Za Ar (!3) (!0)) r])
def dX:Ay:=λr=>Zd (C9 ((Zn 2 [1,2] (NG (λr=>BI r 0)) (Ch 2 (Zq (Zc 0) (Zq (Zc 1) Z9))) (λ_=>Z J') Qp) r)) ∅
def Qq:=AO 3 3 dX
def Qr:AB:=(Zi Qm #v[(Za Zu (Zi ZP #v[1,(Za Zu (~~~1) (!0)) r]) (Za EV (~~~1000) (!0))) r])
def Qs:AB:=(DR (!0) (λ_=>Z J) (λr=>DG (Z (.int 3))) D3)
def UB:Ay:=λr=>Z0 1 ((Za Ar (λr=>Zw (Ze (#[Z (.int 2),Z (.int 1),Z (.int 2),Z (.int 3),Z (.int 1),Z (.int 2),Z (.int 3),Z (.int 4)].bind Zj))) (Za ZS (Zi ZP #v[0,Z (.int 0)]) (~~~8))) r) r
def UC:Ay:=λr=>Dg 2 ((Zn 1 [0] (λr=>(#[Bb r 1].bind Zj).bind EH) (Zc 0) (λ_=>Z J') Qr) r) r
def UD:Ay:=λr=>ZO (AE ((Za Bu (!1) (~~~4)) r)) (Zd ((Hj 2 (λr=>Dg 2 ((Zn 1 [] (λr=>(BI r 2).bind Zs) (Zc 0) (λ_=>Z J') Qs) r) r)) r) ∅) (.next r)
def UE:Ay:=λr=>C9 (DF r 2)
def vz:Ay:=λr=>.next r
def UF:=UE >>> vz
def UG:=UD >>> UF
def UH:=UC >>> UG
def UI:=UB >>> UH
def UJ:Ay:=UI
def NZ:=AO 1 3 UJ
def N0:AB:=(Zi Us #v[0,4,2])
def Qt:AB:=λr=>Bb r 5
def Qu:Ay:=λr=>Zd (II 6 (AU r 4) ((Zi Qc #v[(Za DH (!3) (!4)) r]) r) r) ∅
def dY:Ay:=λr=>FO 3 (Z []) r
def UK:Ay:=(PQ 3 (λr=>(BI r 1).bind Zs) (Ch 2 (Zq (Zc 4) (Zq (Zc 5) Z9))) N0 Qt)
def dZ:Ay:=λr=>FO 6 (Z []) r
def UL:Ay:=(Hj 3 (Z4 (λr=>(BI r 3).bind El) (Zc 4) Qu))
def d3:Ay:=λr=>JJ (Hy r 6)
def vA:Ay:=λr=>.next r
def d5:=d3 >>> vA
def UM:=UL >>> d5
def UN:=dZ >>> UM
def UO:=UK >>> UN
def Qv:=dY >>> UO
def d6:Ay:=Qv
def Qw:=AO 3 7 d6
def UP:AB:=(Zi NS #v[0])
def d7:AB:=(Zk CN #v[0,Z (.ty "bool")])
def UQ:Ay:=λr=>Zd (ZO (Cz (ZG (ZM ((Zk CN #v[(Za Ar (!0) (!2)) r,Z (.ty "tuple")]) r))) (Cz (AE ((Za Ce (Zk Zr #v[(Za Ar (!0) (!2)) r]) (~~~2)) r)) (ZG (ZM ((Zk CN #v[(Za Ar (Za Ar (!0) (!2)) (~~~1)) r,Z (.ty "tuple")]) r))))) (Zd (Zv (Z (.bl O'))) ∅) (.next r)) (λr=>Zd (ZO (Cz (ZG (ZM ((Zk EI #v[Zw ((Zn 1 [] (λr=>((Za Ar (Za Ar (!0) (!2)) (~~~1)) r).bind Zs) (Zc 0) (λ_=>Z J') UP) r)]) r))) (ZM ((Zk KI #v[Zw ((Zn 1 [] (λr=>((Za Ar (Za Ar (!0) (!2)) (~~~0)) r).bind Zs) (Zc 0) (λ_=>Z J') d7) r)]) r))) (Zd (Zv (Z (.bl O'))) ∅) (.next r)) (λr=>Zd (ZO (Cz (AE ((Za (Dr J') (Za Ar (Za Ar (!0) (!2)) (~~~0)) (!1)) r)) (AE ((Za Ce (Za DH (!1) (Za Ar (Za Ar (!0) (!2)) (~~~0))) (Za Ar (Za Ar (!0) (!2)) (~~~1))) r))) (Zd (Zv (Z (.bl O'))) ∅) (.next r)) (λr=>Zd (ZO (DQ (AE ((Za EW (!2) (~~~0)) r)) (ZG (ZM ((Zi Ux #v[(Za Ar (Za Ar (!0) (Za Iz (!2) (~~~1))) (~~~0)) r,(Za Ar (Za Ar (!0) (!2)) (~~~0)) r]) r)))) (Zd (Zv (Z (.bl O'))) ∅) (.next r)) ∅)))
def UR:Ay:=λr=>Zd (ZO (Cz (ZG (ZM ((Zk CN #v[0,Z (.ty "list")]) r))) (AE ((Za Ce (Zk Zr #v[0]) (Zk FW #v[1])) r))) (Zd (Zv (Z (.bl O'))) ∅) (.next r)) (λr=>Zd ((Z4 (λr=>(#[(Zk Zr #v[0]) r].bind Zj).bind EH) (Zc 2) UQ) r) (λr=>Zd (Zv (Z (.bl J'))) ∅))
def Mm:=AO 2 3 UR
def US:AB:=(Zi J4 #v[0])
def N1:Ay:=λr=>Zd (Z0 6 ((DR (!3) (λr=>DG ((Za Zu (!4) (~~~1)) r)) (λ_=>Z J) D3) r) r) (λr=>Zd (JV (Nr (Nq 1 (λr=>(Ze (#[Bb r 4,Bb r 5].bind Zj)).map D.tup) (λr=>Bb r 6)) (!6) r) (λr=>Zd (Zv (Z (.bl O'))) ∅) ∅) ∅)
def ZN:Ay:=λr=>Zd (ZO (Cz (AE ((Za Ce (Zk Zr #v[3]) (Zk Zr #v[(Za Ar (!0) (~~~0)) r])) r)) (AE ((Za (Dr O') (Za Ar (!3) (~~~0)) (!2)) r))) (Zd (Zv (Z (.bl O'))) ∅) (.next r)) (λr=>Zd (II 2 ((Za Ar (!3) (~~~0)) r) (Z (.bl J')) r) (λr=>Zd ((Z4 (NG (λr=>BI r 3)) (Ch 2 (Zq (Zc 4) (Zq (Zc 5) Z9))) N1) r) ∅))
def N3:Ay:=λr=>ZO (ZG (ZM ((Zk EI #v[Zw ((Zn 1 [] (λr=>(BI r 0).bind Zs) (Zc 0) (λ_=>Z J') US) r)]) r))) (Zd (Zv (Z (.bl O'))) ∅) (.next r)
def Qx:Ay:=λr=>FO 1 (Z []) r
def Qy:Ay:=λr=>FO 2 (Z []) r
def Qz:Ay:=(Z4 (λr=>(BI r 0).bind Zs) (Zc 3) ZN)
def UT:Ay:=λr=>Zv (Z (.bl J'))
def vB:Ay:=λr=>.next r
def UU:=UT >>> vB
def QA:=Qz >>> UU
def QB:=Qy >>> QA
def QC:=Qx >>> QB
def N4:=N3 >>> QC
def N5:Ay:=N4
def IW:=AO 1 7 N5
def UV:Ay:=λr=>Zd (Zv ((Ze (#[(Zi Mj #v[(Za Ar (!0) (~~~0)) r]) r,(Za Ar (!0) (~~~1)) r].bind Zj)).map D.tup)) ∅
def QD:=AO 1 1 UV
def N6:Ay:=λr=>Zd (Zv (Cn (DQ (AE ((Zi ZD #v[(AU r 0).bind (Dc "Book" "axes"),1]) r)) (AE ((Za (Dr O') (!1) (λr=>(AU r 0).bind (Dc "Book" "tables"))) r))))) ∅
def IY:=AO 2 2 N6
def d8:Ay:=λr=>Zd (ZO (ZG (ZM ((Zk CN #v[0,Z (.ty "list")]) r))) (Zd (Zv (Z (.bl O'))) ∅) (.next r)) (λr=>Zd (ZO (Cz (AE ((Za E7 (Zk Zr #v[0]) (~~~1)) r)) (AE ((Za EW (Zk Zr #v[0]) (~~~40)) r))) (Zd (Zv (Z (.bl O'))) ∅) (.next r)) (λr=>Zd (Zv ((Zi IW #v[0]) r)) ∅))
def J5:=AO 1 1 d8
def UW:A5:=λs=>Zl (Cu (jT 2 (λr=>Cz (ZG (ZM ((DL "Book" "is_kept" IY (Co r 0) #[1]).map CY))) (AE ((Za Bu (!1) (Zi Lc #v[(AU r 0).bind (Dc "Book" "axes")])) r))) s) (Zl (.fail) ∅) (.next s)) (λs=>Zl (Fx (PY (Mh "Book" "tables" s (Cr s 0)) ((jE 0 (λr=>Bb r 1)) s) s) s) ∅)
def QE:=EL 2 2 UW
def N7:IS->O Ae:=λs=>D7 (jT 2 (λr=>Cz (ZG (ZM ((DL "Book" "is_kept" IY (Co r 0) #[1]).map CY))) (AE ((Za Bu (!1) (Zi Lc #v[(AU r 0).bind (Dc "Book" "axes")])) r))) s) (Hg (Zh (((jE 2 (λ_=>Z (.str "no kept grain that can be forgotten"))) s).map .val) (Z [])) "NoGrain") (J)
def J6:U IV->Gh->O Ae:=K8 2 2 N7
def UX:Ay:=λr=>Zd (ZO (ZG (ZM ((DL "Book" "is_kept" IY (Co r 0) #[1]).map CY))) (Zd (.fail) ∅) (.next r)) (λr=>Zd (C9 ((FN ID #v[(Za DH (λr=>(AU r 0).bind (Dc "Book" "tables")) (!1)) r]) r)) ∅)
def N8:=AO 2 2 UX
def N9:IS->O Ae:=λs=>D7 (jT 2 (λr=>ZG (ZM ((DL "Book" "is_kept" IY (Co r 0) #[1]).map CY))) s) (Hg (Zh (((jE 2 (λ_=>Z (.str "no kept grain"))) s).map .val) (Z [])) "NoGrain") (J)
def J7:U IV->Gh->O Ae:=K8 2 2 N9
def J8:Ay:=λr=>Zd (ZO (Cz (ZG (ZM (AU r 1))) (AE ((Za Ce (Za Ar (!1) (λr=>HA (Z (.int 1)))) (!2)) r))) (Zd (Ge 1 (Bb r 2) r) ∅) (.next r)) ∅
def UY:Ay:=λr=>Zd (Dg 1 (Ze ((Z []).bind Zj)) r) (λr=>Zd ((Z4 (λr=>(Zw ((KU Mj (!0)) r)).bind Zs) (Zc 2) J8) r) (λr=>Zd (C9 (DF r 1)) ∅))
def Oa:=AO 1 3 UY
def QF:AB:=(Zi J5 #v[0])
def d9:Ay:=λr=>Zd (ZO (ZG (ZM ((Zk CN #v[0,Z (.ty "list")]) r))) (Zd (Zv (Z (.bl O'))) ∅) (.next r)) (λr=>Zd (ZO (Cz (AE ((Za E7 (Zk Zr #v[0]) (~~~1)) r)) (AE ((Za EW (Zk Zr #v[0]) (~~~4)) r))) (Zd (Zv (Z (.bl O'))) ∅) (.next r)) (λr=>Zd (Zv ((Zk EI #v[Zw ((Zn 1 [] (λr=>(BI r 0).bind Zs) (Zc 0) (λ_=>Z J') QF) r)]) r)) ∅))
def Ob:=AO 1 1 d9
def eb:AB:=λr=>(Ze (#[Bb r 0].bind Zj)).map D.tup
def ed:AB:=(Za Ar (!0) (~~~0))
def UZ:Ay:=λr=>Zd (C9 ((Zn 1 [] (λr=>((Zi Oa #v[Zw ((Zn 1 [] (λr=>(BI r 0).bind Zs) (Zc 0) (λ_=>Z J') eb) r)]) r).bind Zs) (Zc 0) (λ_=>Z J') ed) r)) ∅
def U0:=AO 1 1 UZ
def Oc:AB:=(Za DH (!0) (!1))
def Od:Ay:=λr=>Zd (ZO (ZM ((Zi P7 #v[0,3]) r)) (Zd (Z0 5 ((Zk D5 #v[Zw ((Zn 2 [] (Fa (λr=>BI r 0) (λr=>BI r 3)) (Ch 2 (Zq (Zc 0) (Zq (Zc 1) Z9))) (λ_=>Z J') Oc) r)]) r) r) (λr=>Zd (II 2 (AU r 5) (MZ (AE ((Za (Dr O') (!5) (!2)) r)) ((Zi NQ #v[(Za DH (!2) (!5)) r,4]) r) (Bb r 4)) r) ∅)) (.next r)) ∅
def U1:AB:=λr=>(Ze (#[Bb r 0,(Za DH (!1) (!0)) r].bind Zj)).map D.tup
def U2:Ay:=λr=>Zd (FO 2 (Z []) r) (λr=>Zd ((Z4 (λr=>(BI r 1).bind Zs) (Ch 2 (Zq (Zc 3) (Zq (Zc 4) Z9))) Od) r) (λr=>Zd (C9 ((Zn 1 [2] (λr=>((Zi Oa #v[Zw ((FN KY #v[2]) r)]) r).bind Zs) (Zc 0) (λ_=>Z J') U1) r)) ∅))
def U3:=AO 2 6 U2
def U4:VE->O Bool:=λr=>AE ((Za Ce (Za ND (!1) (!0)) (Za DH (!2) (!0))) r)
def ee:AB:=λr=>Bb r 0
def U5:VE->O Bool:=λr=>AE ((Za (Dr J') (!0) (!1)) r)
def ef:AB:=λr=>Bb r 0
def U6:Ay:=λr=>FO 2 ((HL (!0)) r) r
def U7:Ay:=λr=>FO 3 ((HL (!1)) r) r
def U8:Ay:=(Hj 2 (λr=>Dg 4 ((Zn 1 [3,2] (λr=>(BI r 2).bind El) (Zc 0) U4 ee) r) r))
def U9:Ay:=(Hj 3 (λr=>C9 ((Fn Oa #v[(Za Zu (!4) (λr=>Zw ((Zn 1 [2] (λr=>(BI r 3).bind El) (Zc 0) U5 ef) r))) r]) r)))
def vD:Ay:=λr=>.next r
def eg:=U9 >>> vD
def eo:=U8 >>> eg
def et:=U7 >>> eo
def eu:=U6 >>> et
def Va:Ay:=eu
def Vb:=AO 2 5 Va
def Vc:VE->O Bool:=λr=>AE ((Za Bu (Zi IU #v[0,1]) (!2)) r)
def Vd:AB:=(Za Ar (!0) (~~~0))
def Ve:Ay:=λr=>Zd (ZO (DQ (ZG (Gb (AU r 2))) (ZG (ZM ((Zi NT #v[2]) r)))) (Zd (C9 (Ze ((Z []).bind Zj))) ∅) (.next r)) (λr=>Zd (C9 ((Fn U0 #v[Zw ((Zn 1 [1,2] (λr=>(BI r 0).bind Zs) (Zc 0) Vc Vd) r)]) r)) ∅)
def Vf:=AO 3 3 Ve
def Vg:AB:=λr=>(Ze (#[Bb r 0,(Zi P5 #v[Zw (Ze (#[Bb r 1].bind Zj))]) r].bind Zj)).map D.tup
def Vh:Ay:=λr=>Zd (Z0 3 (Zw ((Zn 2 [] (λr=>(BI r 1).bind Zs) (Ch 2 (Zq (Zc 0) (Zq (Zc 1) Z9))) (λ_=>Z J') Vg) r)) r) (λr=>Zd (C9 ((Fn U3 #v[(Zi Qq #v[0,(Zi Lc #v[0]) r,2]) r,3]) r)) ∅)
def QG:=AO 3 4 Vh
def Vi:AB:=λr=>(Ze (#[Bb r 1,Bb r 0].bind Zj)).map D.tup
def Vj:Ay:=λr=>Zd (L7 2 ((Zn 1 [3] (λr=>((Zi Vb #v[(Za DH (!0) (!3)) r,(Za DH (!1) (!3)) r]) r).bind Zs) (Zc 0) (λ_=>Z J') Vi) r) r) ∅
def Vk:Ay:=λr=>Zd (Dg 2 (Ze ((Z []).bind Zj)) r) (λr=>Zd ((Z4 (λr=>(Zw (IM (AU r 0))).bind Zs) (Zc 3) Vj) r) (λr=>Zd (C9 (DF r 2)) ∅))
def Vl:=AO 2 4 Vk
def Vm:Ay:=λr=>Zd (Zv ((Za EW (Zk Zr #v[(Zi Vf #v[0,1,2]) r]) (~~~0)) r)) ∅
def Vn:=AO 3 3 Vm
def QH:AB:=λr=>(Ze (#[Bb r 0,(Zi QG #v[1,2,0]) r].bind Zj)).map D.tup
def Vo:Ay:=λr=>Zd (JJ ((HL (λr=>Zw ((Zn 1 [0,1] (λr=>(BI r 2).bind Zs) (Zc 0) (λ_=>Z J') QH) r))) r)) ∅
def QI:=AO 3 3 Vo
def Oe:A5:=λs=>Cu (jT 2 (λr=>ZG (ZM ((Zi ZD #v[(AU r 0).bind (Dc "Book" "axes"),1]) r))) s) (Zl (.fail) ∅) (.next s)
def Of:A5:=λs=>Cu (jT 2 (λr=>AE ((Za (Dr J') (!1) (λr=>(AU r 0).bind (Dc "Book" "tables"))) r)) s) (Zl (Cu (jT 2 (λr=>AE ((Za KD (Zk FW #v[(AU r 0).bind (Dc "Book" "tables")]) (~~~12)) r)) s) (Zl (.fail) ∅) (.next s)) (λs=>Zl (PX (λs=>Mh "Book" "tables" s (Cr s 0)) ((jE 0 (λr=>Bb r 1)) s) ((jE 1 (Zi QG #v[(AU r 0).bind (Dc "Book" "axes"),(AU r 0).bind (Dc "Book" "standing"),1])) s) s) ∅)) (.next s)
def eA:A5:=λs=>CH (xD ((jE 2 (Zk Zr #v[(Za DH (λr=>(AU r 0).bind (Dc "Book" "tables")) (!1)) r])) s) s)
def vE:A5:=λs=>.next s
def Vp:=eA <<< vE
def Vq:=Of <<< Vp
def Vr:=Oe <<< Vq
def Og:A5:=Vr
def Oh:=EL 2 2 Og
def Oi:IS->O Ae:=λs=>D7 (jT 2 (λr=>ZG (ZM ((Zi ZD #v[(AU r 0).bind (Dc "Book" "axes"),1]) r))) s) (Hg (Zh (((jE 2 (λ_=>Z (.str "no grain of the ladders"))) s).map .val) (Z [])) "NoGrain") (D7 (jT 2 (λr=>AE ((Za (Dr J') (!1) (λr=>(AU r 0).bind (Dc "Book" "tables"))) r)) s) (D7 (jT 2 (λr=>AE ((Za KD (Zk FW #v[(AU r 0).bind (Dc "Book" "tables")]) (~~~12)) r)) s) (Hg (Zh (((jE 2 (λ_=>Z (.str "twelve tables are kept at most"))) s).map .val) (Z [])) "TooMuch") (J)) (J))
def J9:U IV->Gh->O Ae:=K8 2 2 Oi
def QJ:AB:=(Zi Vn #v[0,Z (.int 0),1])
def Vs:Ay:=λr=>Zd (ZO (Cz (ZG (ZM ((Zk CN #v[1,Z (.ty "tuple")]) r))) (AE ((Za Ce (Zk Zr #v[1]) (Zk Zr #v[0])) r))) (Zd (Zv (Z (.bl O'))) ∅) (.next r)) (λr=>Zd (Zv ((Zk EI #v[Zw ((Zn 2 [] (Fa (λr=>BI r 0) (λr=>BI r 1)) (Ch 2 (Zq (Zc 0) (Zq (Zc 1) Z9))) (λ_=>Z J') QJ) r)]) r)) ∅)
def Vt:=AO 2 2 Vs
def eB:AB:=λr=>Zw ((FN ID #v[0]) r)
def Vu:A5:=λs=>Cu (jT 2 (λr=>ZG (ZM ((Zi Ob #v[1]) r))) s) (Zl (.fail) ∅) (.next s)
def Vv:A5:=λs=>GJ "Book" "axes" (λs=>Cr s 0) (xF .l (jG 1 (Zn 1 [] (λr=>(BI r 1).bind Zs) (Zc 0) (λ_=>Z J') eB) s) s) s
def Vw:A5:=λs=>GJ "Book" "standing" (λs=>Cr s 0) (xF .l (jG 2 (λr=>Ze ((Z []).bind Zj)) s) s) s
def Vx:A5:=λs=>GJ "Book" "tables" (λs=>Cr s 0) (xC .d (jG 1 (Hx QI #v[(AU r 0).bind (Dc "Book" "axes"),Zw (Ze ((Z []).bind Zj)),Zw (Ze (#[(Zi Lc #v[(AU r 0).bind (Dc "Book" "axes")]) r].bind Zj))]) s) s) s
def eC:A5:=λs=>.next s
def eE:=Vx <<< eC
def eF:=Vw <<< eE
def eG:=Vv <<< eF
def eH:=Vu <<< eG
def QK:A5:=eH
def Vy:=EL 2 2 QK
def Vz:A5:=λs=>Dd 1 (xP (Mh "Book" "tables" s (Cr s 0)) s) s
def VA:A5:=λs=>GJ "Book" "tables" (λs=>Cr s 0) (xC .d (jG 1 (Hx QI #v[(AU r 0).bind (Dc "Book" "axes"),(AU r 0).bind (Dc "Book" "standing"),Zw ((FN KY #v[1]) r)]) s) s) s
def VB:A5:=λs=>CH (xC .l (jG 2 (Fn Vl #v[1,(AU r 0).bind (Dc "Book" "tables")]) s) s)
def vF:A5:=λs=>.next s
def eI:=VB <<< vF
def eJ:=VA <<< eI
def eK:=Vz <<< eJ
def VC:A5:=eK
def VD:=EL 1 2 VC
def eM:A5:=λs=>Zl (Dd 5 (xF .l (jG 2 (λr=>Ze (#[(Gj 4 CS (Gk "NoGrain")) r,(Gj 4 CS (Gk "TooMuch")) r,(Gj 4 CS (Gk "NoLadder")) r,(Gj 4 CS (Gk "NoValue")) r].bind Zj)) s) s) s) (λs=>Zl (Dd 5 (xD ((jE 0 (Za Zu (!5) (λr=>Zw (Ze (#[(Gj 4 CS (Gk "NoRow")) r,(Gj 4 CS (Gk "NoSuch")) r,(Gj 4 CS (Gk "NoPick")) r].bind Zj))))) s) s) s) (λs=>Zl (CH (xD ((jE 0 (λr=>(Ze (#[Z (.str "refused"),(Za Zu (!5) (λr=>Zw (Ze (#[(Gj 4 CS (Gk "NoText")) r].bind Zj)))) r,(Gj 4 CS (Gk "ValueError")) r].bind Zj)).map D.tup)) s) s)) ∅))
def VF:A5:=λs=>Dd 3 (xD ((jE 2 (λ_=>Z .non)) s) s) s
def Z8:A5:=λs=>IQ CS 4 (D7 (jT 2 (λr=>AE ((Za Bu (!1) (~~~0)) r)) s) (Hh "Book" "keep" J9 (Cr s 0) (Zh (((jE 0 (λr=>Bb r 2)) s).map .val) (Z [])) s) (D7 (jT 2 (λr=>AE ((Za Bu (!1) (~~~1)) r)) s) (Hh "Book" "forget" J6 (Cr s 0) (Zh (((jE 0 (λr=>Bb r 2)) s).map .val) (Z [])) s) (D7 (jT 2 (λr=>AE ((Za Bu (!1) (~~~2)) r)) s) (Hh "Book" "table" J7 (Cr s 0) (Zh (((jE 0 (λr=>Bb r 2)) s).map .val) (Z [])) s) (J)))) (Zl (Cu (jT 2 (λr=>AE ((Za Bu (!1) (~~~0)) r)) s) (Zl (Dd 3 (Gq "Book" "keep" Oh (Cr s 0) (Zh (((jE 0 (λr=>Bb r 2)) s).map .val) (Z [])) s) s) ∅) (.next s)) (λs=>Zl (Cu (jT 2 (λr=>AE ((Za Bu (!1) (~~~1)) r)) s) (Zl (Dd 3 (Gq "Book" "forget" QE (Cr s 0) (Zh (((jE 0 (λr=>Bb r 2)) s).map .val) (Z [])) s) s) ∅) (.next s)) (λs=>Zl (Cu (jT 2 (λr=>AE ((Za Bu (!1) (~~~2)) r)) s) (Zl (Dd 3 (xD ((jE 1 (λr=>(DL "Book" "table" N8 (Co r 0) #[2]).map CY)) s) s) s) ∅) (.next s)) ∅))) eM s
def VG:A5:=λs=>CH (xD ((jE 0 (λr=>(Ze (#[Z (.str "told"),Bb r 3].bind Zj)).map D.tup)) s) s)
def vG:A5:=λs=>.next s
def eO:=VG <<< vG
def QL:=Z8 <<< eO
def QM:=VF <<< QL
def Mn:A5:=QM
def ZJ:=EL 3 6 Mn
def VH:Ay:=λr=>Zd (ZO (Cz (ZG (ZM ((Zk CN #v[1,Z (.ty "tuple")]) r))) (AE ((Za Ce (Zk Zr #v[1]) (~~~3)) r))) (Zd (Zv (Z (.bl O'))) ∅) (.next r)) (λr=>Zd (ZO (DQ (AE ((Za Ce (Za Ar (!1) (~~~0)) (λ_=>Z (.str "+"))) r)) (AE ((Za Ce (Za Ar (!1) (~~~0)) (λ_=>Z (.str "-"))) r))) (Zd (Zv (Z (.bl O'))) ∅) (.next r)) (λr=>Zd (Zv (Cn (DQ (AE ((Zi Vt #v[0,(Za Ar (!1) (~~~1)) r]) r)) (AE ((Zi HV #v[(Za Ar (!1) (~~~2)) r]) r))))) ∅))
def QN:=AO 2 2 VH
def VI:AB:=(~~~0)
def VJ:A5:=λs=>Dd 7 (Fy ZJ (Zh ((Cr s 0).map .cel) (Zh (((jE 0 (λr=>Bb r 4)) s).map .val) (Zh (((jE 0 (λr=>Bb r 5)) s).map .val) (Z [])))) s) s
def HX:A5:=λs=>Cu (jT 2 (λr=>Cz (ZG (ZM (AU r 6))) (Cz (DQ (AE ((Za EW (!4) (~~~0)) r)) (AE ((Za (Db J') (!5) (!3)) r))) (DQ (AE ((Za Bu (!4) (~~~1)) r)) (AE ((Za Bu (!5) (Zk D5 #v[Zw ((Zn 1 [] (λr=>(BI r 1).bind Zs) (Zc 0) (λ_=>Z J') VI) r)])) r))))) s) (Zl (CH (xD ((jE 2 (Za Bu (!7) (Zi Qf #v[Z (.int 0)]))) s) s)) ∅) (.next s)
def Lg:A5:=λs=>Cu (jT 2 (λr=>DQ (AE ((Za Bu (!4) (~~~0)) r)) (DQ (AE ((Za (Db J') (!5) (!3)) r)) (AE ((Za Bu (Zk Zr #v[3]) (~~~12)) r)))) s) (Zl (CH (xD ((jE 2 (Za Bu (!7) (Zi Qf #v[Z (.int 1)]))) s) s)) ∅) (.next s)
def eP:A5:=λs=>Cu (jT 2 (λr=>AE ((Za Ce (Za Ar (!7) (~~~0)) (λ_=>Z (.str "told"))) r)) s) (Zl (CH (xD ((jE 2 (λ_=>Z (.bl O'))) s) s)) ∅) (.next s)
def VL:A5:=λs=>Dd 8 (xF .d (jG 2 (Hx Qw #v[1,2,5]) s) s) s
def Oj:A5:=λs=>Cu (jT 2 (λr=>AE ((Za Bu (!4) (~~~0)) r)) s) (Zl (Cu (jT 2 (λr=>AE ((Za (Db J') (!5) (!3)) r)) s) (Zl (Fx (K6 (Cr s 3) ((jE 0 (λr=>Bb r 5)) s) s) s) ∅) (.next s)) (λs=>Zl (CH (xD ((jE 2 (λr=>Cn (DQ (AE ((Zi NS #v[(Za Ar (!7) (~~~1)) r]) r)) (AE ((Za Bu (Za Ar (!7) (~~~1)) (Zk FW #v[8])) r))))) s) s)) ∅)) (.next s)
def VM:A5:=λs=>Cu (jT 2 (λr=>AE ((Za Bu (!4) (~~~1)) r)) s) (Zl (Fx (NI (Cr s 3) ((jE 0 (λr=>Bb r 5)) s) s) s) (λs=>Zl (CH (xD ((jE 2 (λr=>Cn (Gb ((Za Ar (!7) (~~~1)) r)))) s) s)) ∅)) (.next s)
def eQ:A5:=λs=>CH (xD ((jE 2 (Zi Mm #v[(Za Ar (!7) (~~~1)) r,8])) s) s)
def vH:A5:=λs=>.next s
def VN:=eQ <<< vH
def QO:=VM <<< VN
def Lh:=Oj <<< QO
def Ol:=VL <<< Lh
def Om:=eP <<< Ol
def Li:=Lg <<< Om
def ZK:=HX <<< Li
def eR:=VJ <<< ZK
def VO:A5:=eR
def IZ:=EL 7 9 VO
def QP:A5:=λs=>Zl (Cu (jT 2 (λr=>ZG (ZM ((Zi QN #v[0,4]) r))) s) (Zl (.fail) ∅) (.next s)) (λs=>Zl (Cu (jT 2 (λr=>AE ((Za Bu (Za Ar (!4) (~~~0)) (λ_=>Z (.str "+"))) r)) s) (Zl (Fx (Fy T9 (Zh ((Cr s 3).map .cel) (Zh (((jE 2 (λr=>(Ze (#[(Za Ar (!4) (~~~1)) r,(Za Ar (!4) (~~~2)) r].bind Zj)).map D.tup)) s).map .val) (Z []))) s) s) ∅) (Zl (Fx (Fy cL (Zh ((Cr s 3).map .cel) (Zh (((jE 2 (λr=>(Ze (#[(Za Ar (!4) (~~~1)) r,(Za Ar (!4) (~~~2)) r].bind Zj)).map D.tup)) s).map .val) (Z []))) s) s) ∅)) ∅)
def VP:A5:=λs=>Dd 3 (xC .l (jG 2 (FN ID #v[1]) s) s) s
def VQ:A5:=λs=>K5 4 QP (((jE 0 (λr=>Bb r 2)) s).bind Mi) s
def VR:A5:=λs=>CH (xF .l (jG 2 (KU QD (!3)) s) s)
def vI:A5:=λs=>.next s
def eS:=VR <<< vI
def eT:=VQ <<< eS
def eU:=VP <<< eT
def VS:A5:=eU
def VT:=EL 3 5 VS
def VU:A5:=λs=>Zl (GJ "Book" "standing" (λs=>Cr s 0) (Fy VT (Zh (((jE 1 (λr=>(AU r 0).bind (Dc "Book" "axes"))) s).map .val) (Zh (((jE 1 (λr=>(AU r 0).bind (Dc "Book" "standing"))) s).map .val) (Zh (((jE 0 (λr=>Bb r 1)) s).map .val) (Z [])))) s) s) (λs=>Zl (CH (Gq "Book" "tables_renewed" VD (Cr s 0) (Z []) s)) ∅)
def VV:=EL 2 2 VU
def eV:AB:=λr=>Zw ((FN ID #v[0]) r)
def QQ:AB:=(Zi Uw #v[1,(Za Zu (Za JQ (Zi ZP #v[2,Z (.int 5)]) (Za Zu (!0) (~~~1))) (!0)) r])
def VW:AB:=(Za Zu (λr=>(Ze (#[Z (.str "+")].bind Zj)).map D.tup) (!0))
def eW:AB:=(~~~0)
def QR:A5:=λs=>Zl (K9 (Fy IZ (Zh ((Cr s 2).map .cel) (Zh (((jE 0 (λr=>Bb r 1)) s).map .val) (Zh (((jE 0 (λr=>Bb r 3)) s).map .val) (Zh ((Cr s 4).map .cel) (Zh (((jE 2 (~~~0)) s).map .val) (Zh (((jE 0 (λr=>Bb r 5)) s).map .val) (Zh (((jE 2 (λ_=>Z (.bl J'))) s).map .val) (Z [])))))))) s) (λs=>Zl (CH (xD ((jE 2 (λ_=>Z (.bl O'))) s) s)) ∅) ∅ s) ∅
def QS:A5:=λs=>Zl (Dd 7 (xD ((jE 2 (Za Zu (Zi ZP #v[0,(Za Zu (~~~7) (!6)) r]) (Za EV (~~~7) (!6)))) s) s) s) (λs=>Zl (Dd 8 (xD ((jE 0 (Zi HW #v[7,Z (.int 5)])) s) s) s) (λs=>Zl (Dd 5 (xD ((jE 2 (Zi NY #v[1,7])) s) s) s) (λs=>Zl (Cu (jT 2 (λr=>AE ((Za Bu (Za ZS (Za Ar (!8) (~~~0)) (~~~3)) (~~~0)) r)) s) (Zl (Dd 5 (xD ((jE 2 (Za Ar (!4) (Za ZS (Za Ar (!8) (~~~1)) (Zk Zr #v[4])))) s) s) s) ∅) (.next s)) (λs=>Zl (Dd 9 (xD ((jE 2 (Za EW (Za ZS (Za Ar (!8) (~~~2)) (~~~4)) (~~~0))) s) s) s) (λs=>Zl (Cu (jT 2 (λr=>ZG (ZM (AU r 9))) s) (Zl (Dd 5 (xD ((jE 0 (Zi Qe #v[5,(Za Ar (!8) (~~~3)) r])) s) s) s) ∅) (.next s)) (λs=>Zl (K9 (Fy IZ (Zh ((Cr s 2).map .cel) (Zh (((jE 0 (λr=>Bb r 1)) s).map .val) (Zh (((jE 0 (λr=>Bb r 3)) s).map .val) (Zh ((Cr s 4).map .cel) (Zh (((jE 2 (Za ZS (Za Ar (!8) (~~~4)) (~~~3))) s).map .val) (Zh (((jE 0 (λr=>Bb r 5)) s).map .val) (Zh (((jE 0 (λr=>Bb r 9)) s).map .val) (Z [])))))))) s) (λs=>Zl (CH (xD ((jE 2 (λ_=>Z (.bl O'))) s) s)) ∅) ∅ s) (λs=>Zl (Cu (jT 2 (λr=>AE ((Za Ce (λr=>(DL "Book" "kept" P8 (Co r 2) (Z [])).map CY) (λr=>Zw (IM (AU r 4)))) r)) s) (Zl (CH (xD ((jE 2 (λ_=>Z (.bl O'))) s) s)) ∅) (.next s)) ∅)))))))
def VX:AB:=(Zi Mm #v[(DL "Book" "table" N8 (Co r 1) #[0]).map CY,(Zi Qw #v[2,3,0]) r])
def VY:A5:=λs=>Dd 1 (xF .l (jG 1 (Fn NZ #v[0]) s) s) s
def VZ:A5:=λs=>Dd 2 (PU "Book" Vy (Zh (((jE 1 (λr=>Zw ((Zn 1 [] (λr=>(BI r 1).bind Zs) (Zc 0) (λ_=>Z J') eV) r))) s).map .val) (Z [])) s) s
def V0:A5:=λs=>Dd 3 (xF .l (jG 2 (Zn 1 [1,0] (λr=>(#[(Za ZS (Zi ZP #v[0,Z (.int 5)]) (~~~9)) r].bind Zj).bind EH) (Zc 0) (λ_=>Z J') QQ) s) s) s
def V1:A5:=λs=>Fx (Gq "Book" "pour" VV (Cr s 2) (Zh (((jE 1 (λr=>Zw ((Zn 1 [] (λr=>(BI r 3).bind Zs) (Zc 0) (λ_=>Z J') VW) r))) s).map .val) (Z [])) s) s
def V2:A5:=λs=>Dd 4 (xC .l (jG 2 (λr=>Ze (#[(Zk D5 #v[Zw ((Zn 1 [] (λr=>(BI r 1).bind Zs) (Zc 0) (λ_=>Z J') eW) r)]) r].bind Zj)) s) s) s
def QT:A5:=λs=>Cu (jT 2 (λr=>AE ((Za Bu (Za ZS (Zi ZP #v[0,Z (.int 6)]) (~~~4)) (~~~1)) r)) s) (Zl (K5 5 QR (((jE 1 (DR (λr=>Zw ((PJ (Zi Um #v[1]) (λ_=>Z J) (λ_=>Z J) (λr=>HA (Z (.int 1)))) r)) (λ_=>Z J) (λr=>DG (Z (.int 16))) D3)) s).bind Mi) s) ∅) (.next s)
def V3:A5:=λs=>K5 6 QS (((jE 2 (Zk L0 #v[(Zk Zr #v[(DR (!0) (λr=>DG (Z (.int 7))) (λr=>DG (Z (.int 27))) D3) r]) r,Z (.int 3)])) s).bind PR) s
def V4:A5:=λs=>CH (xD ((jE 2 (Zk EI #v[Zw ((Zn 1 [2,1,3] (λr=>(BI r 4).bind Zs) (Zc 0) (λ_=>Z J') VX) r)])) s) s)
def vJ:A5:=λs=>.next s
def eX:=V4 <<< vJ
def eY:=V3 <<< eX
def eZ:=QT <<< eY
def e5:=V2 <<< eZ
def e8:=V1 <<< e5
def e9:=V0 <<< e8
def fg:=VZ <<< e9
def fh:=VY <<< fg
def V5:A5:=fh
def fj:=EL 1 10 V5
def V6:A5:=λs=>Dd 7 (xD ((jE 2 (Za Zu (Zi ZP #v[0,(Za Zu (~~~7) (!6)) r]) (Za EV (~~~7) (!6)))) s) s) s
def V7:A5:=λs=>Dd 8 (xD ((jE 0 (Zi HW #v[7,Z (.int 5)])) s) s) s
def V8:A5:=λs=>Dd 5 (xD ((jE 2 (Zi NY #v[1,7])) s) s) s
def QU:A5:=λs=>Cu (jT 2 (λr=>AE ((Za Bu (Za ZS (Za Ar (!8) (~~~0)) (~~~3)) (~~~0)) r)) s) (Zl (Dd 5 (xD ((jE 2 (Za Ar (!4) (Za ZS (Za Ar (!8) (~~~1)) (Zk Zr #v[4])))) s) s) s) ∅) (.next s)
def V9:A5:=λs=>Dd 9 (xD ((jE 2 (Za EW (Za ZS (Za Ar (!8) (~~~2)) (~~~4)) (~~~0))) s) s) s
def QV:A5:=λs=>Cu (jT 2 (λr=>ZG (ZM (AU r 9))) s) (Zl (Dd 5 (xD ((jE 0 (Zi Qe #v[5,(Za Ar (!8) (~~~3)) r])) s) s) s) ∅) (.next s)
def Wa:A5:=λs=>K9 (Fy IZ (Zh ((Cr s 2).map .cel) (Zh (((jE 0 (λr=>Bb r 1)) s).map .val) (Zh (((jE 0 (λr=>Bb r 3)) s).map .val) (Zh ((Cr s 4).map .cel) (Zh (((jE 2 (Za ZS (Za Ar (!8) (~~~4)) (~~~3))) s).map .val) (Zh (((jE 0 (λr=>Bb r 5)) s).map .val) (Zh (((jE 0 (λr=>Bb r 9)) s).map .val) (Z [])))))))) s) (λs=>Zl (CH (xD ((jE 2 (λ_=>Z (.bl O'))) s) s)) ∅) ∅ s
def Wb:A5:=λs=>Cu (jT 2 (λr=>AE ((Za Ce (λr=>(DL "Book" "kept" P8 (Co r 2) (Z [])).map CY) (λr=>Zw (IM (AU r 4)))) r)) s) (Zl (CH (xD ((jE 2 (λ_=>Z (.bl O'))) s) s)) ∅) (.next s)
def fm:A5:=λs=>.next s
def fq:=Wb <<< fm
def ft:=Wa <<< fq
def fu:=QV <<< ft
def fw:=V9 <<< fu
def fy:=QU <<< fw
def fA:=V8 <<< fy
def fB:=V7 <<< fA
def fC:=V6 <<< fB
end
local macro_rules | `(#v[$x])=>`(.val (.lst $x))
local macro_rules | `(‹$x›)=>`(.val (.int $x))
local macro_rules | `(tactic|rwa[$[$t:term],*] $[$l]?)=>`(tactic|simp only[BH,Cw,CC,Ci,Zh,AS,if_true,AU,Za,CL,Co,En,C1,Ey,Zd,Zi,AE,vw,HS,jE,Cg,jT,EU,pk,jO,Zk,Zw,Bb,EG,Zv,Gf,BI,ZG,Zl,J1,Cu,Zs,Ha,ZO,decide_true,Zc,Cz,Cr,DQ,xD,Dd,Z0,Zj,$[$t:term],*] $[$l]?)
theorem On(s:Sl)(ns:U Int)(b:s=#v[ns.map D.int]\/s=.lent (ns.map D.int))(k:Int)(c:0<=k):ZP [s,‹k›]=Z ‹ns.getD k.toNat 0›:=by
 by_cases h:k<ns.length
 ·have a:=(Int.toNat_lt c).mpr h;rcases b with rfl|rfl<;>simp[ZP,AO,Ub,h,atI,D2,c,a]
 ·have a:ns.length<=k.toNat:=by lia
  rcases b with rfl|rfl<;>simp[ZP,AO,Ub,h,a]
def BK:Ae:="abcdefghijklmnopqrstuvwxyz"
noncomputable def Ez:Ae:="0123456789"
def signs:Ae:="abcdefghijklmnopqrstuvwxyz0123456789"
theorem fE:signs.length=36:=by decide +kernel
theorem vK:signs.cps.toList=BK.cps.toList++Ez.cps.toList:=by decide +kernel
noncomputable def Gr:D->Bool
 |.int _=>J'
 |_=>O'
def HY(c:Nat):Bool:=decide (c∈BK.cps.toList)||decide (c∈Ez.cps.toList)
def HZ:U Nat->Bool
 |[]=>O'
 |c::r=>decide (c∈BK.cps.toList)&&(c::r).all HY&&decide ((c::r).length<=12)
def BX:D->Bool
 |.str z=>HZ z.cps.toList
 |_=>O'
theorem vM(c:Nat):HY c=decide (c∈signs.cps.toList):=by
 unfold HY;rw[vK,Bool.eq_iff_iff];simp[Dw]
def Sm:D->Prop
 |.str z=>z.length<=100
 |.ty _=>False
 |.lst _ .d=>False
 |.lst _ (.i _ _)=>False
 |_=>True
theorem Wc(d:D)(h:Sm d):HV [.val d]=Z (.val (.bl (Gr d))):=by
 cases d with
 |lst a b=>cases b with
  |d=>exact h.elim
  |i _ _=>exact h.elim
  |l=>simp[HV,AO,P1,Gr]
 |ty n=>exact h.elim
 |_=>simp[HV,AO,P1,Gr]
theorem vN(c:Nat):P2 [.val (.str #[(T' [c])])]=Z (.bl (HY c)):=by
 rwa[P2,T5,Cn];grind [HY,BK,Ez]
theorem vO(L:U Nat):ZX (Zc 0) (λ_=>Z J') P2 [.no] (L.map λc=>D.str #[(T' [c])])=Z ((L.map HY).map D.bl):=by
 rw[ZA (λc=>D.str #[(T' [c])]) (λc=>D.bl<|HY c) L λc _=>#[[.val<|.str ⟨(T' [c])⟩],rfl,vN c]];simp
theorem vP(d:D)(h:Sm d):IT [.val d]=Z (.val (.bl (BX d))):=by
 cases d with
 |str z=>
  obtain⟨⟨L⟩⟩:=z;have k:=h;have a:L.length<=Ax:=BZ k (by ext);have o:=vO L;cases L with|nil=>simp[IT,AO,Lb,BX,HZ,Str.length]|cons c r=>
   erw[Cg]at k a;have g:¬ ((r.length:Int)+1<1):=of_decide_eq_false rfl;by_cases j:r.length+1<=12
   ·have e:¬ ((12:Int)<(r.length:Int)+1):=by lia
    have f:r.length<=11:=Nat.le_of_lt_succ j;by_cases m:c∈(Jt "abcdefghijklmnopqrstuvwxyz").cps
    ·simp[IT,AO,Lb,BX,HZ,Str.length,a,g,e,-Db,T5,atI,D2,o,-AS,-CP,m,f,BK]
    ·simp[IT,AO,Lb,BX,HZ,Str.length,a,g,e,-Db,T5,atI,D2,m,f,BK]
   ·have e:(12:Int)<(r.length:Int)+1:=by lia
    have f:¬ r.length<=11:=by lia
    simp[IT,AO,Lb,BX,HZ,Str.length,a,g,e,f]
 |ty n=>exact h.elim
 |lst p b=>cases b with
  |d=>exact h.elim
  |i _ _=>exact h.elim
  |l=>simp[IT,AO,Lb,BX]
 |_=>simp[IT,AO,Lb,BX]
theorem fF(d:D)(h:Sm d):NT [.val d]=Z (.val (.bl (Gr d||BX d))):=by
 have a:=Wc d h;have b:=vP d h;cases c:Gr d<;>simp[c]at a ⊢<;>simp[NT,AO,dA,a,b]
def EA(d:D):Bool:=Gr d||BX d
def Mo:D->Prop
 |.tup a=>a.length<=1000/\∀x∈a,Sm x
 |d=>Sm d
def DO:D->Bool
 |.tup a=>decide (1<=a.length)&&decide (a.length<=4)&&a.all EA
 |_=>O'
theorem vQ{e:AB}(a:∀d,Sm d->e [.val d]=Z (.bl (EA d)))(xs:U D)(h:∀x∈xs,Sm x):ZX (Zc 0) (λ_=>Z J') e [.no] xs=Z ((xs.map EA).map D.bl):=by
 have:=ZA (b:=Zc 0) (e:=e) (ρ:=[.no]) (λd:D=>d) (λd=>D.bl<|EA d) xs λd hd=>#[[.val d],rfl,a d<|h d hd];simp_all
theorem vR(xs:U D):(xs.map EA).all id=xs.all EA:=by rw[HB];rfl
theorem vS(d:D)(h:Mo d):J4 [.val d]=Z (.val (.bl (DO d))):=by
 cases d with
 |tup a=>
  have o:=vQ (e:=Uz) (λd hd=>by have:=fF d hd;erw[Uz,Zi,Zh,Co,Cw,BH,this,Ci,CY];rfl) a h.2;have p:a.length<=Ax:=BZ h.1 (by ext);have k:=vR a;have f:(a.map EA).all (λx=>x)=a.all EA:=k;by_cases g:1<=a.length
  ·by_cases m:a.length<=4
   ·have c:¬ ((a.length:Int)<1):=by lia
    have j:¬ ((4:Int)<(a.length:Int)):=by lia
    simp[J4,AO,Ml,DO,c,j,g,m,p,Zt,o,-CP,k,f]
   ·have c:¬ ((a.length:Int)<1):=by lia
    have j:(4:Int)<(a.length:Int):=by lia
    simp[J4,AO,Ml,DO,c,j,g,m]
  ·have c:(a.length:Int)<1:=by lia
   simp[J4,AO,Ml,DO,c,g]
 |ty n=>exact h.elim
 |lst a b=>cases b with
  |d=>exact h.elim
  |i _ _=>exact h.elim
  |l=>simp[J4,AO,Ml,DO]
 |_=>simp[J4,AO,Ml,DO]
def Aj(l:U At):D:=.tup (l.map aD)
abbrev EK:=Nat×At
noncomputable def CT{T:Type}:U (EK×T)->EK->O T
 |[],_=>J
 |e::r,k=>if e.1=k then Z e.2 else CT r k
noncomputable def EB{T:Type}[DecidableEq T]:U (EK×T)->U (EK×T)->O (U (EK×T))
 |S,[]=>Z S
 |S,e::E=>match CT S e.1 with
  |some t=>if t=e.2 then EB S E else J
  |none=>EB (S++[e]) E
def kE(k:EK):KT:=.tup [.int (k.1:Int),k.2]
def SK{T:Type}(f:T->D)(S:U (EK×T)):Bw:=S.map λe=>(kE e.1,f e.2)
theorem vT{a b:EK}(h:kE a=kE b):a=b:=by grind [kE]
theorem Wd{T:Type}(f:T->D)(k:EK):∀S:U (EK×T),Zx (SK f S) (kE k)=(CT S k).map f
 |[]=>rfl
 |e::r=>by
  have a:=Wd f k r;erw[SK,AS]at a ⊢;unfold Zx CT;grind [vT]
theorem vU{T:Type}(f:T->D)(S:U (EK×T)):∀p∈SK f S,D6 p.1=O':=by
 intro p a;obtain⟨e,_,rfl⟩:=Bp.mp a;rfl
theorem vV{T:Type}(f:T->D)(S:U (EK×T))(e:EK×T)(h:CT S e.1=J):ZY (SK f S) (kE e.1) (f e.2)=SK f (S++[e]):=by
 unfold ZY;rw[Wd,h];simp[SK]
theorem vW(a:At):Dh (aD a)=Z (.at a):=No<|.at a
theorem QW:∀(a b:At),AF (aD a) (aD b)=decide (a=b):=by
 intro a b;cases a<;>cases b<;>simp[aD]
theorem We:∀(a b:U At),CZ (a.map aD) (b.map aD)=decide (a=b)
 |[],[]=>by simp
 |[],_::_=>by simp
 |_::_,[]=>by simp
 |x::a,y::b=>by
  have c:=We a b;simp[QW,c]
theorem QX(n:Nat)(a:At):A7 n (aD a)=J':=by cases a<;>cases n<;>rfl
theorem Wf(n:Nat)(l:U At):A7 (n+1) (Aj l)=J':=by
 show(l.map aD).all (A7 n)=J'
 rw[HB,D4];exact λa _=>QX n a
theorem QY(a b:U At):Ce (Aj a) (Aj b)=Z (.bl (!decide (a=b))):=by
 have c:=Wf 11 a;have d:=Wf 11 b;simp_all [Aj,We]
theorem vX(a b:At):Ce (aD a) (aD b)=Z (.bl (!decide (a=b))):=by simp_all [QX,QW,J1]
theorem vY{T:Type}[DecidableEq T](f:T->D)(k:∀a b,Ce (f a) (f b)=Z (.bl (!decide (a=b))))(S:U (EK×T))(n:S.length<100000)(e:EK×T)(i:Nat)(l m g:AB)(ρ:VE)(o:Hy ρ i=Z (Zb (SK f S)))(p:l ρ=Z (kD (kE e.1)))(q:m ρ=Z (f e.2)) (r:∀xs,g (ρ.set i (.own xs .d))=Z (f e.2)) (h:g ρ=Z (f e.2)):Nr (Nq i l m) g ρ=match CT S e.1 with
   |some t=>Z (!decide (t=e.2),ρ)
   |none=>Z (O',ρ.set i<|.own (Zb<|SK f<|S++[e]) .d):=by
 have s:(SK f S).length<Ax:=B6 (show(SK f S).length<100000 by simpa[SK]using n) (by ext);have u:Di (kE e.1) (SK f S)=J':=KS _<|vU f S;have c:=Wd f e.1 S;unfold Nr Nq;rwa[o,p,q,Fs,No,u,s];cases j:CT S e.1 with
 |some t=>
  rw[j]at c;erw[c,Jz,h,k,AE]
 |none=>
  rw[j]at c;rwa[c,Option.map_none,r,k,Jz,vV f S e j]
def Eo:Nat->U At->U (EK×U At)
 |_,[]=>[]
 |i,a::r=>((i,a),r)::Eo (i+1) r
theorem Wg(s0 e:Sl)(l:U At)(C:l.length<=4):∀(AH pre:U At)(S:U (EK×U At))(k m h:Sl),l=pre++AH->S.length+AH.length<100000->(∃n u v w,EB S (Eo pre.length AH)=Z n/\n.length<=S.length+AH.length/\ZC (Ch 2 (Zq (Zc 4) (Zq (Zc 5) Z9))) N1 (E8 pre.length (AH.map aD)) [s0,.own (Zb (SK Aj S)) .d,e,.val (Aj l),k,m,h]=.next [s0,.own (Zb (SK Aj n)) .d,e,.val (Aj l),u,v,w]) \/(EB S (Eo pre.length AH)=J/\ZC (Ch 2 (Zq (Zc 4) (Zq (Zc 5) Z9))) N1 (E8 pre.length (AH.map aD)) [s0,.own (Zb (SK Aj S)) .d,e,.val (Aj l),k,m,h]=.ret (.val (.bl O')))
 |[],pre,S,k,m,h,_,_=>.inl #[S,k,m,h,rfl,by simp,rfl]
 |a::r,pre,S,k,m,h,i,G=>by
  erw[Cg]at G;have o:EX (l.map aD) (Z<|(pre.length:Int)+1) J=r.map aD:=by
   rw[T4,cF _ _ (by lia),i];simp_all
  have x:=vY Aj QY S (by lia) ((pre.length,a),r) 1 (λc=>(Ze<|((λc=>Zh (CL<|(λc=>Bb c 4) c) ((λc=>Zh (CL<|(λc=>Bb c 5) c) ((λ_=>Z []) c)) c)) c).bind Zj).map D.tup) (λc=>Bb c 6) (λc=>AU c 6)
   [s0,.own (Zb<|SK Aj S) .d,e,.val<|Aj l,‹(pre.length:Int)›,.val<|aD a,.val<|Aj r] rfl (by
    have y:2<=Ax:=by ext
    simp[y,kE,kD,aD]) rfl (λM=>rfl) rfl
  have b:N1 [s0,.own (Zb<|SK Aj S) .d,e,.val<|Aj l,‹(pre.length:Int)›,.val<|aD a,h] =
    JV (match CT S ((pre.length,a):EK)with
     |some t=>Z (!decide (t=r),[s0,.own (Zb<|SK Aj S) .d,e,.val<|Aj l,‹(pre.length:Int)›,.val<|aD a,.val<|Aj r])
     |none=>Z (O',[s0,.own (Zb<|SK Aj<|S++[((pre.length,a),r)]) .d,e,.val<|Aj l,‹(pre.length:Int)›,.val<|aD a,.val<|Aj r])) (λ_=>.ret<|.val<|.bl O') (λc=>.next c):=by
   have p:Z0 6 (DR (λc=>AU c 3) (λc=>DG<|Za Zu (λc=>AU c 4) (λ_=>Z<|.int 1) c) (λ_=>Z J) D3 [s0,.own (Zb<|SK Aj S) .d,e,.val<|Aj l,‹(pre.length:Int)›,.val<|aD a,h]) [s0,.own (Zb<|SK Aj S) .d,e,.val<|Aj l,‹(pre.length:Int)›,.val<|aD a,h] =
     .next [s0,.own (Zb<|SK Aj S) .d,e,.val<|Aj l,‹(pre.length:Int)›,.val<|aD a,.val<|Aj r]:=by
    simp[Aj,o]
   unfold N1;rw[p];erw[Zd];rw[x];cases g:CT S ((pre.length,a):EK)with
   |none=>simp[JV]
   |some t=>cases hd:decide (t=r)<;>simp[JV,hd]
  have z:E8 pre.length ((a::r).map aD)=.tup [.int (pre.length:Int),aD a]::E8 (pre.length+1) (r.map aD):=rfl;have q:(pre++[a]).length=pre.length+1:=by simp
  have j:Ch 2 (Zq (Zc 4)<|Zq (Zc 5) Z9) (.tup [.int (pre.length:Int),aD a]) [s0,.own (Zb<|SK Aj S) .d,e,.val<|Aj l,k,m,h]=Z [s0,.own (Zb<|SK Aj S) .d,e,.val<|Aj l,‹(pre.length:Int)›,.val<|aD a,h]:=rfl;rw[z];cases g:CT S ((pre.length,a):EK)with
  |some t=>
   rw[g]at b;by_cases s:t=r
   ·have A:=Wg s0 e l C r (pre++[a]) S ‹(pre.length:Int)› (.val<|aD a) (.val<|Aj r) (by rw[i];simp) (by lia);rw[q]at A;have f:EB S (Eo pre.length<|a::r)=EB S (Eo (pre.length+1) r):=by simp[Eo,EB,g,s]
    rwa[s,JV]at b;rw[f];erw[ZC,j,b];rcases A with⟨n,H,K,F,B,E,L⟩|⟨B,E⟩
    ·exact .inl #[n,H,K,F,B,by erw[Cg];lia,L]
    ·exact .inr #[B,E]
   ·have f:EB S (Eo pre.length<|a::r)=J:=by simp[Eo,EB,g,s]
    erw[s,decide_false,Ha,JV]at b;exact .inr #[f,by erw[ZC,j,b]]
  |none=>
   have A:=Wg s0 e l C r (pre++[a]) (S++[((pre.length,a),r)]) ‹(pre.length:Int)› (.val<|aD a) (.val<|Aj r) (by rw[i];simp) (by simp;lia);have f:EB S (Eo pre.length<|a::r)=EB (S++[((pre.length,a),r)]) (Eo (pre.length+1) r):=by simp[Eo,EB,g]
   erw[JV]at b;erw[ZC,j,b];grind
def FK(F:U At):Bw:=F.map λa=>(.at a,.bl J')
theorem Wh(a:At):∀F:U At,Zx (FK F) (.at a)=if a∈F then Z (.bl J')else J
 |[]=>by simp[FK,Zx]
 |b::F=>by
  have c:=Wh a F;erw[FK,AS]at c ⊢;unfold Zx;grind
theorem vZ(F:U At):∀p∈FK F,D6 p.1=J':=by
 intro p a;obtain⟨e,_,rfl⟩:=Bp.mp a;rfl
theorem v3(F:U At)(a:At)(h:a∉F):ZY (FK F) (.at a) (.bl J')=FK (F++[a]):=by
 unfold ZY;rw[Wh,if_neg h];simp[FK]
noncomputable def Fz(n:Nat):U At->U (EK×U At)->U (U At)->Bool
 |_,_,[]=>J'
 |F,S,l::b=>match l with
  |[]=>O'
  |a::_=>if l.length=n/\a∉F then(match EB S (Eo 0 l)with
   |some c=>Fz n (F++[a]) c b
   |none=>O')else O'
theorem fG(i:D)(g:U At)(u:Ar i (.int 0)=Z (Aj g)):∀(f:BR)(F:U At)(S:U (EK×U At))(v j k n:Sl),(∀l∈f,1<=l.length/\l.length<=4)->S.length+4*f.length<100000->F.length+f.length<100000->(∃ρ,Fz g.length F S f=J'/\ZC (Zc 3) ZN (f.map Aj) [.val i,.own (Zb (SK Aj S)) .d,.own (Zb (FK F)) .d,v,j,k,n]=.next ρ) \/(Fz g.length F S f=O'/\ZC (Zc 3) ZN (f.map Aj) [.val i,.own (Zb (SK Aj S)) .d,.own (Zb (FK F)) .d,v,j,k,n]=.ret (.val (.bl O')))
 |[],F,S,v,j,k,n,_,_,_=>.inl #[_,rfl,rfl]
 |[]::f,F,S,v,j,k,n,h,_,_=>by have:=(h [] Ba).1;simp at this
 |(a::r)::f,F,S,v,j,k,n,h,C,w=>by
  erw[Cg]at C w;have E:=h (a::r) Ba;have L:F.length<Ax:=B6 (show F.length<100000 by exact Dz w) (by ext);have G:=Pt a<|vZ F;have x:=Wh a F;have Q:atI ((a::r).map aD) 0=Z (aD a):=by simp[atI,D2]
  have y:(FK F).length=F.length:=by simp[FK]
  have b:Zr [Aj g]=Z (.int (g.length:Int)):=by simp[Aj]
  have c:Zr [Aj<|a::r]=Z (.int ((a::r).length:Int)):=by simp[Aj]
  have p:Ar (Aj<|a::r) (.int 0)=Z (aD a):=by erw[Aj,Ar];exact Q
  have hok:=vW a;have z:FU (Aj<|a::r)=Z ((a::r).map aD):=rfl;erw[AS,ZC,Zc,Ey,En];by_cases e:(a::r).length=g.length
  ·by_cases t:a∈F
   ·rw[if_pos t]at x;refine .inr #[by simp[Fz,t],?_];have q:ZN [.val i,.own (Zb<|SK Aj S) .d,.own (Zb<|FK F) .d,.val<|Aj<|a::r,j,k,n]=.ret (.val<|.bl O'):=by
     simp[ZN,-Ar,-Zr,u,p,b,c,e,hok,G,x]
    rw[q]
   ·rw[if_neg t]at x;have o:=v3 F a t;have A:=Wg (.val i) (.own (Zb<|FK<|F++[a]) .d) (a::r) E.2 (a::r) [] S j k n (by simp) (by erw[Cg]at E ⊢;lia);erw[EG]at A;rcases A with⟨H,M,N,P,W,K,T⟩|⟨W,K⟩
    ·have R:=fG i g u f (F++[a]) H (.val<|Aj<|a::r) M N P (λm Y=>h m<|Be _ Y) (by erw[Cg]at E K;lia) (by simp;lia);have s:Fz g.length F S ((a::r)::f)=Fz g.length (F++[a]) H f:=by erw[Fz,e,t,W,not_false_eq_true,and_self,if_true]
     have q:ZN [.val i,.own (Zb<|SK Aj S) .d,.own (Zb<|FK F) .d,.val<|Aj<|a::r,j,k,n]=.next [.val i,.own (Zb<|SK Aj H) .d,.own (Zb<|FK<|F++[a]) .d,.val<|Aj<|a::r,M,N,P]:=by
      simp[ZN,-Ar,-Zr,u,p,b,c,e,hok,G,x,II,y,L,o,-FU,z,T,-AS]
     rw[q,s];exact R
    ·have s:Fz g.length F S ((a::r)::f)=O':=by erw[Fz,e,t,W,not_false_eq_true,and_self,if_true]
     refine .inr #[s,?_];have q:ZN [.val i,.own (Zb<|SK Aj S) .d,.own (Zb<|FK F) .d,.val<|Aj<|a::r,j,k,n]=.ret (.val<|.bl O'):=by
      simp[ZN,-Ar,-Zr,u,p,b,c,e,hok,G,x,II,y,L,o,-FU,z,K,-AS]
     rw[q]
  ·have B:¬ ((r.length:Int)+1=(g.length:Int)):=by erw[Cg]at e;exact Wi rfl rfl e
   refine .inr #[by erw[Fz,e,false_and,if_false],?_];have q:ZN [.val i,.own (Zb<|SK Aj S) .d,.own (Zb<|FK F) .d,.val<|Aj<|a::r,j,k,n]=.ret (.val<|.bl O'):=by
    simp[ZN,-Ar,-Zr,u,b,c,B]
   rw[q]
theorem v4{d:D}(h:EA d=J'):∃a,d=aD a:=by
 cases d with
 |int i=>exact#[.int i,rfl]
 |str x=>exact#[.str x,rfl]
 |_=>simp[EA,Gr,BX]at h
theorem fH:∀{xs:U D},xs.all EA=J'->∃l:U At,xs=l.map aD
 |[],_=>#[[],rfl]
 |x::xs,h=>by
  erw[LY,CM]at h;obtain⟨a,rfl⟩:=v4 h.1;obtain⟨l,rfl⟩:=fH h.2;exact#[a::l,rfl]
theorem I0{d:D}(h:DO d=J'):∃l:U At,d=Aj l/\1<=l.length/\l.length<=4:=by
 cases d with
 |tup a=>
  erw[DO,CM,decide_eq_true_eq]at h;obtain⟨l,rfl⟩:=fH h.2;exact#[l,rfl,by simpa using h.1.1,by simpa using h.1.2]
 |_=>simp[DO]at h
theorem fI:∀{xs:U D},xs.all DO=J'->∃a:BR,xs=a.map Aj/\∀l∈a,1<=l.length/\l.length<=4
 |[],_=>#[[],rfl,λ_ h=>nomatch h]
 |x::xs,h=>by
  erw[LY,CM]at h;obtain⟨l,rfl,c⟩:=I0 h.1;obtain⟨a,rfl,d⟩:=fI h.2;refine#[l::a,rfl,λm b=>?_];rcases Bo.mp b with rfl|b
  ·exact c
  ·exact d m b
def Mp(a:BR):Bool:=match a with
 |[]=>J'
 |l::_=>Fz l.length [] [] a
theorem v5{e:AB}(a:∀d,Mo d->e [.val d]=Z (.bl (DO d)))(xs:U D)(h:∀x∈xs,Mo x):ZX (Zc 0) (λ_=>Z J') e [.no] xs=Z ((xs.map DO).map D.bl):=by
 have:=ZA (b:=Zc 0) (e:=e) (ρ:=[.no]) (λd:D=>d) (λd=>D.bl<|DO d) xs λd hd=>#[[.val d],rfl,a d<|h d hd];simp_all
theorem v6(xs:U D)(h:∀x∈xs,Mo x)(hz:xs.length<=1000):(xs.all DO=O'/\IW [#v[xs]]=Z (.val (.bl O')))\/(xs.all DO=J'/\∃a:BR,xs=a.map Aj/\(∀l∈a,1<=l.length/\l.length<=4)/\IW [#v[xs]]=Z (.val (.bl (Mp a)))):=by
 have k:=v5 (e:=US) (λd hd=>by have:=vS d hd;erw[US,Zi,Zh,Co,Cw,BH,this,Ci,CY]) xs h;have f:xs.length<=Ax:=BZ hz (by ext);have i:(xs.map DO).all id=xs.all DO:=by rw[HB];rfl
 have b:(xs.map DO).all (λx=>x)=xs.all DO:=i;cases g:xs.all DO with
 |false=>
  refine .inl #[rfl,?_];rw[g]at i b;simp[IW,AO,N5,N4,N3,f,Zt,k,-CP,i,b]
 |true=>
  rw[g]at i b;obtain⟨a,rfl,j⟩:=fI g;refine .inr #[rfl,a,rfl,j,?_];cases a with|nil=>simp[IW,AO,N5,N4,N3,QC,Qx,QB,Qy,QA,Qz,UU,UT,ZX,IE,ZC,Mp]|cons c a=>
   have q:(c::a).length<=1000:=by rw[Bi]at hz;exact hz
   have r:Ar (.lst<|(c::a).map Aj) (.int 0)=Z (Aj c):=by simp[atI,D2]
   have p:=fG (.lst<|(c::a).map Aj) c r (c::a) [] [] .no .no .no .no j (by erw[EG];lia) (by erw[EG];lia);rw[show Zb (SK Aj [])=[]from rfl,show Zb (FK [])=[]from rfl]at p;have m:Mp (c::a)=Fz c.length [] [] (c::a):=rfl;rw[m];generalize (c::a).map Aj=G at *;rcases p with⟨s,n,o⟩|⟨n,o⟩
   ·rw[n];simp[IW,AO,N5,N4,N3,QC,Qx,QB,Qy,QA,Qz,UU,UT,f,Zt,k,-CP,i,b,o]
   ·rw[n];simp[IW,AO,N5,N4,N3,QC,Qx,QB,Qy,QA,Qz,f,Zt,k,-CP,i,b,o]
def BS{T:Type}(E:U (EK×T)):Prop:=∀k t a,(k,t)∈E->(k,a)∈E->t=a
theorem fJ{T:Type}{k:EK}{t:T}:∀{S:U (EK×T)},CT S k=Z t->(k,t)∈S
 |[],h=>by cases h
 |e::r,h=>by
  unfold CT at h;by_cases a:e.1=k
  ·grind [Ba]
  ·rw[if_neg a]at h;exact Be _<|fJ h
theorem fK{T:Type}{k:EK}:∀{S:U (EK×T)},CT S k=J->∀t,(k,t)∉S
 |[],_,t,h=>nomatch h
 |e::r,a,t,h=>by
  unfold CT at a;by_cases b:e.1=k
  ·simp[if_pos b]at a
  ·rw[if_neg b]at a;rcases Bo.mp h with h|h
   ·exact b (by rw[<- h])
   ·exact fK a t h
theorem Wj{T:Type}[DecidableEq T]:∀(E S:U (EK×T)),BS S->(∃m,EB S E=Z m/\(∀e,e∈m↔e∈S++E)/\BS (S++E))\/(EB S E=J/\¬ BS (S++E))
 |[],S,h=>.inl #[S,rfl,by simp,by simpa using h]
 |e::E,S,h=>by
  unfold EB;cases p:CT S e.1 with
  |some t=>
   have o:=fJ p;by_cases n:t=e.2
   ·have r:e∈S:=by rw[n]at o;exact o
    have d:∀x,x∈S++e::E↔x∈S++E:=λx=>by
     grind
    have j:BS (S++e::E)↔BS (S++E):=#[λf k t l g i=>f k t l ((d _).mpr g)<|(d _).mpr i,λf k t l g i=>f k t l ((d _).mp g)<|(d _).mp i];erw[n,if_true];rcases Wj E S h with⟨m,a,b,c⟩|⟨a,b⟩
    ·exact .inl #[m,a,λx=>(b x).trans (d x).symm,j.mpr c]
    ·exact .inr #[a,λf=>b<|j.mp f]
   ·erw[n,if_false];refine .inr #[trivial,λf=>n<|f e.1 t e.2 (Ii _ o)<|Dk _ Ba]
  |none=>
   have q:=fK p;have s:BS (S++[e]):=λk t l g i=>by
    erw[Dw,EO]at g i;rcases g with g|g<;>rcases i with i|i
    ·exact h k t l g i
    ·have:k=e.1:=by rw[<- i]
     subst this;exact absurd g<|q t
    ·have:k=e.1:=by rw[<- g]
     subst this;exact absurd i<|q l
    ·have:=g.trans i.symm;injection this
   have u:S++e::E=S++[e]++E:=by simp
   rw[u];exact Wj E (S++[e]) s
noncomputable def hd(l:U At):At:=l.headD .non
noncomputable def Lj{T:Type}[DecidableEq T](C5:U At->U (EK×T))(n:Nat):U At->U (EK×T)->U (U At)->Bool
 |_,_,[]=>J'
 |F,S,l::b=>match l with
  |[]=>O'
  |a::_=>if l.length=n/\a∉F then(match EB S (C5 l)with
   |some c=>Lj C5 n (F++[a]) c b
   |none=>O')else O'
theorem fM(n:Nat):∀(b:BR)(F:U At)(S:U (EK×U At)),Fz n F S b=Lj (Eo 0) n F S b
 |[],_,_=>rfl
 |[]::b,_,_=>rfl
 |(a::r)::b,F,S=>by
  erw[Fz,Lj];cases EB S (Eo 0<|a::r)with
  |none=>rfl
  |some c=>erw[fM n b]
theorem BS.congr{T:Type}{E d:U (EK×T)}(h:∀e,e∈E↔e∈d):BS E↔BS d:=#[λf k t a b c=>f k t a ((h _).mpr b)<|(h _).mpr c,λf k t a b c=>f k t a ((h _).mp b)<|(h _).mp c]
theorem BS.left{T:Type}{E a:U (EK×T)}(h:BS (E++a)):BS E:=λk t b c d=>h k t b (Ii _ c)<|Ii _ d
theorem fN{T:Type}[DecidableEq T](C5:U At->U (EK×T))(n:Nat):∀(b:BR)(F:U At)(S:U (EK×T)),F.Nodup->BS S->(∀l∈b,l≠[])->(Lj C5 n F S b=J'↔(∀l∈b,l.length=n)/\(F++b.map hd).Nodup/\BS (S++b.flatMap C5))
 |[],F,S,o,p,_=>by simp[Lj,o,p]
 |[]::b,F,S,o,p,h=>by exact absurd rfl<|h [] Ba
 |(a::r)::b,F,S,o,p,h=>by
  have B:∀l∈b,l≠[]:=λl c=>h l<|Be _ c;have f:S++((a::r)::b).flatMap C5=S++C5 (a::r)++b.flatMap C5:=by simp
  rw[f];have s:F++((a::r)::b).map hd=F++[a]++b.map hd:=by simp[hd]
  rw[s];have t:Lj C5 n F S ((a::r)::b)=if(a::r).length=n/\a∉F then(match EB S (C5<|a::r)with
   |some g=>Lj C5 n (F++[a]) g b
   |none=>O')else O':=rfl
  rw[t];by_cases i:(a::r).length=n/\a∉F
  ·have u:(F++[a]).Nodup:=by
    rw[HE];exact#[o,by simp,λx C y A=>by simp at A;subst A;rintro rfl;exact i.2 C]
   rw[if_pos i];rcases Wj (C5<|a::r) S p with⟨g,v,q,E⟩|⟨v,q⟩
   ·have w:=(BS.congr q).mpr E;erw[v];rw[fN C5 n b (F++[a]) g u w B];have j:BS (g++b.flatMap C5)↔BS (S++C5 (a::r)++b.flatMap C5):=BS.congr λe=>by
     rw[Dw,Dw,q e]
    rw[j];constructor
    ·rintro⟨k,d,m⟩;exact⟨λl c=>by rcases Bo.mp c with rfl|c;exact i.1;exact k l c,d,m⟩
    ·rintro⟨k,d,m⟩;exact⟨λl c=>k l<|Be _ c,d,m⟩
   ·erw[v];constructor
    ·intro z;cases z
    ·rintro⟨_,_,m⟩;exact absurd m.left q
  ·rw[if_neg i];constructor
   ·intro z;cases z
   ·rintro⟨k,d,_⟩;refine absurd ⟨k _ Ba,λG=>?_⟩ i;rw[HE]at d;have:=d.1;rw[HE]at this;exact this.2.2 a G a (by simp) rfl
theorem Wk:∀(l:U At)(j:Nat)(e:EK×U At),e∈Eo j l↔∃m,e.1.1=j+m/\l[m]?=Z e.1.2/\e.2=l.drop (m+1)
 |[],j,e=>by simp[Eo]
 |a::r,j,e=>by
  rw[Eo,Bo,Wk r (j+1) e];constructor
  ·rintro(rfl|⟨m,d,b,c⟩)
   ·exact#[0,by simp,by simp,by simp]
   ·exact#[m+1,by lia,by simpa using b,by simpa using c]
  ·rintro⟨m,d,b,c⟩;cases m with
   |zero=>
    left;obtain⟨⟨i,x⟩,t⟩:=e;simp at d b c;rw[d,b,c]
   |succ m=>right;exact#[m,by lia,by simpa using b,by simpa using c]
theorem v7{T:Type}:BS ([]:U (EK×T)):=λ_ _ _ h=>by cases h
theorem Sj(x:Ae):x.length=x.cps.toList.length:=rfl
theorem v8{a:Type}{f:Nat->a}{m:Nat}(h:((Bq m).map f).Nodup){k:Nat}(b:j<m)(c:k<m)(e:f j=f k):j=k:=by grind [List.nodup_iff_pairwise_ne,List.pairwise_map,Nat.lt_trichotomy,List.pairwise_iff_getElem]
def GW(W:U Nat):Prop:=(∃c r,W=c::r/\c∈BK.cps.toList)/\W.all HY=J'
theorem GW.word{W:U Nat}(h:GW W)(a:W.length<=12):HZ W=J':=by
 obtain⟨⟨c,r,rfl,b⟩,d⟩:=h;grind [HZ]
theorem v9{z:Ae}(h:GW z.cps.toList)(a:z.cps.toList.length<=12):EA (aD (.str z))=J'/\Sm (aD (.str z)):=by
 refine#[?_,?_]
 ·show(Gr (.str z)||BX (.str z))=J'
  erw[Gr,BX,h.word a,Bool.or_true]
 ·show z.length<=100
  rw[Sj];lia
theorem Mq(x k:Int)(a:0<k)(b:k<1000000000):JQ (.int x) (.int k)=Z (.int (x/k)):=by
 show(if MK x k then Z (D.int<|x/k)else J)=_
 rw[if_pos #[a,by lia]]
theorem Ds(x k:Int)(a:0<k):ZS (.int x) (.int k)=Z (.int (x%k)):=by
 simp_all
theorem H9{x y:Int}(h:DY x y):EV (.int x) (.int y)=Z (.int (x*y)):=by show(if DY x y then Z (D.int<|x*y)else J)=_;rw[if_pos h]
theorem Ia(x y:Int):Zu (.int x) (.int y)=Z (.int (x+y)):=rfl
theorem wa(x y:Int):Iz (.int x) (.int y)=Z (.int (x-y)):=rfl
theorem Wl(a b:Int):Bu (.int a) (.int b)=Z (.bl (decide (a=b))):=rfl
noncomputable def Ja(x:Int)(k:Nat):Int:=(x*45742+x/46949+29*(k:Int)+11)%2147483647
theorem wb(x:Int)(k:Nat):0<=Ja x k/8:=by grind [Ja]
def Jb(x:Int)(k:Nat):Nat->U Int
 |0=>[]
 |n+1=>(Ja x k/8)::Jb (Ja x k) (k+1) n
theorem fO:∀(n k:Nat)(x:Int),(Jb x k n).length=n
 |0,_,_=>rfl
 |n+1,k,x=>by simp[Jb,fO n]
theorem fQ:∀(n k:Nat)(x:Int),∀y∈Jb x k n,0<=y
 |0,_,_,y,h=>by cases h
 |n+1,k,x,y,h=>by
  erw[Jb,Bo]at h;rcases h with rfl|h
  ·exact wb x k
  ·exact fQ n _ _ y h
theorem wc(s0 a:Sl)(k:Nat)(x:Int)(acc:U Int)(hz:acc.length<Ax):P9 [s0,a,‹x›,.own (acc.map D.int),‹(k:Int)›]=.next [s0,a,‹Ja x k›,.own ((acc++[Ja x k/8]).map D.int),‹(k:Int)›]:=by
 have b:=H9 (x:=x) (y:=45742) (by right;decide);have c:=Mq x 46949 (by ext) (by ext);have d:=H9 (x:=29) (y:=(k:Int)) (by left;decide);have e:=Ds (x*45742+x/46949+29*(k:Int)+11) 2147483647 (by ext);have f:=Mq ((x*45742+x/46949+29*(k:Int)+11)%2147483647) 8 (by ext) (by ext);unfold Ja;rwa[P9,b,c,d,Ia,e,f,Ge,DF,Bi,if_pos hz,HD]
theorem fS(s0 c:Sl):∀(n k:Nat)(x:Int)(acc:U Int)(b:Sl),acc.length+n<100000->∃d a,ZC (Zc 4) P9 ((Fc k n).map λ(k:Nat)=>D.int (k:Int)) [s0,c,‹x›,.own (acc.map D.int),b]=.next [s0,c,‹d›,.own ((acc++Jb x k n).map D.int),a]
 |0,k,x,acc,b,_=>#[x,b,by simp[ZC,Jb]]
 |n+1,k,x,acc,b,h=>by
  obtain⟨d,a,e⟩:=fS s0 c n (k+1) (Ja x k) (acc++[Ja x k/8]) ‹(k:Int)› (by simp;lia);have f:acc.length<Ax:=B6 (show acc.length<100000 by exact Dz h) (by ext);refine#[d,a,?_];rw[Lk,AS];rwa[ZC];grind [wc,Jb]
theorem QZ(c:Int)(n:Nat)(i:n<=100):∃ws:U Int,HW [‹c›,‹(n:Int)›]=Z #v[ws.map D.int]/\ws.length=n/\∀y∈ws,0<=y:=by
 have b:EH [.int<|(n:Int)+2]=Z ((Fc 0<|n+2).map λ(k:Nat)=>D.int (k:Int)):=by
  have:=NP (n+2) (by lia);rw[Ll]at this;exact this
 obtain⟨j,d,e⟩:=fS ‹c› ‹(n:Int)› (n+2) 0 (c%2147483549+17) [] .no (by simp;lia);have f:=fO (n+2) 0<|c%2147483549+17;have a:=fQ (n+2) 0<|c%2147483549+17;erw[Ea,C1]at e;generalize Jb (c%2147483549+17) 0 (n+2)=W at *;have g:EX (W.map D.int) (Z 2) J=(W.drop 2).map D.int:=by rw[T4,cF _ _<|Mr 2];rfl
 refine#[W.drop 2,?_,by simp[f],λy h=>a y<|List.mem_of_mem_drop h];simp[HW,AO,cV,cU,cT,cR,cQ,cM,cN,cO,cP,b,e,g]
theorem wd(c:Int):∃ws:U Int,HW [‹c›,‹40›]=Z #v[ws.map D.int]/\ws.length=40/\∀y∈ws,0<=y:=QZ c 40 (by ext)
theorem Ms{xs:U Int}{i:Int}(a:0<=i)(b:i<xs.length):atI (xs.map D.int) i=Z (.int (xs.getD i.toNat 0)):=by
 rw[show i=((i.toNat:Nat):Int) by exact Int.eq_natCast_toNat.mpr a];have h:=(Int.toNat_lt a).mpr b;exact ZU (by rw[Dy,GD,CK h];simp[FR,h])
theorem fT{i g:Type}{b:D->VE->O VE}{e:AB}{ρ:VE}(G:i->D)(W:g->D)(P:g->Prop):∀(xs:U i),(∀x∈xs,∃c a,P c/\b (G x) ρ=Z a/\e a=Z (W c))->∃f:U g,ZX b (λ_=>Z J') e ρ (xs.map G)=Z (f.map W)/\f.length=xs.length/\∀c∈f,P c
 |[],_=>#[[],rfl,rfl,λ_ h=>nomatch h]
 |x::xs,h=>by
  obtain⟨c,a,o,j,k⟩:=h x Ba;obtain⟨f,l,m,p⟩:=fT G W P xs λy n=>h y<|Be _ n;refine⟨c::f,?_,by simp[m],λd hd=>?_⟩
  ·rwa[ZX,j,k,l]
  ·grind [hd]
abbrev cS(c:Nat):D:=.str #[(T' [c])]
theorem we:∀a:U Nat,(Txt.join "" (a.map λc=>(#[(T' [c])]:Ae))).cps.toList=a:=by
 intro a;show(Builtin.Str.glued ""<|a.map λc=>(#[(T' [c])]:Ae)).cps.toList=a
 rw[StrLaws.glued_eq_join];induction a with|nil=>rfl|cons c a b=>
  cases a with|nil=>rfl|cons d a=>
   show((#[(T' [c])]:Ae)++("":Ae)++Str.join "" ((d::a).map λc=>(#[(T' [c])]:Ae))).cps.toList=_
   have e:∀(x y:Ae),(x++y).cps.toList=x.cps.toList++y.cps.toList:=λx y=>by
    show(x.cps++y.cps).toList=_
    simp
   have f:("":Ae).cps.toList=[]:=by decide +kernel
   simp_all
structure fU(f:Nat->At):Prop where
 inj:∀j k,j<6->k<6->f j=f k->j=k
 val:∀k,k<6->EA (aD (f k))=J'
 sm:∀k,k<6->Sm (aD (f k))
 lt:∀k i,k<6->f k=.int i->i<10^40
theorem wf{x y:Int}(h:Lz x y):KC (.int x) (.int y)=Z (.int (x^y.toNat)):=by show(if Lz x y then Z (D.int<|x^y.toNat)else J)=_;rw[if_pos h]
theorem wg(c:Int)(k:Nat):J3 [‹c›,‹0›,‹(k:Int)›]=Z ‹(c%10^30-5*10^29+(k:Int))›:=by
 rfl
def sg(i:Nat):Nat:=signs.cps.toList.getD i 0
theorem wj:((Bq 36).map sg).Nodup:=by decide +kernel
theorem fV:∀i∈Bq 26,sg i∈BK.cps.toList:=by decide +kernel
theorem Wm:∀i∈Bq 36,HY (sg i)=J':=by decide +kernel
theorem fW(i:Nat)(h:i<36):Ar (.str "abcdefghijklmnopqrstuvwxyz0123456789") (.int (i:Int))=Z (cS (sg i)):=by
 have a:=fE;have b:signs.length<=Ax:=by rw[fE];decide
 have d:signs.cps.toList.length=36:=by rw[<- Sj];exact a
 have e:atI signs.cps.toList (i:Int)=Z (signs.cps.toList[i]'(by lia)):=ZU<|CK (by lia);show(if signs.length<=Ax then(atI signs.cps.toList (i:Int)).map λc=>D.str #[(T' [c])]else J)=_
 rw[if_pos b,e];simp[sg,FR,d,h]
noncomputable def md(j:Nat):Int:=if j=0 then 26 else 36
theorem fX(j:Nat):Ar (.lst [.int 36,.int 26]) (.int (if decide ((j:Int)=0)=J' then 1 else 0))=Z (.int (md j)):=by
 unfold md;by_cases h:j=0
 ·subst h;rfl
 ·have a:=Int.ofNat_ne_zero.mpr h;erw[h,a,decide_false,if_false];rfl
theorem Q0(j:Nat):0<md j/\md j<=36:=by unfold md;split<;>decide
def F0(x:Int)(j:Nat):Nat:=(x%md j).toNat
theorem Lm(x:Int)(j:Nat):F0 x j<36:=by
 have:=Q0 j;unfold F0;have a:=Ib x this.1;have b:=Jc x (show md j≠0 by lia);lia
theorem fY(x:Int):F0 x 0<26:=by grind [F0,md]
theorem Q1(x:Int)(j:Nat):x%md j=(F0 x j:Int):=by grind [Q0,md,F0]
theorem wk(x:Int)(j:Nat){a b:Nat}(c:a<6)(d:b<6)(e:F0 (x+5*(a:Int)) j=F0 (x+5*(b:Int)) j):a=b:=by
 have f:(x+5*(a:Int))%md j=(x+5*(b:Int))%md j:=by rw[Q1,Q1,e]
 grind [md]
theorem wl(c:Int)(j:Nat)(h:j<1000):Qa [‹(j:Int)›,.val (.str "abcdefghijklmnopqrstuvwxyz0123456789"),‹c›]=Z (cS (sg (F0 (c/((j:Int)+2)+4*(j:Int)) j))):=by
 have a:=Mq c ((j:Int)+2) (Int.sign_eq_one_iff_pos.mp rfl) (by lia);have b:=H9 (x:=4) (y:=(j:Int)) (by left;decide);have d:=Ds (c/((j:Int)+2)+4*(j:Int)) (md j) (Q0 j).1;have e:=fX j;have f:=fW _<|Lm (c/((j:Int)+2)+4*(j:Int)) j;have g:([D.int 36,.int 26]:U D).length<=Ax:=by ext
 erw[Qa,Za,AU,CC,Cw,BH,Ia,a,b,Wl,CL,Ci,Zh,Zk,EU,pk,L2.intD,Zj,Ze,if_pos g,Zw,e,d];rw[Q1,f]
def wB(c:Int)(n:Nat):U Nat:=(Bq n).map λ(j:Nat)=>sg (F0 (c/((j:Int)+2)+4*(j:Int)) j)
def wK(c:Int)(n a:Nat)(k:Nat):U Nat:=(wB c n).set a (sg (F0 (c/((a:Int)+2)+4*(a:Int)+5*(k:Int)) a))
def wS(L:U Nat):Ae:=Txt.join "" (L.map λc=>(#[(T' [c])]:Ae))
theorem Q2(L:U Nat):(wS L).cps.toList=L:=we L
theorem Q3(c:Int)(n:Nat):(wB c n).length=n:=by simp[wB]
theorem wm(c:Int)(n:Nat):∀x∈wB c n,HY x=J':=by
 intro x a;obtain⟨j,b,rfl⟩:=Bp.mp a;exact Wm _<|F4.mpr<|Lm _ _
theorem wn(c:Int)(n:Nat)(h:0<n):∃x r,wB c n=x::r/\x∈BK.cps.toList:=by
 obtain⟨m,rfl⟩:∃m,n=m+1:=#[n-1,by exact(Nat.sub_eq_iff_eq_add h).mp rfl];exact#[_,_,by rw[wB,List.range_succ_eq_map,AS],fV _<|F4.mpr<|fY _]
theorem wp(c:Int)(n a k:Nat)(h:0<n):GW (wK c n a k):=by
 obtain⟨x,r,e,f⟩:=wn c n h;have d:=wm c n;unfold wK;rw[e]at d ⊢;cases a with
 |zero=>
  refine#[#[_,r,rfl,fV _<|F4.mpr<|fY _],D4.mpr λy b=>?_];rcases Bo.mp b with rfl|b
  ·exact Wm _<|F4.mpr<|Lm _ _
  ·exact d y<|Be _ b
 |succ a=>
  refine#[#[x,r.set a _,rfl,f],D4.mpr λy b=>?_];grind [Wm,Lm]
theorem wq(c:Int)(n a:Nat)(d:a<n){k:Nat}(f:j<6)(g:k<6)(e:wK c n a j=wK c n a k):j=k:=by
 unfold wK at e;have b:=congrArg (λl=>l[a]?) e;have h:=Q3 c n;erw[Gw (show a<(wB c n).length by exact Jr d h.symm),O6]at b;exact wk _ _ f g<|v8 wj (Lm _ _) (Lm _ _) b
theorem fZ:∀L:U Nat,(L.map λ_=>1).sum=L.length
 |[]=>rfl
 |_::L=>by rw[AS,List.sum_cons,fZ L,Cg];exact Nat.add_comm 1 L.length
theorem wr(c w:Int)(F:¬ w=0)(n a k:Nat)(h:1+c%12=(n:Int))(d:n<=12)(i:c/12%(n:Int)=(a:Int))(l:a<n):J3 [‹c›,‹w›,‹(k:Int)›]=Z (.val (.str (wS (wK c n a k)))):=by
 have q0:AE (Bu (.int w)<|.int 0)=Z O':=by simp_all
 have m:=Ds c 12 (by ext);have o:=Mq c 12 (by ext) (by ext);have q3:=Ds (c/12) (n:Int) (by lia);rw[i]at q3;have p:=NP n (by lia);have g:=ZA (b:=Zc 0) (e:=Qa) (ρ:=[.no,.val<|.str "abcdefghijklmnopqrstuvwxyz0123456789",‹c›]) (λ(j:Nat)=>D.int (j:Int)) (λ(j:Nat)=>cS<|sg<|F0 (c/((j:Int)+2)+4*(j:Int)) j) (Bq n) λj q=>#[_,rfl,wl c j (by have:=F4.mp q;lia)];have r:(Bq n).map (λ(j:Nat)=>cS<|sg<|F0 (c/((j:Int)+2)+4*(j:Int)) j)=(wB c n).map cS:=by rw[wB,CP];rfl
 rw[r]at g;have s:((Bq n).map λ(k:Nat)=>D.int (k:Int)).length<=Ax:=by rw[Bi,List.length_range];exact BZ d (by ext)
 have t:=Mq c ((a:Int)+2) (Int.sign_eq_one_iff_pos.mp rfl) (by lia);have u:=H9 (x:=4) (y:=(a:Int)) (by left;decide);have f:=H9 (x:=5) (y:=(k:Int)) (by left;decide);have v:=Ds (c/((a:Int)+2)+4*(a:Int)+5*(k:Int)) (md a) (Q0 a).1;have z:=fX a;have A:=fW _<|Lm (c/((a:Int)+2)+4*(a:Int)+5*(k:Int)) a;have B:([D.int 36,.int 26]:U D).length<=Ax:=by ext
 have C:D2 ((wB c n).map cS).length (a:Int)=Z a:=by
  rw[Bi,Q3];unfold D2;grind
 have E:((wB c n).map cS).set a (cS<|sg<|F0 (c/((a:Int)+2)+4*(a:Int)+5*(k:Int)) a)=(wK c n a k).map cS:=by rw[wK,List.map_set]
 have G:JR ((wK c n a k).map cS)=Z ((wK c n a k).map λc=>(#[(T' [c])]:Ae)):=by
  have:=ai<|(wK c n a k).map λc=>(#[(T' [c])]:Ae);rw[CP]at this;exact this
 have H:(((wK c n a k).map λc=>(#[(T' [c])]:Ae)).map (·.length)).sum+((wK c n a k).map λc=>(#[(T' [c])]:Ae)).length*("":Ae).length<=16777216:=by
  have L:(wK c n a k).length=n:=by simp[wK,Q3]
  have M:((wK c n a k).map λc=>(#[(T' [c])]:Ae)).map (·.length)=(wK c n a k).map λ_=>1:=by rw[CP];rfl
  have N:("":Ae).length=0:=by ext
  grind [fZ]
 erw[J3,AO,Cg,EG,F1,if_true,dj,dh,cX,Za,AU,CC,Cw,BH,Ga,Ea,q0,ZO,Zd,Lo,Mt,Lp,
  dg,cY,Z0,Ey,En,df,cZ,m,Ia,h,db,c0,o,q3,c9,c3,Zn,CL,Ci,Bb,Zh,Zj,p,Ze,if_pos s,Zt,AS,C1,JP,g,Dg]
 erw[c7,c4,Za,AU,CC,Cw,BH,Ia,t,u,f,Wl,CL,Ci,Zh,Zk,EU,pk,L2.intD,Zj,Ze,if_pos B,Zw,z,v,Pn,DF];rw[Q1,A];erw[C,Ey,En,E,Zd,c6,c5,KJ,Zh,Co,CC,Cw,BH,EU,pk,Po,G,if_pos H,Zv,wS]
theorem f3(c w:Int):∃f,fU f/\∀k:Nat,k<6->J3 [‹c›,‹w›,‹(k:Int)›]=Z (.val (aD (f k))):=by
 by_cases l:w=0
 ·subst l;refine#[λk=>.int<|c%10^30-5*10^29+(k:Int),⟨λj k _ _ e=>by injection e with e;lia,λk _=>rfl,λk _=>trivial,λk i m e=>?_⟩,λk _=>wg c k];injection e with e
  have:=Ib c (show(0:Int)<10^30 by ext);have p:(10:Int)^30+6<10^40:=by ext
  have q:(0:Int)<5*10^29:=by ext
  generalize (5:Int)*10^29=B at *;generalize c%10^30=X at *;generalize (10:Int)^30=Y at *;generalize (10:Int)^40=u at *;lia
 ·obtain⟨n,r,h,b⟩:∃n:Nat,1+c%12=(n:Int)/\0<n/\n<=12:=#[(1+c%12).toNat,by lia,by lia,by lia];have p:=Jc (c/12) (show(n:Int)≠0 by lia);have q:=Ib (c/12) (show(0:Int)<(n:Int) by lia);obtain⟨a,s,d⟩:∃a:Nat,c/12%(n:Int)=(a:Int)/\a<n:=#[(c/12%(n:Int)).toNat,by lia,by lia];have g:∀k,EA (aD<|.str<|wS<|wK c n a k)=J'/\Sm (aD<|.str<|wS<|wK c n a k):=λk=>v9 (by rw[Q2];exact wp c n a k h) (by rw[Q2];simp[wK,Q3];lia);refine#[λk=>.str<|wS<|wK c n a k,⟨λj k t m e=>?_,λk _=>(g k).1,λk _=>(g k).2,λk i _ e=>nomatch e⟩,λk _=>wr c w l n a k r b s d];injection e with e
  have o:(wS<|wK c n a j).cps.toList=(wS<|wK c n a k).cps.toList:=by rw[e]
  rw[Q2,Q2]at o;exact wq c n a d t m o
theorem Wn{b:U Int}{P:Int->Prop}(h:∀z∈b,P z)(i:Nat)(a:i<b.length):P (b.getD i 0):=by
 simp_all
abbrev XS(ws:U Int):Sl:=#v[ws.map D.int]
theorem wt(ws:U Int)(q:ws.length=40)(s0 b c d e f g:Sl)(j:Nat)(r:1<=j)(a:j<10)(l:U Int)(h:l.length=j)(hz:∀z∈l,1<=z/\z<=6):∃z,1<=z/\z<=6/\Qk [s0,XS ws,b,c,.own (l.map D.int),‹(j:Int)›,d,e,f,g]=.next [s0,XS ws,b,c,.own ((l++[z]).map D.int),‹(j:Int)›,d,e,f,g]:=by
 have k:=Ms (xs:=ws) (i:=2+(j:Int)) (Mr<|2+j) (by lia);have m:=Ms (xs:=l) (i:=(j:Int)-1) (by lia) (by lia);have s:=Wn hz ((j:Int)-1).toNat (by lia);generalize l.getD ((j:Int)-1).toNat 0=y,ws.getD (2+(j:Int)).toNat 0=w at *;have n:=Ds w y (by lia);have o:=Jc w (show y≠0 by lia);have t:=Ib w (show 0<y by lia);have p:l.length<Ax:=by rw[h];exact B6 a (by ext)
 refine#[1+w%y,by exact Int.le_add_of_nonneg_right o,by lia,?_];erw[Qk,Za,AU,CC,Cw,BH,Ia,wa,Ar,k,m,n,Ge,DF,Bi,if_pos p,Zd,Ey,En,HD,AS,C1]
theorem f4(ws:U Int)(q:ws.length=40)(s0 d f g h i l:Sl):∀(n j:Nat)(x:U Int)(m:Sl),1<=j->j+n<=9->x.length=j->(∀z∈x,1<=z/\z<=6)->∃(c:U Int) (a:Sl),c.length=j+n/\(∀z∈c,1<=z/\z<=6)/\ZC (Zc 5) Qk ((Fc j n).map λ(k:Nat)=>D.int (k:Int)) [s0,XS ws,d,f,.own (x.map D.int),m,g,h,i,l]=.next [s0,XS ws,d,f,.own (c.map D.int),a,g,h,i,l]
 |0,j,x,m,_,_,p,o=>#[x,m,by lia,o,rfl]
 |n+1,j,x,m,r,v,p,o=>by
  obtain⟨z,s,t,e⟩:=wt ws q s0 d f g h i l j r (by lia) x p o;obtain⟨c,a,w,u,q3⟩:=f4 ws q s0 d f g h i l n (j+1) (x++[z]) ‹(j:Int)› (Ku r) (by lia) (by simp[p]) (λy b=>by
   rcases Dw.mp b with b|b
   ·exact o y b
   ·erw[EO]at b;subst b;exact#[s,t])
  refine#[c,a,by lia,u,?_];rw[Lk,AS];erw[ZC,Zc,Ey,En];rw[e];exact q3
def C5(a:Nat->Nat->Nat)(j x:Nat):Nat:=if j=0 then x else a j x
def DV(f:Nat->Nat->At)(a:Nat->Nat->Nat):Nat->Nat->Nat->U At
 |_,_,0=>[]
 |j,x,n+1=>f j (C5 a j x)::DV f a (j+1) (C5 a j x) n
def CU(ws a:U Int)(j x:Nat):Nat:=(ws.getD (7+7*j+x) 0%a.getD j 0).toNat
theorem wu(ws a:U Int)(j x:Nat)(h:1<=a.getD j 0):ws.getD (7+7*j+x) 0%a.getD j 0=(CU ws a j x:Int):=by
 have:=Jc (ws.getD (7+7*j+x) 0) (show a.getD j 0≠0 by exact B2 (Int.ne_of_lt h));unfold CU;exact Eq.symm<|Wo this
theorem f5(ws b:U Int)(j x:Nat)(h:1<=b.getD j 0)(a:b.getD j 0<=6):CU ws b j x<6:=by
 have:=Ib (ws.getD (7+7*j+x) 0) (show 0<b.getD j 0 by exact Int.lt_of_add_one_le h);unfold CU;lia
def cW(c:Int)(ws:U Int):Int:=c+ws.getD 2 0*(ws.getD 6 0%2)
def wW(ws:U Int)(j:Nat):Int:=(ws.getD 7 0+(j:Int)*(ws.getD 8 0%2))%2
def Mu(c:Int)(ws:U Int)(f:Nat->Nat->At):Prop:=∀j,fU (f j)/\∀k:Nat,k<6->J3 [‹cW c ws›,‹wW ws j›,‹(k:Int)›]=Z (.val (aD (f j k)))
theorem wv(c:Int)(ws:U Int):∃f,Mu c ws f:=#[λj=>Classical.choose<|f3 (cW c ws)<|wW ws j,λj=>Classical.choose_spec<|f3 (cW c ws)<|wW ws j]
theorem Ka(ws:U Int)(a:ws.length=40)(i:Nat)(b:i<40):atI (ws.map D.int) (i:Int)=Z (.int (ws.getD i 0)):=by
 have:=Ms (xs:=ws) (La i) (by lia);grind
theorem ww(c:Int)(ws:U Int)(b:ws.length=40)(f:Nat->Nat->At)(v:Mu c ws f)(d e g h:Sl)(R:U Int)(hz:∀z∈R,1<=z/\z<=6)(j x:Nat)(q:j<R.length)(w:j<4)(A:x<6)(acc:U At)(B:acc.length<100):NX [‹c›,XS ws,d,e,.own (R.map D.int),‹(j:Int)›,g,h,.own (acc.map aD),‹(x:Int)›]=.next [‹c›,XS ws,d,e,.own (R.map D.int),‹(j:Int)›,g,h,.own ((acc++[f j (C5 (CU ws R) j x)]).map aD),‹(C5 (CU ws R) j x:Int)›]:=by
 have k:=Wn hz j q;have C:=Ka ws b 2<|LM rfl;have E:=Ka ws b 6<|LM rfl;have G:=Ka ws b 7<|LM rfl;have H:=Ka ws b 8<|LM rfl;have S:acc.length<Ax:=B6 B (by ext);have F:=Ds (ws.getD 6 0) 2 (by ext);have L:=Ds (ws.getD 8 0) 2 (by ext);have M:DY (ws.getD 2 0) (ws.getD 6 0%2):=by right;constructor<;>lia
 have N:DY (j:Int) (ws.getD 8 0%2):=by right;constructor<;>lia
 have K:=H9 M;have Q:=H9 N;have vw:=Ds (ws.getD 7 0+(j:Int)*(ws.getD 8 0%2)) 2 (by ext);have cond:AE (EW (.int (j:Int))<|.int 0)=Z (decide<|0<(j:Int)):=rfl;have fin:∀y:Nat,y<6->(Zd (Ge 8 ((Zi J3<|λa=>Zh (CL<|(Za Zu (λa=>AU a 0) (Za EV (Za Ar (λa=>AU a 1) (λ_=>Z<|.int 2)) (Za ZS (Za Ar (λa=>AU a 1) (λ_=>Z<|.int 6)) (λ_=>Z<|.int 2)))) a) (Zh (CL<|(Za ZS (Za Zu (Za Ar (λa=>AU a 1) (λ_=>Z<|.int 7)) (Za EV (λa=>AU a 5) (Za ZS (Za Ar (λa=>AU a 1) (λ_=>Z<|.int 8)) (λ_=>Z<|.int 2)))) (λ_=>Z<|.int 2)) a) (Zh (Co a 9)<|some []))) [‹c›,XS ws,d,e,.own<|R.map D.int,‹(j:Int)›,g,h,.own<|acc.map aD,‹(y:Int)›]) [‹c›,XS ws,d,e,.own<|R.map D.int,‹(j:Int)›,g,h,.own<|acc.map aD,‹(y:Int)›]) (λa=>.next a))=.next [‹c›,XS ws,d,e,.own<|R.map D.int,‹(j:Int)›,g,h,.own<|(acc++[f j y]).map aD,‹(y:Int)›]:=λy T=>by
  have r:=(v j).2 y T;unfold cW wW at r;have l:atI (ws.map D.int) 2=Z (.int<|ws.getD 2 0):=C;have m:atI (ws.map D.int) 6=Z (.int<|ws.getD 6 0):=E;have n:atI (ws.map D.int) 7=Z (.int<|ws.getD 7 0):=G;have o:atI (ws.map D.int) 8=Z (.int<|ws.getD 8 0):=H;erw[Zi,Za,AU,Co,CC,Cw,BH,Ar,l,m,n,o,F,L,K,Q,Ia,vw,CL,Ci,Zh,r,CY,Ge,DF,Bi,if_pos S,Zd,Ey,En,HD,AS,C1]
 by_cases s:j=0
 ·subst s;have:=fin x A;unfold NX;erw[Za,AU,CC,Cw,BH,cond]at this ⊢;have hd:decide (0<((0:Nat):Int))=O':=by ext
  exact this
 ·have hd:decide (0<(j:Int))=J':=decide_eq_true (by lia);have P:=Ka ws b (7+7*j+x) (by lia);have p:atI (ws.map D.int) (7+7*(j:Int)+(x:Int))=Z (.int<|ws.getD (7+7*j+x) 0):=by
   rw[<- P];congr 1
  have t:=Ms (xs:=R) (i:=(j:Int)) (La j) (Int.ofNat_lt.mpr q);rw[GD]at t;have u:=Ds (ws.getD (7+7*j+x) 0) (R.getD j 0) (by lia);rw[wu ws R j x k.1]at u;have Y:=H9 (x:=7) (y:=(j:Int)) (by left;decide);have:=fin (CU ws R j x)<|f5 ws R j x k.1 k.2;have he:C5 (CU ws R) j x=CU ws R j x:=if_neg s;unfold NX;rw[he];erw[Za,AU,CC,Cw,BH,cond,hd,ZO,Y,Ia,Ar,p,t,u,Z0,Zd,Ey,En]at this ⊢;exact this
theorem Wp(ws c:U Int)(hz:∀z∈c,1<=z/\z<=6)(j x:Nat)(b:j<c.length)(a:x<6):C5 (CU ws c) j x<6:=by
 unfold C5;split
 ·exact a
 ·simp_all [Wn,f5]
theorem f6(c:Int)(ws:U Int)(o:ws.length=40)(f:Nat->Nat->At)(p:Mu c ws f)(d g h i:Sl)(v:U Int)(hz:∀z∈v,1<=z/\z<=6):∀(n j x:Nat)(acc:U At)(l:Sl),j+n<=v.length->j+n<=4->x<6->acc.length+n<100->∃(a:Sl) (b:Sl),ZC (Zc 5) NX ((Fc j n).map λ(k:Nat)=>D.int (k:Int)) [‹c›,XS ws,d,g,.own (v.map D.int),l,h,i,.own (acc.map aD),‹(x:Int)›]=.next [‹c›,XS ws,d,g,.own (v.map D.int),a,h,i,.own ((acc++DV f (CU ws v) j x n).map aD),b]
 |0,j,x,acc,l,_,_,_,_=>#[l,_,by simp[ZC,DV];rfl]
 |n+1,j,x,acc,l,r,t,s,u=>by
  have m:=Wp ws v hz j x (Dz r) s;have e:=ww c ws o f p d g h i v hz j x (Dz r) (Dz t) s acc<|Dz u;obtain⟨a,b,q⟩:=f6 c ws o f p d g h i v hz n (j+1) (C5 (CU ws v) j x) (acc++[f j<|C5 (CU ws v) j x]) ‹(j:Int)› (by lia) (by lia) m (by simp;lia);refine⟨a,b,?_⟩;rw[Lk,AS];erw[ZC,Zc,Ey,En];rw[e];simp only;rw[q];erw[DV,Mc,List.singleton_append]
structure GL(ls:BR)(p:Nat):Prop where
 n1:1<=ls.length
 n6:ls.length<=6
 p1:1<=p
 p4:p<=4
 len:∀l∈ls,l.length=p
 val:∀l∈ls,∀a∈l,EA (aD a)=J'/\Sm (aD a)/\∀i,a=.int i->i<10^40
 hdn:(ls.map hd).Nodup
 fn:BS (ls.flatMap (Eo 0))
theorem wx(l:U At)(a:BR)(b:∀x∈l::a,x≠[]):Mp (l::a)=J'↔(∀x∈l::a,x.length=l.length)/\((l::a).map hd).Nodup/\BS ((l::a).flatMap (Eo 0)):=by
 show Fz l.length [] [] (l::a)=J'↔_
 rw[fM,fN (Eo 0) _ _ _ _ List.nodup_nil v7 b,Ea,Ea]
theorem GL.ne{a:BR}{p:Nat}(h:GL a p):∀x∈a,x≠[]:=λx b e=>by
 have:=h.len x b;have:=h.p1;grind
theorem GL.go{a:BR}{p:Nat}(h:GL a p):Mp a=J':=by
 cases a with|nil=>rfl|cons l a=>
  rw[wx l a h.ne];exact#[λx b=>by rw[h.len x b,h.len l Ba],h.hdn,h.fn]
theorem GL.take{b:BR}{p:Nat}(h:GL b p)(n:Nat)(g:1<=n):GL (b.take n) p:=by
 have c:∀x∈b.take n,x∈b:=λx i=>List.mem_of_mem_take i;refine#[?_,?_,h.p1,h.p4,λl a=>h.len l<|c l a,λl a=>h.val l<|c l a,?_,?_]
 ·rw[List.length_take];have:=h.n1;exact Nat.le_min_of_le_of_le g this
 ·rw[List.length_take];have:=h.n6;lia
 ·rw[List.map_take];exact h.hdn.sublist<|List.take_sublist _ _
 ·intro k t j m o;obtain⟨l,a,e⟩:=Mv.mp m;obtain⟨f,d,q⟩:=Mv.mp o;exact h.fn k t j (Mv.mpr #[l,c l a,e])<|Mv.mpr ⟨f,c f d,q⟩
theorem Q5(f:Nat->Nat->At)(a:Nat->Nat->Nat):∀(n j x:Nat),(DV f a j x n).length=n
 |0,_,_=>rfl
 |n+1,j,x=>by simp[DV,Q5 f a n]
def Hk(a:Nat->Nat->Nat)(j x:Nat):Nat->Nat
 |0=>C5 a j x
 |i+1=>Hk a (j+1) (C5 a j x) i
theorem Q6(f:Nat->Nat->At)(a:Nat->Nat->Nat):∀(i n j x:Nat),i<n->(DV f a j x n)[i]?=Z (f (j+i) (Hk a j x i))/\(DV f a j x n).drop (i+1)=DV f a (j+i+1) (Hk a j x i) (n-i-1)
 |_,0,_,_,h=>by lia
 |0,n+1,j,x,_=>by simp[DV,Hk]
 |i+1,n+1,j,x,h=>by
  obtain⟨b,c⟩:=Q6 f a i n (j+1) (C5 a j x) (by lia);refine#[?_,?_]
  ·erw[DV,CC,Hk];rw[b,show j+1+i=j+(i+1) by lia]
  ·erw[DV,List.drop_succ_cons,Hk];rw[c,show j+1+i+1=j+(i+1)+1 by lia,show n-i-1=n+1-(i+1)-1 by lia]
theorem f7(ws c:U Int)(hz:∀z∈c,1<=z/\z<=6):∀(i j x:Nat),j+i<c.length->x<6->Hk (CU ws c) j x i<6
 |0,j,x,a,b=>Wp ws c hz j x (Nat.lt_of_succ_le a) b
 |i+1,j,x,a,b=>f7 ws c hz i (j+1) _ (by lia)<|Wp ws c hz j x (Dz a) b
theorem wy(c:Int)(ws:U Int)(f:Nat->Nat->At)(s:Mu c ws f)(R:U Int)(hz:∀z∈R,1<=z/\z<=6)(p m:Nat)(hp:R.length=p)(p1:1<=p)(p4:p<=4)(m1:1<=m)(P:m<=6)(a:Nat->Nat)(G:∀k,k<m->a k<6)(u:∀j k,j<m->k<m->a j=a k->j=k):GL ((Bq m).map λk=>DV f (CU ws R) 0 (a k) p) p:=by
 have H:∀(k i:Nat),k<m->i<p->(DV f (CU ws R) 0 (a k) p)[i]?=Z (f i<|Hk (CU ws R) 0 (a k) i)/\Hk (CU ws R) 0 (a k) i<6:=λk i h d=>by
  have:=(Q6 f (CU ws R) i p 0 (a k) d).1;rw[Hl]at this;exact#[this,f7 ws R hz i 0 (a k) (by lia)<|G k h]
 refine#[by simpa using m1,by simpa using P,p1,p4,λl w=>?_,λl w b Y=>?_,?_,?_]
 ·obtain⟨k,_,rfl⟩:=Bp.mp w;exact Q5 _ _ _ _ _
 ·obtain⟨k,h,rfl⟩:=Bp.mp w;obtain⟨i,u,e⟩:=List.mem_iff_getElem.mp Y;have d:i<p:=by rw[Q5]at u;exact u
  obtain⟨r,A⟩:=H k i (F4.mp h) d;rw[CK u,e]at r;injection r with r
  subst r;exact#[(s i).1.val _ A,(s i).1.sm _ A,λn hn=>(s i).1.lt _ n A hn]
 ·rw[CP];refine List.pairwise_map.mpr<|List.Pairwise.imp_of_mem (λ{x y} B C S e=>S ?_) (List.nodup_range);have B:=F4.mp B;have C:=F4.mp C;have h0:∀k,hd (DV f (CU ws R) 0 (a k) p)=f 0 (a k):=λk=>by
   obtain⟨q,rfl⟩:∃q,p=q+1:=#[p-1,by exact(Nat.sub_eq_iff_eq_add p1).mp rfl];rfl
  have e:f 0 (a x)=f 0 (a y):=by grind
  exact u x y B C<|(s 0).1.inj _ _ (G x B) (G y C) e
 ·rintro⟨i,v⟩ t t' h1 h2;obtain⟨l,w,e⟩:=Mv.mp h1;obtain⟨l',F,e'⟩:=Mv.mp h2;obtain⟨k,h,rfl⟩:=Bp.mp w;obtain⟨L,o,rfl⟩:=Bp.mp F;have h:=F4.mp h;have o:=F4.mp o;obtain⟨n,K,E,Q⟩:=(Wk _ _ _).mp e;obtain⟨g,b1,M,T⟩:=(Wk _ _ _).mp e';erw[Hl]at K b1 E M Q T;subst K;have N:g=i:=by lia
  subst N;have d:g<p:=by
   have:=(C8.mp E).1;rw[Q5]at this;exact this
  obtain⟨r,A⟩:=H k g h d;obtain⟨g3,g4⟩:=H L g o d;rw[r]at E;rw[g3]at M;have eq:=(s g).1.inj _ _ A g4 (by rw[GX E,GX M]);rw[Q,T,(Q6 f (CU ws R) g p 0 (a k) d).2,(Q6 f (CU ws R) g p 0 (a L) d).2,eq]
def aW(ws:U Int)(m k:Nat):Nat:=(((k:Int)+ws.getD 2 0)%(m:Int)).toNat
theorem Wq(ws:U Int)(m k:Nat)(a:0<m):((k:Int)+ws.getD 2 0)%(m:Int)=(aW ws m k:Int):=by
 have:=Jc ((k:Int)+ws.getD 2 0) (show(m:Int)≠0 by exact Int.natCast_ne_zero_iff_pos.mpr a);unfold aW;exact Eq.symm<|Wo this
theorem f8(ws:U Int)(m k:Nat)(a:0<m):aW ws m k<m:=by simp_all [Jc,Ib,aW]
theorem wz(c:Int)(m j k:Nat)(a:m<=6)(b:j<m)(d:k<m)(e:((j:Int)+c)%(m:Int)=((k:Int)+c)%(m:Int)):j=k:=by
 have:m=1\/m=2\/m=3\/m=4\/m=5\/m=6:=by lia
 rcases this with rfl|rfl|rfl|rfl|rfl|rfl<;>lia
theorem wA(c:Int)(ws:U Int)(e:ws.length=40)(f:Nat->Nat->At)(j:Mu c ws f)(y:U Int)(hz:∀z∈y,1<=z/\z<=6)(p m k:Nat)(x:y.length=p)(p4:p<=4)(m1:1<=m)(l:m<=6)(acc:BR)(n:acc.length<100)(g o r:Sl):∃a d b,Ql [‹c›,XS ws,‹(m:Int)›,‹(p:Int)›,.own (y.map D.int),g,.own (acc.map Aj),‹(k:Int)›,o,r]=.next [‹c›,XS ws,‹(m:Int)›,‹(p:Int)›,.own (y.map D.int),a,.own ((acc++[DV f (CU ws y) 0 (aW ws m k) p]).map Aj),‹(k:Int)›,d,b]:=by
 have s:atI (ws.map D.int) 2=Z (.int<|ws.getD 2 0):=Ka ws e 2<|LM rfl;have h:=Ds ((k:Int)+ws.getD 2 0) (m:Int)<|Int.natCast_pos.mpr m1;rw[Wq ws m k<|Nat.zero_lt_of_lt m1]at h;have i:=NP p (by lia);rw[Ll]at i;have t:=f8 ws m k<|Nat.zero_lt_of_lt m1;obtain⟨a,b,q⟩:=f6 c ws e f j ‹(m:Int)› ‹(p:Int)› (.own<|acc.map Aj) ‹(k:Int)› y hz p 0 (aW ws m k) [] g (by lia) (by lia) (B6 t l) (by simp;lia);erw[C1,Ea]at q;have u:(0:Nat)<=Ax:=FD _;have v:acc.length<Ax:=B6 n (by ext);have w:D5 [.lst<|(DV f (CU ws y) 0 (aW ws m k) p).map aD]=Z (Aj<|DV f (CU ws y) 0 (aW ws m k) p):=rfl;refine#[a,.own<|(DV f (CU ws y) 0 (aW ws m k) p).map aD,b,?_];rwa[Ql,Ze,if_pos u,Dg,Ar,s,Ia,h,Z4,i,q,Ge,DF,w,Bi,if_pos v,HD]
theorem f9(c:Int)(ws:U Int)(r:ws.length=40)(f:Nat->Nat->At)(s:Mu c ws f)(y:U Int)(hz:∀z∈y,1<=z/\z<=6)(p m:Nat)(t:y.length=p)(p4:p<=4)(m1:1<=m)(u:m<=6):∀(n k:Nat)(acc:BR)(i o j l:Sl),acc.length+n<100->∃(a b d g:Sl),ZC (Zc 7) Ql ((Fc k n).map λ(k:Nat)=>D.int (k:Int)) [‹c›,XS ws,‹(m:Int)›,‹(p:Int)›,.own (y.map D.int),i,.own (acc.map Aj),o,j,l]=.next [‹c›,XS ws,‹(m:Int)›,‹(p:Int)›,.own (y.map D.int),a,.own ((acc++(Fc k n).map λk=>DV f (CU ws y) 0 (aW ws m k) p).map Aj),b,d,g]
 |0,k,acc,i,o,j,l,_=>#[i,o,j,l,by simp[ZC]]
 |n+1,k,acc,i,o,j,l,h=>by
  obtain⟨v,w,x,e⟩:=wA c ws r f s y hz p m k t p4 m1 u acc (Dz h) i j l;obtain⟨a,b,d,g,q⟩:=f9 c ws r f s y hz p m t p4 m1 u n (k+1) (acc++[DV f (CU ws y) 0 (aW ws m k) p]) v ‹(k:Int)› w x (by simp;lia);refine#[a,b,d,g,?_];rw[Lk,AS];rwa[ZC];simp_all
theorem gb{l:U Nat}(h:l.length=8)(c:∀m∈l,1<=m/\m<=4)(x:Int):∃p:Nat,1<=p/\p<=4/\atI (l.map λm:Nat=>D.int m) (x%8)=Z (.int (p:Int)):=by
 obtain⟨i,d,a⟩:∃i:Nat,x%8=(i:Int)/\i<l.length:=#[(x%8).toNat,by lia,by lia];have b:=c _<|Hb a;exact⟨_,b.1,b.2,by rw[d];exact ZU (by simp[a])⟩
theorem wC(x:Int):∃p:Nat,1<=p/\p<=4/\atI [D.int 2,.int 1,.int 3,.int 2,.int 3,.int 4,.int 2,.int 3] (x%8)=Z (.int (p:Int)):=gb (l:=[2,1,3,2,3,4,2,3]) rfl (by ext) x
theorem wD(c:Int):∃n p,GL n p/\Qm [‹c›]=Z (.own (n.map Aj)):=by
 obtain⟨a,w,b,_⟩:=wd c;obtain⟨f,o⟩:=wv c a;have x:atI (a.map D.int) 0=Z (.int<|a.getD 0 0):=Ka a b 0 (by lia);have y:atI (a.map D.int) 1=Z (.int<|a.getD 1 0):=Ka a b 1 (by lia);have A:=Ds (a.getD 0 0) 6 (by ext);have B:=Ds (a.getD 1 0) 8 (by ext);obtain⟨m,C,m1,d⟩:∃m:Nat,1+a.getD 0 0%6=(m:Int)/\1<=m/\m<=6:=#[(1+a.getD 0 0%6).toNat,by lia,by lia,by lia];obtain⟨p,p1,p4,E⟩:=wC<|a.getD 1 0;have r:=u7 1 (p:Int) (by ext) (by ext) (by lia) (by lia);have g:(Bq ((p:Int)-1).toNat).map (λ(k:Nat)=>D.int<|1+(k:Int))=(Fc 1<|p-1).map λ(k:Nat)=>D.int (k:Int):=by
  rw[List.range'_eq_map_range,CP,show((p:Int)-1).toNat=p-1 by lia];refine Wr λk _=>?_;show D.int (1+(k:Int))=D.int ((1+k:Nat):Int)
  congr 1
 rw[g]at r;obtain⟨P,G,K,s,t⟩:=f4 a b (.val<|.int c) (.val<|.int (m:Int)) (.val<|.int (p:Int)) .no .no .no .no (p-1) 1 [(m:Int)] .no (by lia) (by lia) rfl (λz u=>by erw[EO]at u;subst u;lia);have v:=NP m (by lia);rw[Ll]at v;obtain⟨H,Q,F,L,q⟩:=f9 c a b f o P s p m (by lia) p4 m1 d m 0 [] G .no .no .no (by simp;lia);erw[C1,Ea]at q;have h:(0:Nat)<=Ax:=FD _;have i:(1:Nat)<=Ax:=by ext
 have l:(8:Nat)<=Ax:=by ext
 refine#[(Fc 0 m).map λk=>DV f (CU a P) 0 (aW a m k) p,p,?_,?_]
 ·rw[<- Ll];exact wy c a f o P s p m (by lia) p1 p4 m1 d (aW a m) (λk _=>by have:=f8 a m k (by lia);lia) λj k M N e=>wz (a.getD 2 0) m j k d M N (by rw[Wq a m j (by lia),Wq a m k (by lia),e])
 ·erw[AS,C1]at t;erw[Qm,AO,Cg,EG,F1,if_true,dV,dU,dE,Zi,Co,CC,Cw,Ga,Ea,CL,Ci,Zh,BH,w,CY,Z0,Zd,Lo,Mt,Lp,Ey,En,
   dT,dF,Za,AU,Ar,x,A,Ia,C,dR,dG,Zj,Ze,Cg,EG,if_pos l,Zw,y,B,E,dQ,dH,Bb,if_pos i,Dg]
  erw[dP,dI,Z4,Bb,CC,Cw,CL,Ci,Zh,BH,Zj,r,t,Zd,dO,dJ,Ze,EG,if_pos h,Dg,Ey,En,dN,dK,v,q,dM,dL,DF,C9]
abbrev LD(a:BR):D:=.lst (a.map Aj)
theorem wE(ns:U Int)(k:Nat):∃a,(∃p,GL a p)/\Qr [‹(k:Int)›,#v[ns.map D.int]]=Z (LD a):=by
 have b:=On #v[ns.map D.int] ns (.inl rfl) (1+(k:Int))<|Mr<|1+k;have c:=H9 (x:=1000) (y:=(k:Int)) (by left;decide);obtain⟨a,p,d,e⟩:=wD<|ns.getD (1+(k:Int)).toNat 0+1000*(k:Int);refine⟨a,⟨p,d⟩,?_⟩;rwa[Qr,Ia,b,c,CY,e]
theorem wF(x:Int):∃m:Nat,1<=m/\m<=4/\atI [D.int 2,.int 1,.int 2,.int 3,.int 1,.int 2,.int 3,.int 4] (x%8)=Z (.int (m:Int)):=gb (l:=[2,1,2,3,1,2,3,4]) rfl (by ext) x
structure BY(Ls:A2):Prop where
 n1:1<=Ls.length
 n4:Ls.length<=4
 good:∀ls∈Ls,∃p,GL ls p
theorem wG(a:BR):Qs [.val (LD a)]=Z (LD (a.take 3)):=by
 have:=cE (a.map Aj) 3 (by ext);rwa[Qs,DR,DG,D3,this];simp_all
theorem wH(ns:U Int):∃c,BY c/\NZ [#v[ns.map D.int]]=Z (.own (c.map LD)):=by
 have n:=On #v[ns.map D.int] ns (.inl rfl) 0 (by ext);obtain⟨m,m1,i,o⟩:=wF<|ns.getD (0:Int).toNat 0;have q:=Ds (ns.getD (0:Int).toNat 0) 8 (by ext);have r:=NP m (by lia);obtain⟨c,s,d,t⟩:=fT (b:=Zc 0) (e:=Qr) (ρ:=[.no,#v[ns.map D.int]]) (λ(k:Nat)=>D.int (k:Int)) LD (λa=>∃p,GL a p) (Bq m) λk _=>by
  simp_all [wE]
 rw[List.length_range]at d;have f:(8:Nat)<=Ax:=by ext
 have g:((Bq m).map λ(k:Nat)=>D.int (k:Int)).length<=Ax:=by rw[Bi,List.length_range];exact BZ i (by ext)
 have l:(c.map LD).length<=Ax:=by rw[Bi,d];exact BZ i (by ext)
 have u:=ZA (b:=Zc 0) (e:=Qs) (ρ:=[.no]) LD (λa=>LD<|a.take 3) c λa _=>#[_,rfl,wG a];have y:c.map (λa=>LD<|a.take 3)=(c.map λa=>a.take 3).map LD:=by rw[CP];rfl
 rw[y]at u;have j:=Wl (m:Int) 4;by_cases w:(m:Int)=4
 ·refine#[c.map λa=>a.take 3,#[by rw[Bi];exact le_of_le_of_eq m1 d.symm,by rw[Bi];exact le_of_eq_of_le d i,λa h=>?_],?_]
  ·obtain⟨z,A,rfl⟩:=Bp.mp h;obtain⟨p,B⟩:=t z A;exact#[p,B.take 3 (by ext)]
  ·rw[decide_eq_true w]at j;rwa[NZ,AO,F1,UJ,UI,UB,Ga,Ea,n,CY,q,Ze,if_pos f,Ar,o,Lo,Mt,Lp,UH,UC,Zn,r,if_pos g,Zt,JP,s,UG,UD,j,if_pos l,u,UF,UE,C9,DF,Dg,Hj,JN]
 ·refine#[c,#[by exact le_of_le_of_eq m1 d.symm,by exact le_of_eq_of_le d i,t],?_];rw[decide_eq_false w]at j;rwa[NZ,AO,F1,UJ,UI,UB,Ga,Ea,n,CY,q,Ze,if_pos f,Ar,o,Lo,Mt,Lp,UH,UC,Zn,r,if_pos g,Zt,JP,s,UG,UD,j,UF,UE,C9,DF,Dg,Hj,JN]
theorem wI(xs:U D)(e:1<=xs.length)(f:xs.length<=40)(b:Bool)(a:IW [#v[xs]]=Z (.val (.bl b))):J5 [#v[xs]]=Z (.val (.bl b)):=by
 have c:¬ ((xs.length:Int)<1):=by lia
 have d:¬ (40:Int)<(xs.length:Int):=by lia
 simp[J5,AO,d8,c,d,a]
theorem wJ{l:U At}(b:1<=l.length)(c:l.length<=4)(d:∀a∈l,EA (aD a)=J'):DO (Aj l)=J':=by grind [Aj,DO]
theorem wL{a b:U At}(h:Aj a=Aj b):a=b:=by
 have:=QY a b;grind [QY]
theorem Ws:∀{a b:BR},a.map Aj=b.map Aj->a=b
 |[],[],_=>rfl
 |[],_::_,h=>nomatch h
 |_::_,[],h=>nomatch h
 |x::a,y::b,h=>by
  erw[AS,Pq]at h;rw[wL h.1,Ws h.2]
structure Ln(l:List At):Prop where
 l1:1<=l.length
 l4:l.length<=4
 val:∀a∈l,EA (aD a)=J'/\Sm (aD a)
theorem Ln.sml{l:U At}(h:Ln l):Mo (Aj l):=#[by rw[Bi];have:=h.l4;lia,λx b=>by obtain⟨a,c,rfl⟩:=Bp.mp b;exact(h.val a c).2]
theorem wM(b:BR)(f:1<=b.length)(i:b.length<=40)(c:∀l∈b,Ln l):J5 [.val (LD b)]=Z (.val (.bl (Mp b))):=by
 have j:∀x∈b.map Aj,Mo x:=λx d=>by obtain⟨l,h,rfl⟩:=Bp.mp d;exact(c l h).sml
 refine wI _ (by simpa using f) (by simpa using i) _ ?_;rcases v6 (b.map Aj) j (by rw[Bi];lia)with⟨a,_⟩|⟨_,k,e,_,g⟩
 ·have:=D4.mpr λx d=>by
   obtain⟨l,h,rfl⟩:=Bp.mp d;exact wJ (c l h).l1 (c l h).l4 λa m=>((c l h).val a m).1
  simp[this]at a
 ·rw[Ws e];rw[Ws e]at g;exact g
theorem GL.ln{c:BR}{p:Nat}(h:GL c p):∀l∈c,Ln l:=λl b=>#[by rw[h.len l b];exact h.p1,by rw[h.len l b];exact h.p4,λa d=>#[(h.val l b a d).1,(h.val l b a d).2.1]]
theorem GL.il{a:BR}{p:Nat}(h:GL a p):J5 [.val (LD a)]=Z (.val (.bl J')):=by
 rw[wM a h.n1 (by have:=h.n6;lia) h.ln,h.go]
theorem wN{a:Type}(G:a->D)(F:a->Bool)(xs:U a)(h:∀x∈xs,J5 [.val (G x)]=Z (.val (.bl (F x)))):ZX (Zc 0) (λ_=>Z J') QF [.no] (xs.map G)=Z ((xs.map F).map D.bl):=by
 have:=ZA (b:=Zc 0) (e:=QF) (ρ:=[.no]) G (λx=>D.bl<|F x) xs λx c=>#[[.val<|G x],rfl,by rwa[QF,h x c,CY]];simp_all
theorem wO{a:Type}(G:a->D)(F:a->Bool)(xs:U a)(j:1<=xs.length)(d:xs.length<=4)(h:∀x∈xs,J5 [.val (G x)]=Z (.val (.bl (F x)))):Ob [#v[xs.map G]]=Z (.val (.bl (xs.all F))):=by
 have e:¬ ((xs.length:Int)<1):=by lia
 have f:¬ (4:Int)<(xs.length:Int):=by lia
 have g:=wN G F xs h;have i:xs.length<=Ax:=BZ d (by ext);have c:(xs.map F).all id=xs.all F:=by rw[HB];rfl
 have b:=c;simp[Ob,AO,d9,e,f,i,Zt,g,-CP,c,b]
theorem BY.al{a:A2}(h:BY a):Ob [#v[a.map LD]]=Z (.val (.bl J')):=by
 rw[wO LD (λ_=>J') a h.n1 h.n4 λb c=>by obtain⟨p,d⟩:=h.good b c;exact d.il];simp
abbrev CF(a:A2):D:=.tup (a.map λ_=>D.int 0)
theorem Q7{a:A2}(h:BY a):Lc [#v[a.map LD]]=Z (.val (CF a)):=by
 have c:=h.n4;have d:(a.map LD).length<=Ax:=by rw[Bi];exact BZ c (by ext)
 have f:=ZA (b:=Zc 0) (e:=cH) (ρ:=[.no]) LD (λ_=>D.int 0) a λg _=>#[[.val<|LD g],rfl,rfl];have i:D5 [.lst<|a.map λ_=>D.int 0]=Z (CF a):=rfl;rwa[Lc,AO,F1,cI,Lo,Lp,D0,Zn,Ze,if_pos d,Zt,Mt,f,i]
structure TO{α:Type}(lt:α->α->Bool):Prop where
 asym:∀a b,lt a b=J'->lt b a=O'
 neg:∀a b c,lt a c=J'->lt a b=J'\/lt b c=J'
 anti:∀a b,lt a b=O'->lt b a=O'->a=b
noncomputable def Jd{a:Type}(lt:a->a->Bool)(x:a):U a->U a
 |[]=>[x]
 |y::r=>if lt x y then x::y::r else y::Jd lt x r
def Zz{a:Type}(lt:a->a->Bool):U a->U a
 |[]=>[]
 |x::r=>Jd lt x (Zz lt r)
theorem Wt{a:Type}(lt:a->a->Bool)(x:a):∀l,(Jd lt x l).Perm (x::l)
 |[]=>.refl _
 |y::r=>by
  unfold Jd;split
  ·exact .refl _
  ·exact((Wt lt x r).cons y).trans<|.swap x y r
theorem ZE{a:Type}(lt:a->a->Bool):∀l,(Zz lt l).Perm l
 |[]=>.refl _
 |x::r=>(Wt lt x _).trans<|(ZE lt r).cons x
theorem gc{c:Type}{lt:c->c->Bool}(T:TO lt)(x:c):∀l:U c,l.Pairwise (λa b=>lt b a=O')->(Jd lt x l).Pairwise λa b=>lt b a=O'
 |[],_=>by simp[Jd]
 |y::r,g=>by
  obtain⟨h,i⟩:=Mb.mp g;unfold Jd;split
  ·next f=>
   refine Mb.mpr #[λz d=>?_,g];rcases Bo.mp d with e|d
   ·subst e;exact T.asym x z f
   ·cases j:lt z x with|false=>rfl|true=>
     rcases T.neg z y x j with q|q
     ·simp[h z d]at q
     ·simp[T.asym x y f]at q
  ·next f=>
   refine Mb.mpr #[λz d=>?_,gc T x r i];grind [Wt]
theorem Q8{c:Type}{lt:c->c->Bool}(T:TO lt):∀l:U c,(Zz lt l).Pairwise λa b=>lt b a=O'
 |[]=>.nil
 |x::r=>gc T x _<|Q8 T r
theorem wP{c:Type}{lt:c->c->Bool}(T:TO lt){xs ys:U c}(d:ys.Perm xs)(e:ys.Pairwise λa b=>lt b a=O'):ys=Zz lt xs:=List.Perm.eq_of_pairwise (λa b _ _ f g=>T.anti a b g f) e (Q8 T xs) (d.trans (ZE _ xs).symm)
theorem ge{a:Type}(f:a->D)(lt:a->a->Bool)(b:D->D->Bool)(x:a):∀l:U a,(∀y∈l,b (f x) (f y)=lt x y)->IJ b (f x) (l.map f)=(Jd lt x l).map f
 |[],_=>rfl
 |y::r,h=>by
  have c:=h y Ba;have d:=ge f lt b x r λz e=>h z<|Be _ e;erw[AS,IJ,Jd,c,d];split<;>rfl
theorem gg{a:Type}(f:a->D)(lt:a->a->Bool)(b:D->D->Bool):∀l:U a,(∀x∈l,∀y∈l,b (f x) (f y)=lt x y)->E9 b (l.map f)=(Zz lt l).map f
 |[],_=>rfl
 |x::r,h=>by
  have c:=gg f lt b r λy d z e=>h y (Be _ d) z<|Be _ e;erw[AS,E9,Zz,c];grind [ge,ZE]
theorem Wu{l:Type}{F:U Sl->O Rv}(f:l->D){lt:l->l->Bool}(T:TO lt)(b:Bool)(xs:U l)(few:xs.length<64)(m:l->D)(tells:∀a∈xs,F [.val (f a)]=Z (.val (m a)))(mode:∀a∈xs,Cq b (m a))(cmp:∀a∈xs,∀c∈xs,ltN 6 (m a) (m c)=Z (lt a c)):FQ F (xs.map f)=Z ((Zz lt xs).map f):=by
 have n:∀a∈xs,DK F (f a)=m a:=λa d=>by unfold DK;rw[tells a d];rfl
 have j:∀a∈xs,∀c∈xs,CD F (f a) (f c)=lt a c:=λa d c g=>aV (by rw[n a d,n c g];exact cmp a d c g)
 have ok:Bn F (xs.map f):={
  few:=by simpa using few
  tells:=λx i=>by obtain⟨a,d,rfl⟩:=Bp.mp i;exact#[_,tells a d]
  mode:=#[b,λx i=>by obtain⟨a,d,rfl⟩:=Bp.mp i;rw[n a d];exact mode a d]
  cmp:=λx i y k=>by
   grind
  asym:=λx i y k h=>by
   obtain⟨a,d,rfl⟩:=Bp.mp i
   obtain⟨c,g,rfl⟩:=Bp.mp k
   rw[j a d c g]at h;rw[j c g a d];exact T.asym a c h
  neg:=λx i y k z r h=>by
   obtain⟨a,d,rfl⟩:=Bp.mp i
   obtain⟨c,g,rfl⟩:=Bp.mp k
   obtain⟨e,o,rfl⟩:=Bp.mp r
   rw[j a d e o]at h;rw[j a d c g,j c g e o];exact T.neg a c e h
  anti:=λx i y k p q=>by
   obtain⟨a,d,rfl⟩:=Bp.mp i
   obtain⟨c,g,rfl⟩:=Bp.mp k
   rw[j a d c g]at p;rw[j c g a d]at q;rw[T.anti a c p q]}
 rw[q5 ok,gg f lt _ xs j]
noncomputable def Do{b:Type}[DecidableEq b]:O b->U b->U b
 |_,[]=>[]
 |p,a::r=>if p=Z a then Do p r else a::Do (Z a) r
theorem gh{c:Type}[DecidableEq c]:∀(l:U c)(p:O c),l.Nodup->(∀a,p=Z a->a∉l)->Do p l=l
 |[],_,_,_=>rfl
 |a::r,p,h,d=>by
  obtain⟨f,g⟩:=E5.mp h;unfold Do;rw[if_neg<|λe=>d a e Ba,gh r (Z a) g λb i=>by cases i;exact f]
theorem Wv{c:Type}[DecidableEq c]:∀(l:U c)(p:O c)(a:c),a∈Do p l->a∈l
 |[],_,_,h=>h
 |b::r,p,a,h=>by
  unfold Do at h;split at h
  ·exact Be _<|Wv r p a h
  ·rcases Bo.mp h with rfl|h
   ·exact Ba
   ·exact Be _<|Wv r _ a h
theorem Ww{c:Type}[DecidableEq c]:∀(l:U c)(p:O c)(a:c),a∈l->a∈Do p l\/p=Z a
 |[],_,_,h=>by cases h
 |b::r,p,a,h=>by
  unfold Do;split
  ·next e=>
   rcases Bo.mp h with rfl|h
   ·exact .inr e
   ·exact Ww r p a h
  ·rcases Bo.mp h with rfl|h
   ·exact .inl Ba
   ·rcases Ww r (Z b) a h with h|h
    ·exact .inl<|Be _ h
    ·cases h;exact .inl Ba
theorem gj{b:Type}[DecidableEq b](l:U b)(a:b):a∈Do J l↔a∈l:=by grind [Wv,Ww]
noncomputable def Ep:At->At->Bool
 |.non,.non=>O'
 |.non,_=>J'
 |.int i,.int j=>decide (i<j)
 |.int _,.str _=>J'
 |.str x,.str y=>decide (x.cps.toList<y.cps.toList)
 |_,_=>O'
theorem wQ{x y:Ae}(h:x.cps.toList=y.cps.toList):x=y:=by
 obtain⟨⟨a⟩⟩:=x;simp_all
set_option tactic.hygienic true in
theorem Je:TO Ep:={
 asym:=λa b h=>by
  cases a<;>cases b<;>erw[Ep,decide_eq_true_eq,decide_eq_false_iff_not,F9]at h ⊢
  ·lia
  ·exact List.lt_asymm h
 neg:=λa b c h=>by
  cases a<;>cases c<;>erw[Ep,decide_eq_true_eq,F9]at h<;>cases b<;>erw[Ep,decide_eq_true_eq,F9,true_or,or_true,false_or,or_false]
  ·lia
  ·next x y z=>
   by_cases d:x.cps.toList<z.cps.toList
   ·exact .inl d
   ·exact .inr (List.lt_of_le_of_lt (List.not_lt.mp d) h)
 anti:=λa b d e=>by
  cases a<;>cases b<;>erw[Ep,decide_eq_false_iff_not,Bool.true_eq_false]at d e
  ·rfl
  ·rw[At.int.injEq];lia
  ·rw[At.str.injEq];exact wQ (List.le_antisymm (List.not_lt.mp e) (List.not_lt.mp d))}
noncomputable def A4:U At->U At->Bool
 |[],[]=>O'
 |[],_::_=>J'
 |_::_,[]=>O'
 |a::r,b::s=>if a=b then A4 r s else Ep a b
theorem gl:∀a b,A4 a b=J'->A4 b a=O'
 |[],[],_=>rfl
 |[],_::_,_=>rfl
 |_::_,[],h=>by cases h
 |a::r,b::s,h=>by
  unfold A4 at h ⊢;by_cases e:a=b
  ·subst e;erw[if_true]at h ⊢;exact gl r s h
  ·rw[if_neg e]at h;rw[if_neg<|λz=>e z.symm];exact Je.asym a b h
theorem gm:∀a b c,A4 a c=J'->A4 a b=J'\/A4 b c=J'
 |[],[],c,h=>.inr h
 |[],_::_,_,_=>.inl rfl
 |_::_,_,[],h=>by cases h
 |_::_,[],_::_,_=>.inr rfl
 |a::r,b::s,c::t,h=>by
  unfold A4 at h ⊢;by_cases e:a=b
  ·subst e;by_cases d:a=c
   ·erw[d,if_true]at h ⊢;exact gm r s t h
   ·rw[if_neg d]at h;right;rw[if_neg d];exact h
  ·rw[if_neg e];by_cases d:b=c
   ·subst d;rw[if_neg e]at h;exact .inl h
   ·rw[if_neg d];by_cases f:a=c
    ·subst f;cases g:Ep a b with|true=>exact .inl rfl|false=>
      cases hd:Ep b a with
      |true=>exact .inr rfl
      |false=>exact absurd (Je.anti a b g hd) e
    ·rw[if_neg f]at h;exact Je.neg a b c h
theorem gn:∀a b,A4 a b=O'->A4 b a=O'->a=b
 |[],[],_,_=>rfl
 |[],_::_,h,_=>by cases h
 |_::_,[],_,h=>by cases h
 |a::r,b::s,c,d=>by
  unfold A4 at c d;by_cases e:a=b
  ·subst e;erw[if_true]at c d;rw[gn r s c d]
  ·rw[if_neg e]at c;rw[if_neg<|λz=>e z.symm]at d;exact absurd (Je.anti a b c d) e
theorem Dt:TO A4:=#[gl,gm,gn]
noncomputable def C6:At->D
 |.non=>.tup [.int 0,.int 0]
 |.int i=>.tup [.int 1,.int i]
 |.str x=>.tup [.int 2,.str x]
theorem wR(n:Nat)(a b:At):ltN (n+2) (C6 a) (C6 b)=Z (Ep a b):=by
 cases a<;>cases b<;>simp[C6,Ep]
 ·intro e;exact Int.le_of_eq e.symm
 ·intro e;subst e;simp
theorem gq(a b:At):AF (C6 a) (C6 b)=decide (a=b):=by
 cases a<;>cases b<;>simp[C6]
theorem Q9(n:Nat)(a:At):A7 (n+1) (C6 a)=J':=by cases a<;>cases n<;>rfl
theorem Wx(n:Nat):∀l m:U At,FP (ltN (n+2)) (l.map C6) (m.map C6)=Z (A4 l m)
 |[],[]=>rfl
 |[],_::_=>rfl
 |_::_,[]=>rfl
 |a::r,b::s=>by
  have c:=Wx n r s;have d:=Q9 11 a;have e:=Q9 11 b;have f:=gq a b;have g:=wR n a b;rwa[FP,HR,d,e,f,g,c,A4,decide_eq_true_eq];grind
theorem Ra{b:Type}[DecidableEq b]:∀(l:U b)(p:O b),(Do p l).length<=l.length
 |[],_=>Bf _
 |a::r,p=>by
  unfold Do;split
  ·exact Nat.le_succ_of_le<|Ra r p
  ·exact Nat.succ_le_succ<|Ra r _
noncomputable def mn(m y:Int):Int:=if y<m then y else m
def mx(m y:Int):Int:=if y>m then y else m
theorem gt(m y:Int):mn m y=min m y:=by grind [mn]
theorem gu(m y:Int):mx m y=max m y:=by grind [mx]
def cel(x:Int)(xs:U Int):D:=.tup [.int (xs.length+1:Nat),.int ((x::xs).sum),.int (xs.foldl mn x),.int (xs.foldl mx x)]
def wT(s:Sl)(ns:U Int):Prop:=s=#v[ns.map D.int]\/s=.lent (ns.map D.int)
theorem wU(s:Sl)(x:Int)(xs:U Int)(h:wT s (x::xs)):P5 [s]=Z (.val (cel x xs)):=by
 have a:(4:Nat)<=Ax:=by ext
 rcases h with rfl|rfl<;>(simp[P5,AO,cJ,Hc,Pj,Pl,Pm,cel,a];exact⟨rfl,rfl⟩)
theorem wV:(4:Nat)<=Ax:=by ext
theorem gv(a:Int):∀(ys:U Int)(b:Int),ys.foldl mn (mn a b)=mn a (ys.foldl mn b)
 |[],b=>rfl
 |y::ys,b=>by
  have e:mn (mn a b) y=mn a (mn b y):=by erw[gt];exact Int.min_assoc a b y
  erw[Re,e,gv a ys]
theorem gw(a:Int):∀(ys:U Int)(b:Int),ys.foldl mx (mx a b)=mx a (ys.foldl mx b)
 |[],b=>rfl
 |y::ys,b=>by
  have e:mx (mx a b) y=mx a (mx b y):=by erw[gu];exact Int.max_assoc a b y
  erw[Re,e,gw a ys]
theorem gy:∀(a b:U Int),(a++b).sum=a.sum+b.sum
 |[],b=>by simp
 |x::a,b=>by simp[gy a b,Int.add_assoc]
theorem wX(x y:Int)(xs ys:U Int):NQ [.val (cel x xs),.val (cel y ys)]=Z (.val (cel x (xs++y::ys))):=by
 have a:(xs++y::ys).foldl mn x=mn (xs.foldl mn x) (ys.foldl mn y):=by rw[List.foldl_append,Re,gv]
 have b:(xs++y::ys).foldl mx x=mx (xs.foldl mx x) (ys.foldl mx y):=by rw[List.foldl_append,Re,gw]
 simp[NQ,AO,cK,cel,atI,D2,wV,a,b,gy];refine#[by lia,by exact Int.add_assoc x xs.sum<|y+ys.sum,rfl,rfl]
def Fd(acc:Bw)(b:U (At×D)):Bw:=b.foldl (λa p=>ZY a (.at p.1) p.2) acc
theorem Wy(a:At):Dh (aD a)=Z (.at a):=No<|.at a
theorem gz{a:At}{v:D}(h:∀p∈kvs,D6 p.1=J'):∀p∈ZY kvs (.at a) v,D6 p.1=J':=λp b=>by
 rcases qJ b with b|rfl
 ·exact h p b
 ·rfl
theorem gA:∀(a:U (At×D))(acc:Bw),(∀p∈acc,D6 p.1=J')->acc.length+a.length<=100000->GB acc (a.map λp=>.tup [aD p.1,p.2])=Z (Fd acc a)
 |[],acc,_,_=>rfl
 |p::a,acc,h,b=>by
  erw[Cg]at b;have c:acc.length<Ax:=B6 (show acc.length<100000 by exact Dz b) (by ext);have e:=qK acc (.at p.1) p.2;have d:=gA a (ZY acc (.at p.1) p.2) (gz h) (by lia);erw[AS,GB,Wy,Pt p.1 h,c,decide_true,J1,if_true,d];rfl
theorem Wz:∀(a:U (At×D))(acc:Bw),(∀p∈acc,D6 p.1=J')->∀p∈Fd acc a,D6 p.1=J'
 |[],_,h=>h
 |p::a,acc,h=>Wz a _<|gz h
theorem gB{a:At}:∀(b:U (At×D))(acc:Bw),a∉b.map (·.1)->Zx (Fd acc b) (.at a)=Zx acc (.at a)
 |[],_,_=>rfl
 |p::b,acc,h=>by
  rw[AS,Bo,not_or]at h;have c:=gB b (ZY acc (.at p.1) p.2) h.2;show Zx (Fd (ZY acc (.at p.1) p.2) b) _=_
  rw[c,SW,if_neg<|λe=>h.1 (KT.at.inj e).symm]
theorem gC{a:At}{v:D}:∀(b:U (At×D))(acc:Bw),(b.map (·.1)).Nodup->(a,v)∈b->Zx (Fd acc b) (.at a)=Z v
 |p::b,acc,c,h=>by
  rw[AS,E5]at c;show Zx (Fd (ZY acc (.at p.1) p.2) b) _=_
  rcases Bo.mp h with rfl|h
  ·rw[gB b _ c.1,SW,if_pos rfl]
  ·exact gC b _ c.2 h
theorem gD(a:At):∀(b:U (At×D))(acc:Bw),(Zx (Fd acc b) (.at a)).isSome=((Zx acc (.at a)).isSome||decide (a∈b.map (·.1)))
 |[],acc=>by simp[Fd]
 |p::b,acc=>by
  have c:=gD a b<|ZY acc (.at p.1) p.2;show(Zx (Fd (ZY acc (.at p.1) p.2) b) _).isSome=_
  rw[c,SW];grind
theorem wY{b:U (At×D)}{a:At}{v:D}(e:(b.map (·.1)).Nodup)(h:(a,v)∈b):DH (.lst (Zb (Fd [] b)) .d) (aD a)=Z v:=by
 have f:=Pt a<|Wz b [] λ_ h=>nomatch h;rw[aK,Wy];grind [gC]
theorem wZ(neg:Bool)(b:U (At×D))(a:At):Dr neg (aD a) (.lst (Zb (Fd [] b)) .d)=Z (.bl (neg != decide (a∈b.map (·.1)))):=by
 have c:=Pt a<|Wz b [] λ_ h=>nomatch h;have f:=gD a b [];rw[Np,Wy];rwa[c,f];rfl
theorem Rf{a:Type}(l:U a):EI [.lst ((l.map λ_=>J').map D.bl)]=Z (.bl J'):=by
 erw[EI,T0,Jz];simp_all
theorem ZF{a n:Nat}{g:Ay}{b:U Sl}{r:Rv}(h:b.length=a)(e:g (b++Dx (n-a) .no)=.ret r):AO a n g b=Z r:=by
 unfold AO;simp_all
theorem gE{a:Type}(x:a)(xs:U a):atI (x::xs) 0=Z x:=by
 have:=Int.succ_ofNat_pos xs.length;simp[atI,D2,this]
theorem XZ{a:Type}(xs:U a)(x:a):atI (xs++[x]) (-1)=Z x:=by
 have b:(-1+((xs.length:Int)+1)).toNat=xs.length:=by lia
 have c : -((xs.length:Int)+1) <= -1:=by lia
 simp[atI,D2,b,c]
theorem w5(a:At):Qi [.val (aD a)]=Z (.val (C6 a)):=by
 have b:(2:Nat)<=Ax:=by ext
 cases a<;>simp[Qi,AO,dB,HV,P1,aD,C6,b]
theorem gF(l:U At)(h:l.length<=1000):Mj [.val (Aj l)]=Z (.val (.tup (l.map C6))):=by
 have c:l.length<=Ax:=BZ h (by ext);have d:=ZA (b:=Zc 0) (e:=Uy) (ρ:=[.no]) aD C6 l λa _=>#[[.val<|aD a],rfl,by
  have:=w5 a;rwa[Uy,this,CY]]
 simp[Mj,AO,dW,Aj,c,Zt,d,-CP]
theorem Rg(s0:Sl):∀(c acc:BR)(j:Sl),acc.length+c.length<100000->∃a,ZC (Zc 2) J8 (c.map Aj) [s0,.own (acc.map Aj),j]=.next [s0,.own ((acc++Do acc.getLast? c).map Aj),a]
 |[],acc,j,_=>#[j,by simp[ZC,Do]]
 |l::c,acc,j,d=>by
  erw[Cg]at d;have f:acc.length<Ax:=B6 (show acc.length<100000 by exact Dz d) (by ext);have n:HA (Z<|.int 1)=Z (.int (-1)):=rfl;erw[AS,ZC,Zc,Ey,En];rcases List.eq_nil_or_concat acc with rfl|⟨pre,x,rfl⟩
  ·obtain⟨a,e⟩:=Rg s0 c [l] (.val<|Aj l) (by simp;lia);refine⟨a,?_⟩;have k:J8 [s0,.own<|[].map Aj,.val<|Aj l]=.next [s0,.own<|[l].map Aj,.val<|Aj l]:=by
    have o:(0:Nat)<Ax:=by ext
    simp[J8,o]
   have hd:Do ([]:BR).getLast? (l::c)=l::Do (Z l) c:=rfl;exact e
  ·rw[List.concat_eq_append]at d f ⊢;have g:Ar (.lst<|(pre++[x]).map Aj) (.int (-1))=Z (Aj x):=by
    rw[HD];exact XZ _ _
   have h:ZM (Z<|.lst<|(pre++[x]).map Aj)=Z J':=by simp
   have i:=QY x l;have b:(pre++[x]).getLast?=Z x:=by simp
   by_cases m:x=l
   ·subst m;obtain⟨a,e⟩:=Rg s0 c (pre++[x]) (.val<|Aj x)<|Nat.lt_of_succ_lt d;refine⟨a,?_⟩;have k:J8 [s0,.own<|(pre++[x]).map Aj,.val<|Aj x]=.next [s0,.own<|(pre++[x]).map Aj,.val<|Aj x]:=by
     erw[J8,Zd,ZO,Cz,ZG,AE,Za,AU,Bb,DF,CC,Cw,BH,Ci,h,n,g,i,decide_true,Gf]
    rw[k,b,Do,if_pos rfl,<- b];exact e
   ·obtain⟨a,e⟩:=Rg s0 c (pre++[x]++[l]) (.val<|Aj l) (by simp at d ⊢;lia);refine⟨a,?_⟩;have p:(pre++[x]++[l]).getLast?=Z l:=by simp
    have k:J8 [s0,.own<|(pre++[x]).map Aj,.val<|Aj l]=.next [s0,.own<|(pre++[x]++[l]).map Aj,.val<|Aj l]:=by
     rw[show((pre++[x]++[l]).map Aj)=(pre++[x]).map Aj++[Aj l] by simp];erw[J8,Zd,ZO,Cz,ZG,AE,Za,AU,Bb,DF,CC,Cw,BH,Ci,h,n,g,i,m,decide_false,Ha,Gf,Ge,Bi,f,if_true,Ey,En]
    rw[k,b,Do,if_neg (by simpa using m)];rw[p]at e;rw[show pre++[x]++l::Do (Z l) c=pre++[x]++[l]++Do (Z l) c by simp];exact e
theorem WA(s:Sl)(b:BR)(g:s=#v[b.map Aj]\/s=.lent (b.map Aj))(i:b.length<64)(f:∀l∈b,l≠[]/\l.length<=1000):Oa [s]=Z (.own ((Do J (Zz A4 b)).map Aj)):=by
 have c:=Wu Aj Dt O' b i (λl=>.tup<|l.map C6) (λl h=>gF l (f l h).2) (λl h=>by
  cases l with
  |nil=>exact absurd rfl (f [] h).1
  |cons a r=>cases a<;>exact#[_,_,rfl]) (λl _ m _=>Wx 3 l m)
 have j:=(ZE A4 b).length_eq;obtain⟨k,e⟩:=Rg s (Zz A4 b) [] .no (by rw[j];simp;lia);erw[C1,Ea,List.getLast?_nil]at e;refine ZF rfl ?_;show UY [s,.no,.no]=_
 have d:Ze (Z ([]:U D))=Z []:=rfl;rcases g with rfl|rfl<;>rwa[UY,Dg,Z4,KU,DF,C9,d,c,e]
theorem WB(l:U At)(j:Nat)(h:l.length<=1000):IU [.val (Aj l),‹(j:Int)›]=Z (.val (aD (l.getD j .non))):=by
 by_cases c:j<l.length
 ·have b:=Int.ofNat_lt.mpr c;have:Ar (Aj l) (.int (j:Int))=Z (aD<|l.getD j .non):=by
   exact ZU (by simp[CK c,FR])
  have a:Zr [Aj l]=Z (.int (l.length:Int)):=by simp[Aj]
  simp[IU,AO,T6,-Ar,-Zr,a,this,b]
 ·have b:¬ (j:Int)<(l.length:Int):=by lia
  have a:Zr [Aj l]=Z (.int (l.length:Int)):=by simp[Aj]
  have e:l.getD j .non=.non:=by grind
  rw[e];simp[IU,AO,T6,-Ar,-Zr,a,b,aD]
abbrev Bj:=U At×Int×U Int
variable{acc:U Bj}
def Zo(acc:U Bj):BR:=acc.map (·.1)
def Z2:U Bj->U At->O (Int×U Int)
 |[],_=>J
 |e::r,k=>if e.1=k then Z e.2 else Z2 r k
noncomputable def CV:U Bj->U At->Int->U Bj
 |[],k,x=>[(k,x,[])]
 |e::r,k,x=>if e.1=k then(e.1,e.2.1,e.2.2++[x])::r else e::CV r k x
def Zy(v:Int×U Int->D)(e:Bj):KT×D:=(.tup e.1,v e.2)
theorem B8{k:U At}:∀{acc:U Bj},Z2 acc k=J↔k∉Zo acc
 |[]=>by simp[Z2,Zo]
 |e::r=>by
  have a:=B8 (k:=k) (acc:=r);grind [Z2,Zo]
theorem Kb(v:Int×U Int->D)(k:U At):∀acc:U Bj,Zx (acc.map (Zy v)) (.tup k)=(Z2 acc k).map v
 |[]=>rfl
 |e::r=>by
  have a:=Kb v k r;erw[AS,Zx,Z2,Zy,KT.tup.injEq];grind
theorem gG{k:KT}{w:D}:∀{kvs:Bw},Zx kvs k=J->Ft kvs k w=kvs
 |[],_=>rfl
 |p::r,h=>by
  unfold Zx at h;by_cases e:p.1=k
  ·simp[if_pos e]at h
  ·rw[if_neg e]at h;unfold Ft;rw[if_neg e,gG h]
theorem gH(v:Int×U Int->D){k:U At}{x:Int}{p:Int×U Int}:∀{acc:U Bj},(Zo acc).Nodup->Z2 acc k=Z p->Ft (acc.map (Zy v)) (.tup k) (v (p.1,p.2++[x]))=(CV acc k x).map (Zy v)
 |e::r,a,h=>by
  erw[Zo,AS,E5]at a;unfold Z2 at h;by_cases c:e.1=k
  ·rw[if_pos c]at h;cases h;have b:Zx (r.map<|Zy v) (.tup k)=J:=by
    rw[Kb,B8.mpr<|c ▸ a.1];rfl
   rwa[Ft,CV,Zy,c,gG b,KT.tup.injEq]
  ·rw[if_neg c]at h;have d:=gH v (x:=x) a.2 h;erw[AS,Ft,CV,Zy,c,if_false,KT.tup.injEq];rw[d]
theorem gI{k:U At}{x:Int}:∀{acc:U Bj},Z2 acc k=J->CV acc k x=acc++[(k,x,[])]
 |[],_=>rfl
 |e::r,h=>by
  unfold Z2 at h;by_cases c:e.1=k
  ·simp[if_pos c]at h
  ·rw[if_neg c]at h;unfold CV;rw[if_neg c,gI h];rfl
theorem w6(v:Int×U Int->D){k:U At}{x:Int}{p:Int×U Int}(a:(Zo acc).Nodup)(h:Z2 acc k=Z p):ZY (acc.map (Zy v)) (.tup k) (v (p.1,p.2++[x]))=(CV acc k x).map (Zy v):=by
 unfold ZY;rw[Kb,h];exact gH v a h
theorem w9(v:Int×U Int->D){k:U At}{x:Int}(h:Z2 acc k=J):ZY (acc.map (Zy v)) (.tup k) (v (x,[]))=(CV acc k x).map (Zy v):=by
 unfold ZY;rw[Kb,h,gI h];simp[Zy]
theorem WC(k:U At)(x:Int):∀acc:U Bj,Zo (CV acc k x)=if k∈Zo acc then Zo acc else Zo acc++[k]
 |[]=>rfl
 |e::r=>by
  have a:=WC k x r;grind [CV,Zo]
theorem xa{k:U At}{x:Int}(h:(Zo acc).Nodup):(Zo (CV acc k x)).Nodup:=by grind [WC]
theorem gJ(k:U At)(x:Int):∀acc:U Bj,(CV acc k x).length<=acc.length+1
 |[]=>by simp[CV]
 |e::r=>by
  have:=gJ k x r;unfold CV;split<;>simp<;>lia
theorem gK{k k':U At}{x:Int}(h:k'∈Zo (CV acc k x)):k'=k\/k'∈Zo acc:=by grind [WC]
def Kc:U Bj->Nat
 |[]=>0
 |e::r=>e.2.2.length+1+Kc r
theorem gL(k:U At)(x:Int):∀acc:U Bj,Kc (CV acc k x)=Kc acc+1
 |[]=>rfl
 |e::r=>by
  have:=gL k x r;unfold CV;split<;>simp[Kc]<;>lia
theorem Rh(v:Int×U Int->D)(k:U At)(acc:U Bj):Di (.tup k) (acc.map (Zy v))=J':=KS k λp a=>by
 obtain⟨e,_,rfl⟩:=Bp.mp a;rfl
theorem Gu(l:U At):Dh (Aj l)=Z (.tup l):=No<|.tup l
abbrev vL(p:Int×U Int):D:=.lst ((p.1::p.2).map D.int)
abbrev vC(p:Int×U Int):D:=cel p.1 p.2
abbrev Hm(v:Int×U Int->D)(acc:U Bj):Sl:=.own (Zb (acc.map (Zy v))) .d
def Zg(r:U At×Int):D:=.tup [Aj r.1,.int r.2]
def Er(a:U (U At×Int))(acc:U Bj):U Bj:=a.foldl (λacc r=>CV acc r.1 r.2) acc
structure A6(acc:List Bj)(n m:Nat):Prop where
 nd:(Zo acc).Nodup
 len:acc.length<=m
 sz:Kc acc<=m
 kl:∀k∈Zo acc,k.length=n
theorem A6.add{n m:Nat}(h:A6 acc n m){k:U At}(b:k.length=n)(x:Int):A6 (CV acc k x) n (m+1):=#[xa h.nd,by have:=gJ k x acc;have:=h.len;lia,by rw[gL];have:=h.sz;exact Nat.add_le_add_right this 1,λd a=>by
  rcases gK a with rfl|c
  ·exact b
  ·exact h.kl _ c]
theorem A6.nil(n:Nat):A6 [] n 0:=#[by simp[Zo],by simp,by simp[Kc],λk a=>nomatch a]
theorem A6.tab:∀(a:U (U At×Int)){acc:U Bj}{n m:Nat},A6 acc n m->(∀r∈a,r.1.length=n)->A6 (Er a acc) n (m+a.length)
 |[],_,_,_,h,_=>h
 |r::a,acc,n,m,h,b=>by
  have:=A6.tab a (h.add (b r Ba) r.2) λq c=>b q<|Be _ c;rw[Cg,show m+(a.length+1)=m+1+a.length by exact Eq.symm (Nat.succ_add_eq_add_succ m a.length)];exact this
def De(acc:U Bj):U D:=(Zz A4 (Zo acc)).map λk=>.tup [Aj k,vC ((Z2 acc k).getD (0,[]))]
theorem Rj{k:U At}(h:k∈Zz A4 (Zo acc)):∃p,Z2 acc k=Z p:=by
 have a:=(ZE A4<|Zo acc).mem_iff.mp h;cases b:Z2 acc k with
 |some p=>exact#[p,rfl]
 |none=>exact absurd a<|B8.mp b
theorem gM(v:Int×U Int->D)(acc:U Bj):((acc.map (Zy v)).map λp=>kD p.1)=(Zo acc).map Aj:=by
 unfold Zo;rw[CP,CP];rfl
theorem Rk(v:Int×U Int->D){k:U At}{p:Int×U Int}(h:Z2 acc k=Z p):DH (.lst (Zb (acc.map (Zy v))) .d) (Aj k)=Z (v p):=by simp_all [Gu,Zy,Rh,Kb]
abbrev LG:=U (U (U At)×Nat)
def Jf(q:U (U At)×Nat)(a:At):At:=((q.1.find? λl=>decide (hd l=a)).getD []).getD q.2 .non
def Z1:LG->U At->U At
 |q::Q,a::s=>Jf q a::Z1 Q s
 |_,_=>[]
def Jg(q:U (U At)×Nat):U (At×D):=q.1.map λl=>(hd l,aD (l.getD q.2 .non))
def Du(q:U (U At)×Nat):D:=.lst (Zb (Fd [] (Jg q))) .d
abbrev Am(g:U Nat):D:=.tup (g.map λ(j:Nat)=>D.int (j:Int))
inductive AZ:List (BR)->List At->Prop where
 |nil:AZ [] []
 |cons {ls Ls a as}:a∈ls.map hd->AZ Ls as->AZ (ls::Ls) (a::as)
theorem AZ.len{a:A2}{s:U At}(h:AZ a s):s.length=a.length:=by
 induction h<;>grind
theorem Lq:∀{Q:LG}{s:U At},s.length=Q.length->(Z1 Q s).length=Q.length
 |[],_,h=>by cases(Pe.mp h);rfl
 |q::Q,a::s,h=>by erw[Z1,Cg];rw[Lq (by simpa using h)]
 |_::_,[],h=>by simp at h
theorem xc(q:U (U At)×Nat)(h:∀l∈q.1,Ln l)(m:q.1.length<=1000):Qj [.val (LD q.1),‹0›,‹(q.2:Int)›]=Z (.own (Zb (Fd [] (Jg q))) .d):=by
 obtain⟨a,j⟩:=q;have n:(a.map Aj).length<=Ax:=by rw[Bi];exact BZ m (by ext)
 have f:(2:Nat)<=Ax:=by ext
 have o:=ZA (b:=Zc 0) (e:=Uo) (ρ:=[.no,‹0›,‹(j:Int)›]) Aj (λl=>D.tup [aD<|hd l,aD<|l.getD j .non]) a λl k=>#[[.val<|Aj l,‹0›,‹(j:Int)›],rfl,by
  have p:l.getD 0 .non=hd l:=by cases l<;>rfl
  have this:IU [.val<|Aj l,‹0›]=Z (.val<|aD<|hd l):=p ▸ WB l 0 (by have:=(h l k).l4;lia);have c:=WB l j (by have:=(h l k).l4;lia);rwa[Uo,this,c,CY,Ze,F1,if_pos f]]
 have g:=gA (Jg (a,j)) [] (λ_ h=>nomatch h) (by simp[Jg];lia);unfold Jg at g;rw[CP]at g;have i:GB [] (a.map λl=>D.tup [aD<|hd l,aD<|l.getD j .non])=Z (Fd []<|a.map λl=>(hd l,aD<|l.getD j .non)):=g;unfold Jg;rwa[Qj,AO,F1,dC,Lo,Lp,D0,HL,Zn,Ze,if_pos n,Zt,Mt,Ga,Ea,JP,o,i,JJ]
theorem xf(n k:Nat)(a:k<n)(L:A2)(b:L.length=n):atI (L.map λ_=>D.int 0) (k:Int)=Z (.int 0):=ZU (by rw[Dy,CK<|Jr a b.symm];rfl)
theorem gN(L:A2)(g:U Nat):∀(Q:LG)(k:Nat),(∀q∈Q,∃p,GL q.1 p)->k+Q.length<=L.length->(∀i q,Q[i]?=Z q->g[k+i]?=Z q.2)->ZX (Ch 2 (Zq (Zc 0) (Zq (Zc 1) Z9))) (λ_=>Z J') Qp [.no,.no,.val (CF L),.val (Am g)] (E8 k (Q.map λq=>LD q.1))=Z (Q.map Du)
 |[],k,_,_,_=>rfl
 |q::Q,k,h,c,d=>by
  erw[Cg]at c;have r:=gN L g Q (k+1) (λl b=>h l<|Be _ b) (by lia) λi f e=>by
   have:=d (i+1) f (by simpa using e);grind
  obtain⟨p,a⟩:=h q Ba;have b:=xc q a.ln (by have:=a.n6;lia);have m:=xf L.length k (Dz c) L rfl;have n:atI (g.map λ(j:Nat)=>D.int (j:Int)) (k:Int)=Z (.int (q.2:Int)):=ZU (by rw[Dy,show g[k]?=Z q.2 from d 0 q rfl];rfl);have s:Qp [‹(k:Int)›,.val<|LD q.1,.val<|CF L,.val<|Am g]=Z (Du q):=by
   rwa[Qp,Ar,m,n,b,CY,Du]
  have o:Ch 2 (Zq (Zc 0)<|Zq (Zc 1) Z9) (.tup [.int (k:Int),LD q.1]) [.no,.no,.val<|CF L,.val<|Am g]=Z [‹(k:Int)›,.val<|LD q.1,.val<|CF L,.val<|Am g]:=rfl;rw[AS,E8,ZX,o];simp_all
abbrev qs(L:A2)(g:U Nat):LG:=L.zip g
theorem gO{L:A2}{g:U Nat}(h:g.length=L.length):(qs L g).map (·.1)=L:=List.map_fst_zip<|Nat.le_of_eq h.symm
theorem xg{L:A2}{g:U Nat}(h:g.length=L.length):(qs L g).map (λq=>LD q.1)=L.map LD:=by
 have:(qs L g).map (λq=>LD q.1)=((qs L g).map (·.1)).map LD:=by rw[CP];rfl
 rw[this,gO h]
theorem gP{L:A2}{g:U Nat}{q:U (U At)×Nat}(h:q∈qs L g):q.1∈L:=(OS h).1
theorem xh{L:A2}(h:BY L){g:U Nat}(a:g.length=L.length):Qq [#v[L.map LD],.val (CF L),.val (Am g)]=Z (.own ((qs L g).map Du)):=by
 have hd:=gN L g (qs L g) 0 (λq b=>h.good q.1<|gP b) (by simp;exact Nat.min_le_left (Kq L) g.length) λi q e=>by
  grind
 rw[xg a]at hd;have c:=h.n4;have d:(E8 0<|L.map LD).length<=Ax:=by rw[SM,Bi];exact BZ c (by ext)
 have f:FU (.lst<|L.map LD)=Z (L.map LD):=rfl;rwa[Qq,AO,F1,dX,Lo,Lp,D0,Zn,NG,f,Ze,if_pos d,Zt,Mt,Ga,Ea,JP,hd,C9]
theorem xi{q:U (U At)×Nat}(h:(q.1.map hd).Nodup):((Jg q).map (·.1)).Nodup:=by
 unfold Jg;rw[CP];exact h
theorem xj{q:U (U At)×Nat}{a:At}(h:a∈q.1.map hd):Dr O' (aD a) (Du q)=Z (.bl J'):=by grind [Du,wZ,Jg]
theorem gQ:∀{a:BR}{l:U At},(a.map hd).Nodup->l∈a->a.find? (λx=>decide (hd x=hd l))=Z l
 |x::a,l,c,b=>by
  erw[AS,E5]at c;rcases Bo.mp b with rfl|b
  ·rw[List.find?_cons_of_pos (by simp)]
  ·rw[List.find?_cons_of_neg (by
    erw[decide_eq_true_eq];intro z;exact c.1 (by rw[z];exact FV b))]
   exact gQ c.2 b
theorem WD{q:U (U At)×Nat}(a:(q.1.map hd).Nodup){l:U At}(h:l∈q.1):Jf q (hd l)=l.getD q.2 .non:=by simp_all [Jf,gQ]
theorem xk{q:U (U At)×Nat}(b:(q.1.map hd).Nodup){a:At}(h:a∈q.1.map hd):DH (Du q) (aD a)=Z (aD (Jf q a)):=by
 obtain⟨l,c,rfl⟩:=Bp.mp h;rw[WD b c];exact wY (xi b)<|Bp.mpr ⟨l,c,rfl⟩
theorem gR:∀{Q:LG}{s:U At},AZ (Q.map (·.1)) s->ZX (Ch 2 (Zq (Zc 0) (Zq (Zc 1) Z9))) (λ_=>Z J') P6 [.no,.no] (GG (λx y=>D.tup [x,y]) (Q.map Du) (s.map aD))=Z ((Q.map λ_=>J').map D.bl)
 |[],_,h=>by cases h;rfl
 |q::Q,_,h=>by
  cases h with
  |@cons _ _ a f b c=>
  have d:=gR c;have e:P6 [.val<|Du q,.val<|aD a]=Z (.bl J'):=by
   have:=xj b;rwa[P6,this]
  rwa[Rl,ZX,Ch,Zq,Z9,e,d]
theorem gS:∀{Q:LG}{s:U At},(∀q∈Q,(q.1.map hd).Nodup)->AZ (Q.map (·.1)) s->ZX (Ch 2 (Zq (Zc 0) (Zq (Zc 1) Z9))) (λ_=>Z J') Oc [.no,.no] (GG (λx y=>D.tup [x,y]) (Q.map Du) (s.map aD))=Z ((Z1 Q s).map aD)
 |[],_,_,h=>by cases h;rfl
 |q::Q,_,b,h=>by
  cases h with
  |@cons _ _ a i c d=>
  have e:=gS (λq f=>b q<|Be _ f) d;have g:Oc [.val<|Du q,.val<|aD a]=Z (aD<|Jf q a):=by
   have:=xk (b q Ba) c;rwa[Oc,this]
  rwa[Rl,ZX,Ch,Zq,Z9,g,e,Z1]
theorem xl{Q:LG}{s:U At}(b:AZ (Q.map (·.1)) s)(hz:Q.length<=4):P7 [#v[Q.map Du],.val (Aj s)]=Z (.val (.bl J')):=by
 have c:=gR b;have d:=Rf Q;have e:=Zp (GG (λx y=>D.tup [x,y]) (Q.map Du) (s.map aD)) (by simp;lia);refine ZF rfl ?_;unfold Aj;generalize (Q.map λ_=>J').map D.bl=B,s.map aD=S,Q.map Du=L at *;show T7 [#v[L],.val<|.tup S]=_
 have a:Zt 2 [] [#v[L],.val<|.tup S]=[.no,.no]:=rfl;rwa[T7,Zn,Fa,FU,a,e,c,d]
def Ke(r:U At×Int):D:=.tup [Aj r.1,cel r.2 []]
theorem xm{Q:LG}{s:U At}(h:∀q∈Q,(q.1.map hd).Nodup)(C:AZ (Q.map (·.1)) s)(hz:Q.length<=4)(b l:Sl)(x:Int){n m:Nat}(E:A6 acc n m)(G:m<1000):Od [#v[Q.map Du],b,Hm vC acc,.val (Aj s),.val (cel x []),l]=.next [#v[Q.map Du],b,Hm vC (CV acc (Z1 Q s) x),.val (Aj s),.val (cel x []),.val (Aj (Z1 Q s))]:=by
 have o:=xl C hz;have N:=gS h C;have K:=Zp (GG (λx y=>D.tup [x,y]) (Q.map Du) (s.map aD)) (by simp;lia);have H:∀x y z w,Zk D5 (λa=>Zh (CL<|Zw<|(Zn 2 [] (Fa (λa=>BI a 0) (λa=>BI a 3)) (Ch 2<|Zq (Zc 0)<|Zq (Zc 1) Z9) (λ_=>Z J') Oc) a) (Z [])) [#v[Q.map Du],x,y,.val<|Aj s,z,w]=Z (Aj<|Z1 Q s):=by
  simp_all [Aj,Z1,Du,CC,Cw,BH,Ci]
 generalize Q.map Du=L,Z1 Q s=k at *;have hok:=Gu k;have e:=Rh vC k acc;have f:=Kb vC k acc;have g:(acc.map<|Zy vC).length<Ax:=by rw[Bi];exact Kv E.len<|B6 G (by ext)
 have r:=Fs<|acc.map<|Zy vC;have i:Dr O' (Aj k) (.lst (Zb<|acc.map<|Zy vC) .d)=Z (.bl (Z2 acc k).isSome):=by
  rw[Np,hok];show(if Di (.tup k) (acc.map<|Zy vC)=J' then _ else _)=_
  rw[if_pos e,f,Option.isSome_map];cases(Z2 acc k).isSome<;>rfl
 have c:∀d,MZ (Z (Z2 acc k).isSome) ((Zi NQ<|λa=>Zh (CL<|(Za DH (λa=>AU a 2) (λa=>AU a 5)) a) (Zh (Co a 4)<|some [])) [#v[L],b,Hm vC acc,.val<|Aj s,.val<|cel x [],.val<|Aj k]) (Z<|cel x [])=Z d->ZY (acc.map<|Zy vC) (.tup k) d=(CV acc k x).map (Zy vC)->Od [#v[L],b,Hm vC acc,.val<|Aj s,.val<|cel x [],l]=.next [#v[L],b,Hm vC<|CV acc k x,.val<|Aj s,.val<|cel x [],.val<|Aj k]:=by
  intro d t u;unfold Hm at *;have A:=H b (.own (Zb<|acc.map<|Zy vC) .d) (.val<|cel x []) l;generalize acc.map (Zy vC)=B at *;unfold Od;have P:ZM ((Zi P7<|λa=>Zh (Co a 0)<|Zh (Co a 3)<|some []) [#v[L],b,.own (Zb B) .d,.val<|Aj s,.val<|cel x [],l])=Z J':=by
   rwa[o,ZM]
  erw[P,ZO,Zd,A,Z0,Ey,En];have F:Za (Dr O') (λa=>AU a 5) (λa=>AU a 2) [#v[L],b,.own (Zb B) .d,.val<|Aj s,.val<|cel x [],.val<|Aj k]=Z (.bl (Z2 acc k).isSome):=by
   rwa[i]
  have M:Bb [#v[L],b,.own (Zb B) .d,.val<|Aj s,.val<|cel x [],.val<|Aj k] 4=Z (cel x []):=rfl;rw[F,M];erw[AE,BH];rw[t];rwa[II,Hy,r,hok,e,u,Bool.true_and,decide_eq_true g]
 cases j:Z2 acc k with
 |none=>
  rw[j]at c;exact c (vC (x,[])) rfl<|w9 vC j
 |some p=>
  rw[j]at c;refine c (vC (p.1,p.2++[x])) ?_<|w6 vC E.nd j;have t:=Rk vC j;have u:=wX p.1 x p.2 [];unfold Hm;rwa[MZ,Option.isSome,t,u]
def DA(Q:LG)(a:U (U At×Int)):U (U At×Int):=a.map λr=>(Z1 Q r.1,r.2)
theorem gT{Q:LG}(h:∀q∈Q,(q.1.map hd).Nodup)(hz:Q.length<=4)(f:Sl):∀(d:U (U At×Int))(acc:U Bj)(m:Nat)(g i e:Sl),(∀r∈d,AZ (Q.map (·.1)) r.1)->A6 acc Q.length m->m+d.length<1000->∃j k l,ZC (Ch 2 (Zq (Zc 3) (Zq (Zc 4) Z9))) Od (d.map Ke) [#v[Q.map Du],f,Hm vC acc,g,i,e]=.next [#v[Q.map Du],f,Hm vC (Er (DA Q d) acc),j,k,l]
 |[],acc,m,g,i,e,_,n,_=>#[g,i,e,rfl]
 |r::d,acc,m,g,i,e,o,n,s=>by
  erw[Cg]at s;have p:=o r Ba;have t:=xm h p hz f e r.2 n (by lia);obtain⟨a,b,c,u⟩:=gT h hz f d (CV acc (Z1 Q r.1) r.2) (m+1) (.val<|Aj r.1) (.val<|cel r.2 []) (.val<|Aj<|Z1 Q r.1) (λq w=>o q<|Be _ w) (n.add (Lq (by simpa using p.len)) r.2) (by lia);refine⟨a,b,c,?_⟩;erw[AS,Ke,ZC,Ch,Zq,Zc,Z9,Cg,EG,if_true,Ey,En,BH];rw[t];exact u
theorem xn{Q:LG}(h:∀q∈Q,(q.1.map hd).Nodup)(n:0<Q.length)(hz:Q.length<=4)(f:U (U At×Int))(o:∀r∈f,AZ (Q.map (·.1)) r.1)(s:f.length<64):U3 [#v[Q.map Du],#v[f.map Ke]]=Z (.own (De (Er (DA Q f) []))):=by
 have ok:=A6.tab (DA Q f) (A6.nil Q.length) λr h=>by
  obtain⟨A,B,rfl⟩:=Bp.mp h;exact Lq (by simpa using(o A B).len)
 have F:(DA Q f).length=f.length:=Bi _;obtain⟨a,b,c,e⟩:=gT h hz #v[f.map Ke] f [] 0 .no .no .no o (A6.nil _) (by lia);generalize Er (DA Q f) []=g at *;have j:(Zo g).length<64:=by unfold Zo;rw[Bi];have:=ok.len;lia
 have t:=WA #v[(Zo g).map Aj] (Zo g) (.inl rfl) j λl s=>by
  have:=ok.kl l s;exact#[λz=>by rw[z]at this;simp at this;lia,by lia]
 rw[gh _ _ ((ZE A4 _).nodup_iff.mpr ok.nd) (λ_ e=>by cases e),<- gM vC]at t;have C:=ZA (b:=Zc 0) (e:=U1) (ρ:=[.no,.lent (Zb<|g.map<|Zy vC) .d]) Aj (λk=>.tup [Aj k,vC<|(Z2 g k).getD (0,[])]) (Zz A4<|Zo g) λk E=>#[[.val<|Aj k,.lent (Zb<|g.map<|Zy vC) .d],rfl,by
  obtain⟨p,u⟩:=Rj E;have G:=Rk vC u;have q:Ze (Z [Aj k,vC p])=Z [Aj k,vC p]:=Zp _ (by simp);rw[u];rwa[U1,G,q,Option.getD]]
 have H:=Zp ((Zz A4<|Zo g).map Aj) (by rw[Bi,(ZE _ _).length_eq];lia);have i:=bA<|g.map<|Zy vC;have n:Hm vC []=.own [] .d:=rfl;rw[n]at e;unfold Hm at e;unfold De;refine ZF rfl ?_;generalize Q.map Du=L,f.map Ke=R,g.map (Zy vC)=w,(Zz A4<|Zo g).map Aj=W,(Zz A4<|Zo g).map (λk=>D.tup [Aj k,vC<|(Z2 g k).getD (0,[])])=T at *;show U2 [#v[L],#v[R],.no,.no,.no,.no]=_
 have m:∀x y z,Zt 1 [2] [#v[L],#v[R],.own (Zb w) .d,x,y,z]=[.no,.lent (Zb w) .d]:=λ_ _ _=>rfl;rwa[U2,FO,Z4,C9,Zn,m,FN,e,i,t,HU,H,C]
theorem BY.hdn{L:A2}(h:BY L):∀a∈L,(a.map hd).Nodup:=λa b=>by obtain⟨p,c⟩:=h.good a b;exact c.hdn
abbrev Dv(L:A2)(g:U Nat)(a:U (U At×Int)):U D:=De (Er (DA (qs L g) a) [])
theorem gU{c:A2}(h:BY c){g:U Nat}(f:g.length=c.length)(a:U (U At×Int))(i:∀r∈a,AZ c r.1)(j:a.length<64):QG [#v[c.map LD],#v[a.map Zg],.val (Am g)]=Z (.own (Dv c g a)):=by
 have n1:=h.n1;have n4:=h.n4;have k:=xn (Q:=qs c g) (λq l=>h.hdn q.1<|gP l) (by simp;lia) (by simp;lia) a (by rw[gO f];exact i) j;have m:=Q7 h;have n:=xh h f;have o:=ZA (b:=Ch 2<|Zq (Zc 0)<|Zq (Zc 1) Z9) (e:=Vg) (ρ:=[.no,.no]) Zg Ke a λr _=>#[[.val<|Aj r.1,‹r.2›],rfl,by
  have p:=wU #v[[.int r.2]] r.2 []<|.inl rfl;have q:Ze (Z [Aj r.1,cel r.2 []])=Z [Aj r.1,cel r.2 []]:=Zp _ (by simp);have s:Ze (Z [D.int r.2])=Z [D.int r.2]:=Zp _ (by simp);rwa[Vg,s,p,q,Ke]]
 have t:=Zp (a.map Zg) (by rw[Bi];lia);unfold Dv;generalize c.map LD=L,CF c=u,Am g=Y,(qs c g).map Du=W,a.map Ke=C,a.map Zg=R,De (Er (DA (qs c g) a) [])=T at *;refine ZF rfl ?_;show Vh [#v[L],#v[R],.val Y,.no]=_
 have d:Zt 2 [] [#v[L],#v[R],.val Y,.no]=[.no,.no]:=rfl;rwa[Vh,C9,Zn,d,Fn,t,o,m,n,HU,k,LU]
theorem Rm{a:Type}[DecidableEq a]:∀(l A:U a),l.Nodup->(∀x∈l,x∈A)->l.length<=A.length
 |[],_,_,_=>FD _
 |x::l,A,h,c=>by
  obtain⟨d,f⟩:=E5.mp h;have g:=Rm l (A.erase x) f λy b=>(List.mem_erase_of_ne (show y≠x from λe=>d (by rw[<- e];exact b))).mpr (c y<|Be _ b);grind
theorem Ro{c:Type}{b:D->VE->O VE}{t:VE->O Bool}{e:AB}{ρ:VE}(G F:c->D)(p:c->Bool):∀xs:U c,(∀x∈xs,∃a,b (G x) ρ=Z a/\t a=Z (p x)/\e a=Z (F x))->ZX b t e ρ (xs.map G)=Z ((xs.filter p).map F)
 |[],_=>rfl
 |x::xs,h=>by
  obtain⟨a,g,i,j⟩:=h x Ba;have d:=Ro G F p xs λy k=>h y<|Be _ k;erw[AS,ZX,g,i];cases f:p x with
  |true=>rwa[j,d,List.filter_cons,f]
  |false=>erw[d,List.filter_cons,f,F9,if_false]
abbrev KE:=U At×D
def Lr(e:KE):D:=.tup [Aj e.1,e.2]
def B5(es:U KE):Bw:=es.map λe=>(.tup e.1,e.2)
theorem WE(es:U KE):∀p∈B5 es,D6 p.1=O':=λp a=>by
 obtain⟨e,_,rfl⟩:=Bp.mp a;rfl
theorem WF:∀(es:U KE)(k:U At),(Zx (B5 es) (.tup k)).isSome=decide (k∈es.map (·.1))
 |[],k=>rfl
 |e::r,k=>by
  have a:=WF r k;erw[B5,AS,Zx,KT.tup.injEq]at a ⊢;grind
theorem gW{es:U KE}(h:∀e∈es,A7 12 e.2=J'){k:U At}{d:D}(e:Zx (B5 es) (.tup k)=Z d):A7 12 d=J':=by
 induction es with|nil=>cases e|cons x r a=>
  erw[B5,AS,Zx,KT.tup.injEq]at e;by_cases c:x.1=k
  ·grind [Ba]
  ·rw[if_neg c]at e;exact a (λy b=>h y<|Be _ b) e
theorem WG:∀(es a:U KE),((a++es).map (·.1)).Nodup->a.length+es.length<=100000->GB (B5 a) (es.map Lr)=Z (B5 (a++es))
 |[],a,_,_=>by rw[D0];rfl
 |e::r,a,d,c=>by
  erw[Cg]at c;have f:(B5 a).length<Ax:=by
   unfold B5;rw[Bi];exact B6 (show a.length<100000 by exact Dz c) (by ext)
  have i:Zx (B5 a) (.tup e.1)=J:=by
   have:=WF a e.1;have g:e.1∉a.map (·.1):=λg=>by
    grind
   simp_all
  have h:ZY (B5 a) (.tup e.1) e.2=B5 (a++[e]):=by
   unfold ZY;grind [B5]
  have j:=WG r (a++[e]) (by rw[Mc];exact d) (by simp;lia);have hok:=Gu e.1;have b:=KS e.1<|WE a;rwa[Lr,GB,hok,b,f,h];simp_all
theorem gX(es:U KE):((B5 es).map λp=>kD p.1)=(es.map (·.1)).map Aj:=by
 unfold B5;rw[CP,CP];rfl
theorem xo(c f:U KE)(n1:(c.map (·.1)).Nodup)(n2:(f.map (·.1)).Nodup)(T:∀e∈c,A7 12 e.2=J')(P:∀e∈f,A7 12 e.2=J')(A:BR)(L:∀e∈c,e.1∈A)(M:∀e∈f,e.1∈A)(N:A.length<64)(g:∀k∈A,k≠[]/\k.length<=1000):∃ys:BR,Vb [#v[c.map Lr],#v[f.map Lr]]=Z (.own (ys.map Aj))/\ys.length<64:=by
 have Y:=Rm _ A n1 λk g=>by obtain⟨e,s,rfl⟩:=Bp.mp g;exact L e s
 have b2:=Rm _ A n2 λk g=>by obtain⟨e,s,rfl⟩:=Bp.mp g;exact M e s
 rw[Bi]at Y b2;have C:=WG c [] (by simpa using n1) (by simp;lia);have E:=WG f [] (by simpa using n2) (by simp;lia);rw[Ea]at C E;have q1:=gX c;have q2:=gX f;have K:=WF c;have w1:=λk d=>gW T (k:=k) (d:=d);have w2:=λk d=>gW P (k:=k) (d:=d);have Q:=WE c;have t2:=WE f;let p:U At->Bool:=λk=>!AF ((Zx (B5 f)<|.tup k).getD .non) ((Zx (B5 c)<|.tup k).getD .non);let r:U At->Bool:=λk=>!decide (k∈c.map (·.1));have c1:=Ro (b:=Zc 0) (t:=U4) (e:=ee) (ρ:=[.no,.lent (Zb<|B5 f) .d,.val<|.lst (Zb<|B5 c) .d]) Aj Aj p (c.map (·.1)) λk g=>#[[.val<|Aj k,.lent (Zb<|B5 f) .d,.val<|.lst (Zb<|B5 c) .d],rfl,by
  have y:Di (.tup k) (B5 c)=J':=KS k Q;have B:Di (.tup k) (B5 f)=J':=KS k t2;have hs:(Zx (B5 c)<|.tup k).isSome=J':=by rw[K,decide_eq_true g]
  obtain⟨d,hd⟩:=Option.isSome_iff_exists.mp hs;have hok:=Gu k;have G:=w1 k d hd;have H:A7 12 ((Zx (B5 f)<|.tup k).getD .non)=J':=by
   cases hh:Zx (B5 f) (.tup k)with
   |none=>rfl
   |some x=>exact w2 k x hh
  have S:ND (.lst (Zb<|B5 f) .d) (Aj k)=Z ((Zx (B5 f)<|.tup k).getD .non):=by
   erw[ND,Fs,hok,B,if_true]
  have e2:DH (.lst (Zb<|B5 c) .d) (Aj k)=Z d:=by
   rw[aK,hok];rwa[y,hd]
  have hp:p k=!AF ((Zx (B5 f)<|.tup k).getD .non) d:=by show(!AF _ ((Zx (B5 c)<|.tup k).getD .non))=_;rw[hd];rfl
  rw[hp];refine#[?_,rfl];rwa[U4,S,e2,Ce,HR,G,H]]
 have c2:=Ro (b:=Zc 0) (t:=U5) (e:=ef) (ρ:=[.no,.val<|.lst (Zb<|B5 c) .d]) Aj Aj r (f.map (·.1)) λk g=>#[[.val<|Aj k,.val<|.lst (Zb<|B5 c) .d],rfl,by
  have y:Di (.tup k) (B5 c)=J':=KS k Q;have hok:=Gu k;refine#[?_,rfl];have S:Dr J' (Aj k) (.lst (Zb<|B5 c) .d)=Z (.bl<|r k):=by
   rw[Np,hok];rwa[y,K];rw[Bool.true_bne]
  rwa[U5,S]]
 have m1:∀k∈c.map (·.1),k∈A:=λk g=>by obtain⟨e,s,rfl⟩:=Bp.mp g;exact L e s
 have m2:∀k∈f.map (·.1),k∈A:=λk g=>by obtain⟨e,s,rfl⟩:=Bp.mp g;exact M e s
 have z:((c.map (·.1)).filter p++(f.map (·.1)).filter r).Nodup:=HE.mpr #[n1.sublist List.filter_sublist,n2.sublist List.filter_sublist,λa F b hb e=>by
  subst e;have y:=(MC.mp F).1;have B:=(MC.mp hb).2;erw[r,decide_eq_true y]at B;cases B]
 have o:∀k∈(c.map (·.1)).filter p++(f.map (·.1)).filter r,k∈A:=λk g=>by
  rcases Dw.mp g with h|h
  ·exact m1 k (MC.mp h).1
  ·exact m2 k (MC.mp h).1
 have q:=Rm _ A z o;have l1:((c.map (·.1)).filter p).length<=c.length:=BZ (List.length_filter_le _ _) (by rw[Bi];exact Bf _);have l2:((f.map (·.1)).filter r).length<=f.length:=BZ (List.length_filter_le _ _) (by rw[Bi];exact Bf _);generalize (f.map (·.1)).filter r=w,(c.map (·.1)).filter p=n at *;have hi:=WA #v[(n++w).map Aj] (n++w) (.inl rfl) (Kv q N) λl hl=>g l<|o l hl;refine⟨Do J<|Zz A4<|n++w,?_,Kv (Ra _ _) (by rw[(ZE A4 _).length_eq];exact Kv q N)⟩;generalize Do J (Zz A4<|n++w)=R at *;have F:Zu (.lst<|n.map Aj) (.lst<|w.map Aj)=Z (.lst<|(n++w).map Aj):=by
  rw[u8 _ _ (by simp;lia),HD]
 have s1:=Zp ((c.map (·.1)).map Aj) (by simp;lia);have s2:=Zp ((f.map (·.1)).map Aj) (by simp;lia);have G:El (.lst (Zb<|B5 c) .d)=Z ((c.map (·.1)).map Aj):=by erw[El,Fs,Ci,q1]
 have H:El (.lst (Zb<|B5 f) .d)=Z ((f.map (·.1)).map Aj):=by erw[El,Fs,Ci,q2]
 have h0:B5 []=[]:=rfl;rw[h0]at C E;generalize f.map Lr=i,c.map Lr=j,B5 f=u,B5 c=m,(f.map (·.1)).map Aj=W2,(c.map (·.1)).map Aj=W1 at *;refine ZF rfl ?_;show Va [#v[j],#v[i],.no,.no,.no]=_
 have i1:Zt 1 [3,2] [#v[j],#v[i],.val<|.lst (Zb m) .d,.own (Zb u) .d,.no]=[.no,.lent (Zb u) .d,.val<|.lst (Zb m) .d]:=rfl;have i2:Zt 1 [2] [#v[j],#v[i],.val<|.lst (Zb m) .d,.val<|.lst (Zb u) .d,.own<|n.map Aj]=[.no,.val<|.lst (Zb m) .d]:=rfl;have z0:U6 [#v[j],#v[i],.no,.no,.no]=.next [#v[j],#v[i],.own (Zb m) .d,.no,.no]:=by
  rwa[U6,HL,C,FO]
 have z1:U7 [#v[j],#v[i],.own (Zb m) .d,.no,.no]=.next [#v[j],#v[i],.own (Zb m) .d,.own (Zb u) .d,.no]:=by
  rwa[U7,HL,E,FO]
 have z2:U8 [#v[j],#v[i],.own (Zb m) .d,.own (Zb u) .d,.no]=.next [#v[j],#v[i],.val<|.lst (Zb m) .d,.own (Zb u) .d,.own<|n.map Aj]:=by
  rwa[U8,Hj,JN,Zn,i1,G,s1,c1,Dg]
 have z3:U9 [#v[j],#v[i],.val<|.lst (Zb m) .d,.own (Zb u) .d,.own<|n.map Aj]=.ret (.own<|R.map Aj):=by
  rwa[U9,Hj,JN,Zn,i2,H,s2,c2,F,Fn,hi,LU,C9]
 erw[Va,eu,et,eo,eg,z0,z1,z2,z3,Zd]
def Lu(acc:U Bj):U KE:=(Zz A4 (Zo acc)).map λk=>(k,vC ((Z2 acc k).getD (0,[])))
theorem xp(acc:U Bj):De acc=(Lu acc).map Lr:=by
 unfold De Lu;rw[CP];rfl
theorem gY(acc:U Bj):(Lu acc).map (·.1)=Zz A4 (Zo acc):=by
 unfold Lu;rw[CP];exact List.map_id _
theorem xq(x:Int)(xs:U Int):A7 12 (cel x xs)=J':=rfl
theorem xr(acc:U Bj):∀e∈Lu acc,A7 12 e.2=J':=λe a=>by
 obtain⟨k,_,rfl⟩:=Bp.mp a;rfl
theorem xt(c:U At)(m:c≠[])(f:c.length<64):∃zs:U D,U0 [#v[c.map aD]]=Z (.own zs)/\0<zs.length/\zs.length<64:=by
 have j:=ZA (b:=Zc 0) (e:=eb) (ρ:=[.no]) aD (λa=>Aj [a]) c λa _=>#[[.val<|aD a],rfl,by
  have q:Ze (Z [aD a])=Z [aD a]:=Zp _ (by simp);rfl]
 have o:c.map (λa=>Aj [a])=(c.map λa=>[a]).map Aj:=by rw[CP];rfl
 rw[o]at j;have p:=WA #v[(c.map λa=>[a]).map Aj] (c.map λa=>[a]) (.inl rfl) (by simpa using f) λl f=>by
  obtain⟨a,_,rfl⟩:=Bp.mp f;exact#[by simp,by simp]
 have s:∀k∈Do J (Zz A4<|c.map λa=>[a]),∃a,k=[a]:=λk g=>by
  have:=(ZE A4 _).mem_iff.mp<|(gj _ k).mp g;obtain⟨a,_,rfl⟩:=Bp.mp this;exact#[a,rfl]
 have d:0<(Do J<|Zz A4<|c.map λa=>[a]).length:=by
  cases c with
  |nil=>exact absurd rfl m
  |cons a r=>exact List.length_pos_of_mem<|(gj _ [a]).mpr<|(ZE A4 _).mem_iff.mpr<|Bp.mpr ⟨a,Ba,rfl⟩
 have h:(Do J<|Zz A4<|c.map λa=>[a]).length<64:=Kv (Ra _ _) (by rw[(ZE A4 _).length_eq,Bi];exact f);generalize Do J (Zz A4<|c.map λa=>[a])=n at *;have t:=ZA (b:=Zc 0) (e:=ed) (ρ:=[.no]) Aj (λk=>aD<|hd k) n λk g=>#[[.val<|Aj k],rfl,by
  obtain⟨a,rfl⟩:=s k g;have:Ar (Aj [a]) (.int 0)=Z (aD a):=gE (aD a) [];rfl]
 have u:=Zp (c.map aD) (by simp;lia);have w:=Zp (n.map Aj) (by simp;lia);refine#[n.map λk=>aD<|hd k,?_,by simpa using d,by simpa using h];generalize c.map aD=M,(c.map λa=>[a]).map Aj=V,n.map Aj=W,(n.map λk=>aD<|hd k)=Y at *;refine ZF rfl ?_;show UZ [#v[M]]=_
 have i:Zt 1 [] [#v[M]]=[.no]:=rfl;rwa[UZ,Zn,i,u,j,p,HU,w,t,C9]
theorem xu{l:U At}(h:Ln l):IU [.val (Aj l),‹0›]=Z (.val (aD (hd l))):=by
 have a:l.getD 0 .non=hd l:=by cases l<;>rfl
 exact a ▸ WB l 0 (by have:=h.l4;lia)
theorem WH{l:U At}(h:Ln l):Ar (Aj l) (.int 0)=Z (aD (hd l)):=by
 have b:=h.l1;cases l with
 |nil=>simp at b
 |cons a r=>exact gE (aD a)<|r.map aD
theorem xw{l:U At}(h:Ln l):hd l∈l:=by
 have b:=h.l1;cases l with
 |nil=>simp at b
 |cons a r=>exact Ba
theorem xx{c:BR}{p:Nat}(d:GL c p){a:At}(r:a∈c.map hd):Vn [.val (LD c),‹0›,.val (aD a)]=Z (.val (.bl J')):=by
 obtain⟨h,f,rfl⟩:=Bp.mp r;have g:=d.val h f (hd h)<|xw<|d.ln h f;generalize hd h=a at *;have o:=fF (aD a) g.2.1;rw[show(Gr (aD a)||BX (aD a))=J' from g.1]at o;have q:=Ro (b:=Zc 0) (t:=Vc) (e:=Vd) (ρ:=[.no,‹0›,.val<|aD a]) Aj (λl=>aD<|hd l) (λl=>decide<|hd l=a) c λl i=>#[[.val<|Aj l,‹0›,.val<|aD a],rfl,by
  have s:=xu<|d.ln l i;have u:=WH<|d.ln l i;refine⟨?_,?_⟩
  ·rwa[Vc,s,Bu,HR,QX,QW]
  ·rwa[Vd,u]]
 have v:(c.filter λl=>decide<|hd l=a).map (λl=>aD<|hd l)=((c.filter λl=>decide<|hd l=a).map hd).map aD:=by rw[CP];rfl
 rw[v]at q;have k:(c.filter λl=>decide<|hd l=a).map hd≠[]:=by
  simp_all
 obtain⟨j,w,x,y⟩:=xt _ k (by
  rw[Bi];have:=List.length_filter_le (λl=>decide<|hd l=a) c;have:=d.n6;lia)
 have z:=Zp (c.map Aj) (by rw[Bi];have:=d.n6;lia);have A:Vf [.val<|LD c,‹0›,.val<|aD a]=Z (.own j):=by
  refine ZF rfl ?_;show Ve [.val<|LD c,‹0›,.val<|aD a]=_
  have m:Zt 1 [1,2] [.val<|LD c,‹0›,.val<|aD a]=[.no,‹0›,.val<|aD a]:=rfl;have B:ZM (Z<|.bl J')=Z J':=rfl;have n:DQ (ZG<|Gb<|some<|aD a) (Z O')=Z O':=by
   cases a<;>rfl
  rwa[Ve,o,B]at *;rwa[n,Fn,Zn,m,z,q,w,LU,C9]
 have C:(0:Int)<(j.length:Int):=Int.natCast_pos.mpr x;have i:Zr [.lst j]=Z (.int (j.length:Int)):=rfl;refine ZF rfl ?_;show Vm [.val<|LD c,‹0›,.val<|aD a]=_
 rwa[Vm,A,HU,i,EW,i2,decide_eq_true C]
theorem xy{L:A2}{s:U At}(h:∀b∈L,∃p,GL b p)(d:AZ L s):ZX (Ch 2 (Zq (Zc 0) (Zq (Zc 1) Z9))) (λ_=>Z J') QJ [.no,.no] (GG (λx y=>D.tup [x,y]) (L.map LD) (s.map aD))=Z ((L.map λ_=>J').map D.bl):=by
 induction d with|nil=>rfl|@cons b j a k e l c=>
  obtain⟨p,f⟩:=h b Ba;have g:QJ [.val<|LD b,.val<|aD a]=Z (.bl J'):=by
   have:=xx f e;rwa[QJ,this]
  have c:=c λb i=>h b<|Be _ i;rwa[Rl,ZX,Ch,Zq,Z9,g,c]
theorem xz{L:A2}(h:BY L){s:U At}(d:AZ L s):Vt [#v[L.map LD],.val (Aj s)]=Z (.val (.bl J')):=by
 have e:=xy h.good d;have f:=Rf L;have m:=h.n4;have g:=Zp (GG (λx y=>D.tup [x,y]) (L.map LD) (s.map aD)) (by simp;lia);have i:(s.map aD).length=(L.map LD).length:=by simp[d.len]
 have j:∀b,ZM (Z<|.bl b)=Z b:=λ_=>rfl;have k:CN [.tup<|s.map aD,.ty "tuple"]=Z (.bl J'):=rfl;have l1:Zr [.tup<|s.map aD]=Z (.int ((s.map aD).length:Int)):=rfl;have l:Zr [.lst<|L.map LD]=Z (.int ((L.map LD).length:Int)):=rfl;have a:Ce (.int ((s.map aD).length:Int)) (.int ((L.map LD).length:Int))=Z (.bl O'):=by rw[i];simp
 refine ZF rfl ?_;unfold Aj;generalize (L.map λ_=>J').map D.bl=B,s.map aD=S,(L.map LD)=n at *;show Vs [#v[n],.val<|.tup S]=_
 have c:Zt 2 [] [#v[n],.val<|.tup S]=[.no,.no]:=rfl;rwa[Vs,k,j,l1,l,a,Zn,Fa,FU,c,g,e,f]
abbrev Row:=U At×Int
variable{rows:U Row}
abbrev gZ:=Bool×Row
noncomputable def Jh(b:Bool):D:=if b then .str "+" else .str "-"
def Kf(c:gZ):D:=.tup [Jh c.1,Aj c.2.1,.int c.2.2]
theorem xA:¬ ("+":Ae)="-":=by decide +kernel
theorem g6:¬ ("-":Ae)="+":=by decide +kernel
theorem xB(b:Bool):Ce (Jh b) (.str "+")=Z (.bl (!b)):=by cases b<;>simp[Jh,g6]
theorem xE(b:Bool):Ce (Jh b) (.str "-")=Z (.bl b):=by cases b<;>simp[Jh,xA]
theorem xG(b:Bool):Bu (Jh b) (.str "+")=Z (.bl b):=by cases b<;>simp[Jh,g6]
theorem xH{L:A2}(h:BY L)(c:gZ)(g:AZ L c.2.1):QN [#v[L.map LD],.val (Kf c)]=Z (.val (.bl J')):=by
 have i:=xz h g;have d:=Wc (.int c.2.2) trivial;have j:∀b,ZM (Z<|.bl b)=Z b:=λ_=>rfl;have k:CN [Kf c,.ty "tuple"]=Z (.bl J'):=rfl;have l1:Zr [Kf c]=Z (.int 3):=rfl;have a:Ce (.int 3) (.int 3)=Z (.bl O'):=rfl;have l:Ar (Kf c) (.int 0)=Z (Jh c.1):=rfl;have e:Ar (Kf c) (.int 1)=Z (Aj c.2.1):=rfl;have f:Ar (Kf c) (.int 2)=Z (.int c.2.2):=rfl;have m:Gr (.int c.2.2)=J':=rfl;rw[m]at d;generalize Kf c=C,L.map LD=n at *;refine ZF rfl ?_;show VH [#v[n],.val C]=_
 unfold VH;rwa[k,j,l1,a,l,e,f,xB,xE];cases c.1<;>rwa[e,f,i,d,Cn]
def C0(r s:Row):Bool:=if r.1=s.1 then decide (r.2<s.2)else A4 r.1 s.1
theorem xI:TO C0:={
 asym:=λa b h=>by
  unfold C0 at h ⊢
  by_cases e:a.1=b.1
  ·rw[if_pos e]at h;rw[if_pos e.symm];simp at h ⊢;exact Int.le_of_lt h
  ·rw[if_neg e]at h;rw[if_neg (λz=>e z.symm)];exact Dt.asym _ _ h
 neg:=λa b c h=>by
  unfold C0 at h ⊢
  by_cases i:a.1=b.1
  ·rw[if_pos i]
   by_cases f:b.1=c.1
   ·rw[if_pos f];rw[if_pos (i.trans f)]at h;simp at h ⊢;lia
   ·rw[if_neg f];rw[if_neg (λz=>f (i.symm.trans z)),i]at h;exact .inr h
  ·rw[if_neg i]
   by_cases f:b.1=c.1
   ·rw[if_neg (λz=>i (z.trans f.symm)),<- f]at h;exact .inl h
   ·rw[if_neg f]
    by_cases j:a.1=c.1
    ·cases g:A4 a.1 b.1 with
     |true=>exact .inl rfl
     |false=>
      cases d:A4 b.1 a.1 with
      |true=>rw[j]at d;exact .inr d
      |false=>exact absurd (Dt.anti _ _ g d) i
    ·rw[if_neg j]at h;exact Dt.neg _ _ _ h
 anti:=λa b g d=>by
  unfold C0 at g d
  by_cases e:a.1=b.1
  ·rw[if_pos e]at g;rw[if_pos e.symm]at d
   simp at g d
   exact Prod.ext e (Int.le_antisymm d g)
  ·rw[if_neg e]at g;rw[if_neg (λz=>e z.symm)]at d;exact absurd (Dt.anti _ _ g d) e}
def Oo(r:Row):D:=.tup [.tup (r.1.map C6),.int r.2]
theorem xJ(r:Row)(h:r.1.length<=1000):QD [.val (Zg r)]=Z (.val (Oo r)):=by
 have a:=gF r.1 h;have b:Ar (Zg r) (.int 0)=Z (Aj r.1):=rfl;have c:Ar (Zg r) (.int 1)=Z (.int r.2):=rfl;have q:Ze (Z [D.tup<|r.1.map C6,.int r.2])=Z [D.tup<|r.1.map C6,.int r.2]:=Zp _ (by simp);refine ZF rfl ?_;show UV [.val<|Zg r]=_
 unfold Oo;rwa[UV,b,c,a,q]
theorem g8:∀a b:U At,CZ (a.map C6) (b.map C6)=decide (a=b)
 |[],[]=>by simp
 |[],_::_=>by simp
 |_::_,[]=>by simp
 |x::a,y::b=>by
  have c:=g8 a b;simp[gq,c]
theorem xK(r s:Row):ltN 6 (Oo r) (Oo s)=Z (C0 r s):=by
 have c:A7 12 (.tup<|r.1.map C6)=J':=by
  show(r.1.map C6).all (A7 11)=J'
  grind [Q9]
 have d:A7 12 (.tup<|s.1.map C6)=J':=by
  show(s.1.map C6).all (A7 11)=J'
  rw[HB,D4];exact λa _=>Q9 10 a
 have f:AF (.tup<|r.1.map C6) (.tup<|s.1.map C6)=decide (r.1=s.1):=by
  rw[<- g8];erw[AF]
 have g:=Wx 2 r.1 s.1;have h:ltN 5 (.tup<|r.1.map C6) (.tup<|s.1.map C6)=Z (A4 r.1 s.1):=g;have i:ltN 5 (.int r.2) (.int s.2)=Z (decide<|r.2<s.2):=rfl;show FP (ltN 5) [.tup<|r.1.map C6,.int r.2] [.tup<|s.1.map C6,.int s.2]=_
 unfold C0;rwa[FP,HR,c,d,f,h,i,decide_eq_true_eq,A7];by_cases e:r.1=s.1
 ·rw[if_pos e,if_pos e];by_cases b:r.2=s.2
  ·simp[b]
  ·simp[b]
 ·rw[if_neg e,if_neg e]
theorem xL(rs:U Row)(a:rs.length<64)(b:∀r∈rs,r.1.length<=1000):FQ QD (rs.map Zg)=Z ((Zz C0 rs).map Zg):=Wu Zg xI O' rs a Oo (λr h=>xJ r<|b r h) (λr _=>#[_,_,rfl]) (λr _ s _=>xK r s)
def Gd:At->Prop
 |.str z=>(∀c∈z.cps.toList,c∈signs.cps.toList)/\z.length<=12
 |_=>True
abbrev FA:Ae:="0123456789abcdefghijklmnopqrstuvwxyz"
theorem xM:∀c∈signs.cps.toList,∀d∈signs.cps.toList,decide (Txt.find FA #[(T' [c])]<Txt.find FA #[(T' [d])])=decide (c<d):=by decide +kernel
theorem g9(s0 a:Sl):∀(xs ys:U Nat),(∀c∈xs,c∈signs.cps.toList)->(∀c∈ys,c∈signs.cps.toList)->∀b d:Sl,(∃g i,ZC (Ch 2 (Zq (Zc 3) (Zq (Zc 4) Z9))) Z7 (GG (λx y=>D.tup [x,y]) (xs.map cS) (ys.map cS)) [s0,a,.val (.str FA),b,d]=.next [s0,a,.val (.str FA),g,i]/\decide (xs<ys)=decide (xs.length<ys.length)) \/ZC (Ch 2 (Zq (Zc 3) (Zq (Zc 4) Z9))) Z7 (GG (λx y=>D.tup [x,y]) (xs.map cS) (ys.map cS)) [s0,a,.val (.str FA),b,d]=.ret (.val (.bl (decide (xs<ys))))
 |[],ys,_,_,b,d=>.inl #[b,d,rfl,by cases ys<;>simp]
 |x::xs,[],_,_,b,d=>.inl #[b,d,rfl,by simp]
 |x::xs,y::ys,l,m,b,d=>by
  have n:Ch 2 (Zq (Zc 3)<|Zq (Zc 4) Z9) (D.tup [cS x,cS y]) [s0,a,.val<|.str FA,b,d]=Z [s0,a,.val<|.str FA,.val<|cS x,.val<|cS y]:=rfl;have f:Ce (cS x) (cS y)=Z (.bl<|!decide (x=y)):=by
   simp[cS]
  erw[AS,Rl,ZC,n];by_cases e:x=y
  ·subst e;have j:Z7 [s0,a,.val<|.str FA,.val<|cS x,.val<|cS x]=.next [s0,a,.val<|.str FA,.val<|cS x,.val<|cS x]:=by
    rwa[Z7,f]
   rw[j];have hd:decide (x::xs<x::ys)=decide (xs<ys):=by
    simp_all
   have o:decide ((x::xs).length<(x::ys).length)=decide (xs.length<ys.length):=by simp
   rw[hd,o];exact g9 s0 a xs ys (λc k=>l c<|Be _ k) (λc k=>m c<|Be _ k) (.val<|cS x) (.val<|cS x)
  ·have hd:decide (x::xs<y::ys)=decide (x<y):=by
    rw[decide_eq_decide,List.cons_lt_cons_iff];exact#[λh=>h.elim id λh=>absurd h.1 e,λh=>.inl h]
   refine .inr ?_;have p:=xM x (l x Ba) y<|m y Ba;have lt:E7 (.int<|Txt.find FA ⟨(T' [x])⟩) (.int<|Txt.find FA ⟨(T' [y])⟩)=Z (.bl<|decide<|x<y):=by rw[<- p];rfl
   have q:∀c,Nk FA [cS c]=Z (.int<|Txt.find FA ⟨(T' [c])⟩):=λ_=>rfl;have j:Z7 [s0,a,.val<|.str FA,.val<|cS x,.val<|cS y]=.ret (.val<|.bl<|decide<|x<y):=by
    rwa[Z7,KJ,f,e,decide_false,q,lt]
   rw[j,hd]
theorem xN(a b:At)(g:Gd a)(h:Gd b):Ug [.val (aD a),.val (aD b)]=Z (.val (.bl (Ep a b))):=by
 refine ZF rfl ?_;show Z6 [.val<|aD a,.val<|aD b,.no,.no,.no]=_
 cases a with
 |non=>cases b<;>simp[Z6,NR,aD,Ep]
 |int i=>cases b<;>simp[Z6,NR,Uf,Ud,du,dn,aD,Ep]
 |str x=>
  cases b with
  |non=>simp[Z6,NR,aD,Ep]
  |int j=>simp[Z6,NR,Uf,Ud,aD,Ep]
  |str y=>
   have l:Z6 [.val<|aD<|.str x,.val<|aD<|.str y,.no,.no,.no]=Qd [.val<|.str x,.val<|.str y,.val<|.str FA,.no,.no]:=rfl;rw[l];have k:∀z:Ae,z.length<=12->Zr [.str z]=Z (.int (z.cps.toList.length:Int)):=λz m=>by
    have c:z.cps.size<=Ax:=BZ m (by ext);simp[Str.length,c]
   have d:=k x g.2;have e:=k y h.2;rcases g9 (.val<|.str x) (.val<|.str y) x.cps.toList y.cps.toList g.1 h.1 .no .no with⟨o,p,f,n⟩|f
   ·have lt:E7 (.int (x.cps.toList.length:Int)) (.int (y.cps.toList.length:Int))=Z (.bl<|decide<|x.cps.toList<y.cps.toList):=by
     rw[n];show Z (D.bl<|decide<|(x.cps.toList.length:Int)<(y.cps.toList.length:Int))=_
     congr 2;rw[decide_eq_decide];exact Int.ofNat_lt
    rwa[Qd,Ue,dt,dr,Z4,Fa,FU,f,d,e,lt,Ep]
   ·rwa[Qd,Ue,Z4,Fa,FU,f,Ep]
theorem hD(s0 a:Sl):∀(xs ys:U At),(∀c∈xs,Gd c)->(∀c∈ys,Gd c)->∀b d:Sl,(∃g h,ZC (Ch 2 (Zq (Zc 2) (Zq (Zc 3) Z9))) Le (GG (λx y=>D.tup [x,y]) (xs.map aD) (ys.map aD)) [s0,a,b,d]=.next [s0,a,g,h]/\A4 xs ys=decide (xs.length<ys.length)) \/ZC (Ch 2 (Zq (Zc 2) (Zq (Zc 3) Z9))) Le (GG (λx y=>D.tup [x,y]) (xs.map aD) (ys.map aD)) [s0,a,b,d]=.ret (.val (.bl (A4 xs ys)))
 |[],ys,_,_,b,d=>.inl #[b,d,rfl,by cases ys<;>simp[A4]]
 |x::xs,[],_,_,b,d=>.inl #[b,d,rfl,by simp[A4]]
 |x::xs,y::ys,j,k,b,d=>by
  have m:Ch 2 (Zq (Zc 2)<|Zq (Zc 3) Z9) (D.tup [aD x,aD y]) [s0,a,b,d]=Z [s0,a,.val<|aD x,.val<|aD y]:=rfl;have f:=vX x y;erw[AS,Rl,ZC,m];by_cases e:x=y
  ·subst e;have l:Le [s0,a,.val<|aD x,.val<|aD x]=.next [s0,a,.val<|aD x,.val<|aD x]:=by
    rwa[Le,f]
   rw[l];have hd:A4 (x::xs) (x::ys)=A4 xs ys:=by simp[A4]
   have n:decide ((x::xs).length<(x::ys).length)=decide (xs.length<ys.length):=by simp
   rw[hd,n];exact hD s0 a xs ys (λc i=>j c<|Be _ i) (λc i=>k c<|Be _ i) (.val<|aD x) (.val<|aD x)
  ·have hd:A4 (x::xs) (y::ys)=Ep x y:=by simp[A4,e]
   refine .inr ?_;have o:=xN x y (j x Ba)<|k y Ba;have l:Le [s0,a,.val<|aD x,.val<|aD y]=.ret (.val<|.bl<|Ep x y):=by
    rwa[Le,f,e,decide_false,o]
   grind [hd]
theorem xO(l m:U At)(e:∀a∈l,Gd a)(f:∀a∈m,Gd a)(g:l.length=m.length):Ux [.val (Aj l),.val (Aj m)]=Z (.val (.bl (A4 l m))):=by
 refine ZF rfl ?_;show Qo [.val<|Aj l,.val<|Aj m,.no,.no]=_
 have c:∀l:U At,FU (Aj l)=Z (l.map aD):=λ_=>rfl;rcases hD (.val<|Aj l) (.val<|Aj m) l m e f .no .no with⟨h,i,b,d⟩|b
 ·rw[g,decide_eq_false<|Hq _]at d;rw[d];rwa[Qo,Z4,Fa,c,b]
 ·rwa[Qo,Z4,Fa,c,b]
theorem xQ{a:At}(h:EA (aD a)=J'):Gd a:=by
 cases a with
 |non=>trivial
 |int i=>trivial
 |str z=>
  have b:HZ z.cps.toList=J':=by
   erw[EA,aD,Gr,BX,Bool.false_or]at h;exact h
  obtain⟨⟨l⟩⟩:=z;cases l with|nil=>simp[HZ]at b|cons c r=>
   erw[HZ,CM,decide_eq_true_eq]at b;refine#[λd hd=>?_,b.2];grind [hd,vM]
theorem hE(x:Int):NS [‹x›]=Z (.val (.bl J')):=rfl
theorem xR{a:Type}(l:U a):KI [.lst ((l.map λ_=>O').map D.bl)]=Z (.bl O'):=by
 erw[KI,T0,Jz];simp_all
noncomputable def Ji:U (U At)->Nat->At->O At
 |[],_,_=>J
 |l::r,j,a=>if hd l=a/\j<l.length then Z (l.getD j .non)else Ji r j a
theorem hG:∀{b:BR}{j:Nat}{a:At},a∉b.map hd->Ji b j a=J
 |[],_,_,_=>rfl
 |l::r,j,a,h=>by
  erw[AS,Bo,not_or]at h;rw[Ji,if_neg λz=>h.1 z.1.symm,hG h.2]
theorem hJ:∀{b:BR}{j:Nat}{l:U At},(b.map hd).Nodup->l∈b->(Ji b j (hd l)).getD .non=l.getD j .non
 |x::r,j,l,c,a=>by
  erw[AS,E5]at c;unfold Ji;rcases Bo.mp a with rfl|a
  ·grind [hG]
  ·rw[if_neg λz=>c.1 (by rw[z.1];exact FV a)];exact hJ c.2 a
theorem hQ{ls0:BR}(a:At)(j:Nat):∀(d:BR)(g:Sl),(∀l∈d,Ln l)->match Ji d j a with
  |some x=>ZC (Zc 3) Ld (d.map Aj) [.val<|LD ls0,.val<|aD a,‹(j:Int)›,g]=.ret (.val<|aD x)
  |none=>∃k,ZC (Zc 3) Ld (d.map Aj) [.val<|LD ls0,.val<|aD a,‹(j:Int)›,g]=.next [.val<|LD ls0,.val<|aD a,‹(j:Int)›,k]
 |[],g,_=>#[g,rfl]
 |l::d,g,p=>by
  have s:=hQ (ls0:=ls0) a j d (.val<|Aj l) λm q=>p m<|Be _ q;have n:=WH<|p l Ba;have f:Bu (aD<|hd l) (aD a)=Z (.bl<|decide<|hd l=a):=by rwa[Bu,HR,QX,QW]
  have b:Zr [Aj l]=Z (.int (l.length:Int)):=by simp[Aj]
  have i:E7 (.int (j:Int)) (.int (l.length:Int))=Z (.bl<|decide<|j<l.length):=by
   simp_all
  have o:j<l.length->Ar (Aj l) (.int (j:Int))=Z (aD<|l.getD j .non):=λh=>ZU (by rw[Dy,CK h];simp[FR,h]);have r:Ld [.val<|LD ls0,.val<|aD a,‹(j:Int)›,.val<|Aj l]=if hd l=a/\j<l.length then .ret (.val<|aD<|l.getD j .non)else .next [.val<|LD ls0,.val<|aD a,‹(j:Int)›,.val<|Aj l]:=by
   by_cases e:hd l=a
   ·by_cases c:j<l.length
    ·have o:=o c;rw[if_pos #[e,c]];rw[decide_eq_true e]at f;rw[decide_eq_true c]at i;rwa[Ld,n,b,f,i,o]
    ·rw[if_neg λz=>c z.2];rw[decide_eq_true e]at f;rw[decide_eq_false c]at i;rwa[Ld,n,b,f,i]
   ·rw[if_neg λz=>e z.1];rw[decide_eq_false e]at f;rwa[Ld,n,b,f]
  unfold Ji;rwa[ZC,r];grind
theorem xS{b:BR}{p:Nat}(c:GL b p)(j:Nat){a:At}(g:a∈b.map hd):Uc [.val (LD b),.val (aD a),‹(j:Int)›]=Z (.val (aD (Jf (b,j) a))):=by
 obtain⟨l,d,rfl⟩:=Bp.mp g;have e:=hQ (ls0:=b) (hd l) j b .no c.ln;have i:Jf (b,j) (hd l)=(Ji b j<|hd l).getD .non:=by rw[WD c.hdn d,hJ c.hdn d]
 rw[i];refine ZF rfl ?_;show Qb [.val<|LD b,.val<|aD<|hd l,‹(j:Int)›,.no]=_
 cases f:Ji b j (hd l)with
 |some x=>
  rw[f]at e;rwa[Qb,Z4,e,Option.getD]
 |none=>
  rw[f]at e;obtain⟨k,e⟩:=e;rwa[Qb,Z4,e,Option.getD];rfl
theorem hR:∀{L:A2}{g:U Nat}{s:U At}{k:Nat}{e:BR}{j:Nat}{a:At},L[k]?=Z e->g[k]?=Z j->s[k]?=Z a->(Z1 (qs L g) s)[k]?=Z (Jf (e,j) a)
 |_::_,_::_,_::_,0,_,_,_,b,c,d=>by cases b;cases c;cases d;rfl
 |_::L,_::g,_::s,k+1,_,_,_,b,c,d=>by
  have:=hR (by simpa using b) (by simpa using c) (by simpa using d);simpa[qs,Z1]using this
 |[],_,_,_,_,_,_,b,_,_=>by simp at b
 |_::_,[],_,_,_,_,_,_,c,_=>by simp at c
 |_::_,_::_,[],_,_,_,_,_,_,d=>by simp at d
theorem AZ.get{L:A2}{s:U At}(d:AZ L s):∀k,k<L.length->∃c a,L[k]?=Z c/\s[k]?=Z a/\c∈L/\a∈c.map hd:=by
 induction d with|nil=>exact λk h=>absurd h<|Nat.not_lt_zero k|@cons c o a p e q f=>
  intro k g;cases k with|zero=>exact#[c,a,rfl,rfl,Ba,e]|succ k=>
   obtain⟨l,b,i,j,m,n⟩:=f k (by simpa using g);exact#[l,b,by simpa using i,by simpa using j,Be _ m,n]
theorem xT{L:A2}(h:BY L){g:U Nat}(x:g.length=L.length){s:U At}(o:AZ L s):Us [#v[L.map LD],.val (Aj s),.val (Am g)]=Z (.val (Aj (Z1 (qs L g) s))):=by
 have f:=o.len;have P:=h.n4;have y:(Z1 (qs L g) s).length=L.length:=by rw[Lq (by simp[qs];lia)];simp[qs];lia
 have q:=ZA (b:=Zc 0) (e:=Uq) (ρ:=[.no,#v[L.map LD],.val<|Aj s,.val<|Am g]) (λk:Nat=>D.int (k:Int)) (λk=>aD<|(Z1 (qs L g) s).getD k .non) (Bq s.length) λk z=>#[[‹(k:Int)›,#v[L.map LD],.val<|Aj s,.val<|Am g],rfl,by
  have l:=F4.mp z;obtain⟨m,a,r,t,A,B⟩:=o.get k<|Jr l f;obtain⟨p,C⟩:=h.good m A;obtain⟨j,u⟩:∃j,g[k]?=Z j:=#[g[k]'(by lia),CK (by lia)];have E:Ar (.lst<|L.map LD) (.int (k:Int))=Z (LD m):=ZU (by rw[Dy,r];rfl);have G:Ar (Aj s) (.int (k:Int))=Z (aD a):=ZU (by rw[Dy,t];rfl);have H:Ar (Am g) (.int (k:Int))=Z (.int (j:Int)):=ZU (by rw[Dy,u];rfl);have X:=xS C j B;have F:(Z1 (qs L g) s).getD k .non=Jf (m,j) a:=by simp[FR,hR r u t]
  rw[F];rwa[Uq,E,G,H,X]]
 have M:(Bq s.length).map (λk=>aD<|(Z1 (qs L g) s).getD k .non)=(Z1 (qs L g) s).map aD:=by
  apply JM;intro i;by_cases N:i<s.length
  ·have:i<(Z1 (qs L g) s).length:=by lia
   simp[N,this]
  ·simp_all [Z1,qs]
 rw[M]at q;have c:Zr [Aj s]=Z (.int (s.length:Int)):=by simp[Aj]
 have w:=J2 (s.length:Int) (La s.length) (by lia);rw[GD]at w;have K:=Zp ((Bq s.length).map λk:Nat=>D.int (k:Int)) (by simp;lia);have Q:∀d:D,Zj [Sl.val d]=Z [d]:=λ_=>rfl;have T:D5 [.lst<|(Z1 (qs L g) s).map aD]=Z (Aj<|Z1 (qs L g) s):=rfl;generalize Aj s=S,L.map LD=W,Am g=R,(Bq s.length).map (λk:Nat=>D.int (k:Int))=RG,(Z1 (qs L g) s).map aD=SA,Aj (Z1 (qs L g) s)=KK at *;refine ZF rfl ?_;show Ur [#v[W],.val S,.val R]=_
 have n:Zt 1 [0,1,2] [#v[W],.val S,.val R]=[.no,#v[W],.val S,.val R]:=rfl;rwa[Ur,Zn,n,c,Q,w,K,q,T]
theorem xU(p:Int×U Int):Qc [.val (vL p)]=Z (.val (vC p)):=by
 obtain⟨x,b⟩:=p;have a:(4:Nat)<=Ax:=by ext
 simp[Qc,AO,dm,Hc,Pj,Pl,Pm,cel,a];exact#[rfl,rfl]
def F2(e:Bj):KT×U D:=(.tup e.1,(e.2.1::e.2.2).map D.int)
theorem hT(k:U At)(x:Int):∀acc:U Bj,Gp (acc.map F2) (.tup k) (.int x)=(CV acc k x).map F2
 |[]=>rfl
 |e::r=>by
  have a:=hT k x r;erw[AS,Gp,CV,F2,KT.tup.injEq];by_cases c:e.1=k
  ·rw[if_pos c,if_pos c];simp[F2]
  ·rw[if_neg c,if_neg c,AS];exact congrArg _ a
theorem xV(acc:U Bj):HP (acc.map F2)=acc.map (Zy vL):=by
 unfold HP;rw[CP];rfl
theorem xW(k:U At)(acc:U Bj):Ts (.tup k) (acc.map F2)=J':=by
 unfold Ts;rw[HB,D4];exact λe _=>rfl
theorem hU{L:A2}(h:BY L){g:U Nat}(d:g.length=L.length)(R:U D):∀(a:U Row)(acc:U Bj)(m:Nat)(f i:Sl),(∀r∈a,AZ L r.1)->A6 acc L.length m->m+a.length<1000->∃b c,IL 3 (Ch 2 (Zq (Zc 4) (Zq (Zc 5) Z9))) N0 Qt (a.map Zg) [#v[L.map LD],#v[R],.val (Am g),.no,f,i,.no] (acc.map F2)=Z ([#v[L.map LD],#v[R],.val (Am g),.no,b,c,.no],(Er (DA (qs L g) a) acc).map F2)
 |[],acc,m,f,i,_,_,_=>#[f,i,rfl]
 |r::a,acc,m,f,i,t,j,w=>by
  erw[Cg]at w;have u:=t r Ba;have k:(Z1 (qs L g) r.1).length=L.length:=by have:=u.len;rw[Lq (by simp[qs];lia)];simp[qs];lia
  obtain⟨b,c,x⟩:=hU h d R a (CV acc (Z1 (qs L g) r.1) r.2) (m+1) (.val<|Aj r.1) ‹r.2› (λq y=>t q<|Be _ y) (j.add k r.2) (by lia);refine⟨b,c,?_⟩;have A:Ch 2 (Zq (Zc 4)<|Zq (Zc 5) Z9) (Zg r) [#v[L.map LD],#v[R],.val<|Am g,.no,f,i,.no]=Z [#v[L.map LD],#v[R],.val<|Am g,.no,.val<|Aj r.1,‹r.2›,.no]:=rfl;have B:=xT h d u;have hok:=Gu<|Z1 (qs L g) r.1;have C:=xW (Z1 (qs L g) r.1) acc;have n:(acc.map F2).length<Ax/\∀z∈acc.map F2,z.2.length<Ax:=by
   have E:1000<=Ax:=by ext
   refine#[by rw[Bi];have:=j.len;lia,λz n=>?_];obtain⟨e,G,rfl⟩:=Bp.mp n;have o:∀(l:U Bj),e∈l->e.2.2.length+1<=Kc l:=by
    intro l;induction l<;>grind [Kc]
   have F:=o acc G;have M:=j.sz;erw[F2,Bi,Cg];lia
  have H:N0 [#v[L.map LD],#v[R],.val<|Am g,.no,.val<|Aj r.1,‹r.2›,.no]=Z (Aj<|Z1 (qs L g) r.1):=by
   rwa[N0,B]
  have K:Qt [#v[L.map LD],#v[R],.val<|Am g,.no,.val<|Aj r.1,‹r.2›,.no]=Z (.int r.2):=rfl;have p:PP N0 Qt [#v[L.map LD],#v[R],.val<|Am g,.no,.val<|Aj r.1,‹r.2›,.no] (acc.map F2)=Z ((CV acc (Z1 (qs L g) r.1) r.2).map F2):=by
   erw[PP,H,K,hok,C,if_true,LX n,hT]
  have s:K1 [#v[L.map LD],#v[R],.val<|Am g,.no,.val<|Aj r.1,‹r.2›,.no]=J':=rfl;rw[AS,IL,A];rwa[s,p];exact x
theorem hV(s0 i j:Sl)(acc:U Bj)(h:(Zo acc).Nodup)(hz:acc.length<=1000):∀(a pre:U Bj)(n c:Sl),acc=pre++a->∃f g,ZC (Zc 4) Qu ((Zo a).map Aj) [s0,i,j,.val (.lst (Zb (acc.map (Zy vL))) .d),n,c,.own (Zb (pre.map (Zy vC))) .d]=.next [s0,i,j,.val (.lst (Zb (acc.map (Zy vL))) .d),f,g,.own (Zb (acc.map (Zy vC))) .d]
 |[],pre,n,c,b=>#[n,c,by rw[D0]at b;subst b;rfl]
 |e::a,pre,n,c,b=>by
  obtain⟨f,g,s⟩:=hV s0 i j acc h hz a (pre++[e]) (.val<|Aj e.1) c (by rw[b];simp);refine⟨f,g,?_⟩;have k:e.1∉Zo pre:=by
   intro t;rw[b]at h;unfold Zo at h t;rw[HD,AS]at h;exact(HE.mp h).2.2 _ t _ Ba rfl
  have o:Z2 acc e.1=Z e.2:=by
   rw[b];clear s h hz b;induction pre<;>grind [Z2,Zo]
  have u:=Rk vL o;have v:=xU e.2;have hok:=Gu e.1;have p:=Rh vC e.1 pre;have q:=Fs<|pre.map<|Zy vC;have l:(pre.map<|Zy vC).length<Ax:=by
   have:acc.length=pre.length+(a.length+1):=by rw[b];simp
   rw[Bi];exact B6 (show pre.length<1000 by lia) (by ext)
  have m:ZY (pre.map<|Zy vC) (.tup e.1) (vC e.2)=(pre++[e]).map (Zy vC):=by
   unfold ZY;rw[Kb,B8.mpr k];simp[Zy]
  have r:Zo (e::a)=e.1::Zo a:=rfl;have w:Qu [s0,i,j,.val<|.lst (Zb<|acc.map<|Zy vL) .d,.val<|Aj e.1,c,.own (Zb<|pre.map<|Zy vC) .d]=.next [s0,i,j,.val<|.lst (Zb<|acc.map<|Zy vL) .d,.val<|Aj e.1,c,.own (Zb<|(pre++[e]).map<|Zy vC) .d]:=by
   rw[<- m];rwa[Qu,Hy,u,v,II,q,hok,p,l]
  rw[r,AS,ZC];rwa[w];exact s
theorem hW{L:A2}(h:BY L){g:U Nat}(f:g.length=L.length)(a:U Row)(o:∀r∈a,AZ L r.1)(A:a.length<64):Qw [#v[L.map LD],#v[a.map Zg],.val (Am g)]=Z (.own (Zb ((Er (DA (qs L g) a) []).map (Zy vC))) .d):=by
 have ok:=A6.tab (DA (qs L g) a) (A6.nil L.length) λr h=>by
  obtain⟨s,t,rfl⟩:=Bp.mp h;have:=(o s t).len;simp_all [Z1,qs,Lq]
 have B:(DA (qs L g) a).length=a.length:=Bi _;obtain⟨c,e,p⟩:=hU h f (a.map Zg) a [] 0 .no .no o (A6.nil _) (by lia);obtain⟨i,j,q⟩:=hV #v[L.map LD] #v[a.map Zg] (.val<|Am g) (Er (DA (qs L g) a) []) ok.nd (by have:=ok.len;lia) (Er (DA (qs L g) a) []) [] c e rfl;have k:=xV<|Er (DA (qs L g) a) [];have l:El (.lst (Zb<|(Er (DA (qs L g) a) []).map<|Zy vL) .d)=Z ((Zo<|Er (DA (qs L g) a) []).map Aj):=by
  erw[El,Fs,Ci,gM]
 have m:K1 [#v[L.map LD],#v[a.map Zg],.val<|Am g,.own [] .d,.no,.no,.no]=J':=rfl;generalize a.map Zg=R,Er (DA (qs L g) a) []=b at *;have u:([]:U Bj).map F2=[]:=rfl;have n:Zb (([]:U Bj).map<|Zy vC)=[]:=rfl;rw[u]at p;rw[n]at q;generalize L.map LD=W,Am g=C at *;refine ZF rfl ?_;show Qv [#v[W],#v[R],.val C,.no,.no,.no,.no]=_
 have w:dY [#v[W],#v[R],.val C,.no,.no,.no,.no]=.next [#v[W],#v[R],.val C,.own [] .d,.no,.no,.no]:=rfl;have x:UK [#v[W],#v[R],.val C,.own [] .d,.no,.no,.no]=.next [#v[W],#v[R],.val C,.own (Zb<|b.map<|Zy vL) .d,c,e,.no]:=by
  rwa[UK,PQ,m,p,k]
 have y:dZ [#v[W],#v[R],.val C,.own (Zb<|b.map<|Zy vL) .d,c,e,.no]=.next [#v[W],#v[R],.val C,.own (Zb<|b.map<|Zy vL) .d,c,e,.own [] .d]:=rfl;have z:UL [#v[W],#v[R],.val C,.own (Zb<|b.map<|Zy vL) .d,c,e,.own [] .d]=.next [#v[W],#v[R],.val C,.val<|.lst (Zb<|b.map<|Zy vL) .d,i,j,.own (Zb<|b.map<|Zy vC) .d]:=by
  rwa[UL,Hj,JN,Z4,l,q]
 rwa[Qv,UO,UN,UM,d5,w,x,y,z,d3,Hy,JJ]
theorem Rp{c:O Bool}{a:DE}{g:Ay}(h:c=Z O'):Zd (ZO c a (.next ρ)) g=g ρ:=by subst h;rfl
theorem xX(s0:Sl)(T:U D)(i:∀r,AU (s0::r) 0=Z (.lst T))(acc:U Bj)(k:Nat)(a:U At)(p:Int×U Int)(j:Ar (.lst T) (.int (k:Int))=Z (.tup [Aj a,vC p]))(f:Z2 acc a=Z p)(h4:a.length<=1000)(G:k=0\/∃q d,Ar (.lst T) (.int ((k:Int)-1))=Z (.tup [Aj q,d])/\(∀x∈q,Gd x)/\(∀x∈a,Gd x)/\q.length=a.length/\A4 q a=J'):UQ [s0,.val (.lst (Zb (acc.map (Zy vC))) .d),‹(k:Int)›]=.next [s0,.val (.lst (Zb (acc.map (Zy vC))) .d),‹(k:Int)›]:=by
 have z:Ar (.tup [Aj a,vC p]) (.int 0)=Z (Aj a):=rfl;have l:Ar (.tup [Aj a,vC p]) (.int 1)=Z (vC p):=rfl;have H:CN [.tup [Aj a,vC p],.ty "tuple"]=Z (.bl J'):=rfl;have m:CN [vC p,.ty "tuple"]=Z (.bl J'):=rfl;have l1:Zr [.tup [Aj a,vC p]]=Z (.int 2):=rfl;have n:Ce (.int 2) (.int 2)=Z (.bl O'):=rfl;have A:∀b,ZM (Z<|.bl b)=Z b:=λ_=>rfl;have o:Zs (vC p)=Z ([((p.2.length+1:Nat):Int),(p.1::p.2).sum,p.2.foldl mn p.1,p.2.foldl mx p.1].map D.int):=rfl;have s:=ZA (b:=Zc 0) (e:=UP) (ρ:=[.no]) D.int (λ_=>D.bl J') [((p.2.length+1:Nat):Int),(p.1::p.2).sum,p.2.foldl mn p.1,p.2.foldl mx p.1] λx _=>#[[‹x›],rfl,by
  have:=hE x;rwa[UP,this]]
 have q0:=Zp ([((p.2.length+1:Nat):Int),(p.1::p.2).sum,p.2.foldl mn p.1,p.2.foldl mx p.1].map D.int) (by simp);have t:=Rf [((p.2.length+1:Nat):Int),(p.1::p.2).sum,p.2.foldl mn p.1,p.2.foldl mx p.1];have g:EI [.lst<|[((p.2.length+1:Nat):Int),(p.1::p.2).sum,p.2.foldl mn p.1,p.2.foldl mx p.1].map λ_=>D.bl J']=Z (.bl J'):=t;have B:=ZA (b:=Zc 0) (e:=d7) (ρ:=[.no]) aD (λ_=>D.bl O') a λa _=>#[[.val<|aD a],rfl,by cases a<;>rfl];have F:a.map (λ_=>D.bl O')=(a.map λ_=>O').map D.bl:=by rw[CP];rfl
 rw[F]at B;have L:=xR a;have M:=Zp (a.map aD) (by simp;lia);have N:Zs (Aj a)=Z (a.map aD):=rfl;have K:=Rk vC f;have u:Dr J' (Aj a) (.lst (Zb<|acc.map<|Zy vC) .d)=Z (.bl O'):=by
  have hok:=Gu a;have v:=Rh vC a acc;rw[Np,hok];rwa[v,Kb,f];rfl
 have E:=xq p.1 p.2;have w:Ce (vC p) (vC p)=Z (.bl O'):=by
  have:AF (vC p) (vC p)=J':=Pf 12 _ E;rwa[Ce,HR,E,this]
 generalize vC p=C,([((p.2.length+1:Nat):Int),(p.1::p.2).sum,p.2.foldl mn p.1,p.2.foldl mx p.1].map D.int)=CI,([((p.2.length+1:Nat):Int),(p.1::p.2).sum,p.2.foldl mn p.1,p.2.foldl mx p.1].map λ_=>D.bl J')=B1,acc.map (Zy vC)=Q at *;have y:∀a b:Sl,AU [a,b,‹(k:Int)›] 2=Z (.int (k:Int)):=λ_ _=>rfl;have p1:∀(a c:Sl) (X:D),AU [a,.val X,c] 1=Z X:=λ_ _ _=>rfl;have h:Zt 1 [] [s0,.val<|.lst (Zb Q) .d,‹(k:Int)›]=[.no]:=rfl;refine(Rp ?_).trans<|(Rp ?_).trans<|(Rp ?_).trans<|Rp ?_
 ·erw[Zk,Za,i,y,BH,j,CL,Ci,Zh,EU,pk,H,A,ZG,Gf,Cz,l1,n,AE,l,m]
 ·erw[Zk,Zn,h,Za,i,y,BH,j,z,l,o,q0,s,N,M,B,Zw,Ci,CL,Zh,EU,pk,g,L,A,ZG,Gf,Cz]
 ·erw[Za,i,p1,y,BH,j,z,l,u,K,w,AE,Cz]
 ·by_cases e:k=0
  ·subst e;rfl
  ·rcases G with P|⟨q,d,g1,Y,g3,g4,g5⟩
   ·exact absurd P e
   ·have hk:(0:Int)<(k:Int):=by lia
    have y0:Ar (.tup [Aj q,d]) (.int 0)=Z (Aj q):=rfl;have hah:=xO q a Y g3 g4;simp_all [Aj,BH,Ci,Gf]
theorem hX(n:Nat)(u:n<=1000)(s0:Sl)(acc:U Bj)(v:∀r,AU (s0::r) 0=Z (.lst (De acc)))(i:(Zo acc).Nodup)(w:∀k∈Zo acc,(∀a∈k,Gd a)/\k.length=n):∀(b pre:BR) (o:Sl),Zz A4 (Zo acc)=pre++b->∃f,ZC (Zc 2) UQ ((Fc pre.length b.length).map λk:Nat=>D.int (k:Int)) [s0,.val (.lst (Zb (acc.map (Zy vC))) .d),o]=.next [s0,.val (.lst (Zb (acc.map (Zy vC))) .d),f]
 |[],pre,o,_=>#[o,rfl]
 |a::b,pre,o,g=>by
  have c:∀k∈Zz A4 (Zo acc),(∀a∈k,Gd a)/\k.length=n:=λk C=>w k<|(ZE A4 _).mem_iff.mp C;have e:a∈Zz A4 (Zo acc):=by rw[g];simp
  obtain⟨p,j⟩:=Rj e;have l:∀(pre b:BR) (a:U At),Zz A4 (Zo acc)=pre++a::b->Ar (.lst<|De acc) (.int (pre.length:Int))=Z (.tup [Aj a,vC<|(Z2 acc a).getD (0,[])]):=λpre b a g=>by
   refine ZU ?_;unfold De;rw[g];simp
  have y:=l pre b a g;rw[j]at y;have E:pre.length=0\/∃q d,Ar (.lst<|De acc) (.int<|(pre.length:Int)-1)=Z (.tup [Aj q,d])/\(∀x∈q,Gd x)/\(∀x∈a,Gd x)/\q.length=a.length/\A4 q a=J':=by
   rcases List.eq_nil_or_concat pre with rfl|⟨s,q,rfl⟩
   ·exact .inl rfl
   ·right;rw[List.concat_eq_append]at g ⊢;have h:Zz A4 (Zo acc)=s++q::(a::b):=by rw[g];simp
    have m:q∈Zz A4 (Zo acc):=by rw[h];simp
    have t:(((s++[q]).length:Nat):Int)-1=(s.length:Int):=by simp
    rw[t];have A:=Q8 Dt<|Zo acc;have hd:=(ZE A4 _).nodup_iff.mpr i;rw[h]at A hd;have G:=(Mb.mp (List.pairwise_append.mp A).2.1).1 a Ba;have H:q≠a:=λz=>(E5.mp (HE.mp hd).2.1).1 (by rw[z];exact Ba);refine#[q,_,l s (a::b) q h,(c q m).1,(c a e).1,by rw[(c q m).2,(c a e).2],?_];cases F:A4 q a with
    |true=>rfl
    |false=>exact absurd (Dt.anti _ _ F G) H
  have t:=xX s0 (De acc) v acc pre.length a p y j (by rw[(c a e).2];exact u) E;obtain⟨f,B⟩:=hX n u s0 acc v i w b (pre++[a]) ‹(pre.length:Int)› (by rw[g];simp);refine#[f,?_];erw[Cg,Lk,AS,ZC,Zc,Ey,En,t];rw[FG]at B;exact B
theorem xY(n:Nat)(j:n<=1000)(s0:Sl)(acc:U Bj)(h:s0=#v[De acc]\/s0=.lent (De acc))(f:(Zo acc).Nodup)(l:∀k∈Zo acc,(∀a∈k,Gd a)/\k.length=n)(x:acc.length<=1000):Mm [s0,.val (.lst (Zb (acc.map (Zy vC))) .d)]=Z (.val (.bl J')):=by
 have m:∀r,AU (s0::r) 0=Z (.lst<|De acc):=λr=>by rcases h with rfl|rfl<;>rfl
 obtain⟨o,e⟩:=hX n j s0 acc m f l (Zz A4<|Zo acc) [] .no rfl;have c:(Zz A4<|Zo acc).length=acc.length:=by rw[(ZE A4 _).length_eq];unfold Zo;rw[Bi]
 rw[c]at e;have q:(Fc ([]:BR).length acc.length)=Bq acc.length:=by rw[Ll];rfl
 rw[q]at e;have i:=J2 (acc.length:Int) (La acc.length) (by lia);rw[GD]at i;have s:Zr [.lst<|De acc]=Z (.int (acc.length:Int)):=by
  simp_all [De,Bi]
 have l1:FW [.lst (Zb<|acc.map<|Zy vC) .d]=Z (.int (acc.length:Int)):=by
  have:(acc.map<|Zy vC).all (λp=>!D6 p.1)=J':=by rw[HB,D4];exact λe _=>rfl
  rwa[FW,Fs,this,Bi]
 have g:Ce (.int (acc.length:Int)) (.int (acc.length:Int))=Z (.bl O'):=by simp
 have t:CN [.lst<|De acc,.ty "list"]=Z (.bl J'):=rfl;have u:∀b,ZM (Z<|.bl b)=Z b:=λ_=>rfl;have w:∀d:D,Zj [Sl.val d]=Z [d]:=λ_=>rfl;generalize (acc.length:Int)=N,D.lst (Zb<|acc.map<|Zy vC) .d=R,De acc=T,((Bq acc.length).map λk:Nat=>D.int (k:Int))=y at *;refine ZF rfl ?_;show UR [s0,.val R,.no]=_
 rcases h with rfl|rfl<;>rwa[UR,t,u,s,l1,g,Z4,w,i,e]
structure Ends(as:List Int)(m M:Int):Prop where
 m1:m∈as
 m2:∀a∈as,m<=a
 M1:M∈as
 M2:∀a∈as,a<=M
theorem Ends.uniq{a:U Int}{m M b c:Int}(h:Ends a m M)(h':Ends a b c):m=b/\M=c:=by
 have d:=h.m2 _ h'.m1;have e:=h'.m2 _ h.m1;have f:=h.M2 _ h'.M1;have g:=h'.M2 _ h.M1;lia
theorem hY(x:Int):∀xs:U Int,Ends (x::xs) (xs.foldl mn x) (xs.foldl mx x):=by
 intro xs;induction xs generalizing x with|nil=>exact#[by simp,by simp,by simp,by simp]|cons y i d=>
  have a:=d<|mn x y;have b:=d<|mx x y;have f:=gt x y;have g:=gu x y;erw[Re];refine#[?_,λz c=>?_,?_,λz c=>?_]
  ·rcases Bo.mp a.m1 with e|e
   ·rw[e,f];rcases Int.le_total x y with z|z
    ·rw[show min x y=x by exact Int.min_eq_left z];simp
    ·rw[show min x y=y by exact Int.min_eq_right z];simp
   ·exact Be _<|Be _ e
  ·have h:=a.m2 (mn x y) Ba;rcases Bo.mp c with rfl|c
   ·lia
   ·rcases Bo.mp c with rfl|c
    ·lia
    ·exact a.m2 z<|Be _ c
  ·rcases Bo.mp b.M1 with e|e
   ·rw[e,g];rcases Int.le_total x y with z|z
    ·rw[show max x y=y by exact Int.max_eq_right z];simp
    ·rw[show max x y=x by exact Int.max_eq_left z];simp
   ·exact Be _<|Be _ e
  ·have h:=b.M2 (mx x y) Ba;rcases Bo.mp c with rfl|c
   ·lia
   ·rcases Bo.mp c with rfl|c
    ·lia
    ·exact b.M2 z<|Be _ c
theorem xZ{a b:U Int}(h:a.Perm b):a.sum=b.sum:=by
 induction h with
 |nil=>rfl
 |cons x _ c=>simp[c]
 |swap x y l=>erw[List.sum_cons];exact Int.add_left_comm y x l.sum
 |trans _ _ d i2=>rw[d,i2]
def E1(acc:U Bj):U (U At×Int):=acc.flatMap λe=>(e.2.1::e.2.2).map λx=>(e.1,x)
theorem Mw(e:Bj)(r:U Bj):E1 (e::r)=(e.2.1::e.2.2).map (λx=>(e.1,x))++E1 r:=rfl
noncomputable def Mx:U Bj->U At->Int->U Int->U Bj
 |[],k,x,a=>[(k,x,a)]
 |e::r,k,x,a=>if e.1=k then(e.1,e.2.1,e.2.2++x::a)::r else e::Mx r k x a
theorem hZ(k:U At)(x:Int):∀acc:U Bj,CV acc k x=Mx acc k x []
 |[]=>rfl
 |e::r=>by unfold CV Mx;rw[hZ k x r]
theorem h7(k:U At)(x:Int)(xs:U Int):∀acc:U Bj,(E1 (Mx acc k x xs)).Perm ((x::xs).map (λy=>(k,y))++E1 acc)
 |[]=>by simp[Mx,E1]
 |e::r=>by
  unfold Mx;by_cases c:e.1=k
  ·grind [Mw,E1]
  ·rw[if_neg c,Mw,Mw];refine((h7 k x xs r).append_left _).trans ?_;rw[<- Mc,<- Mc];exact List.perm_append_comm.append_right _
theorem x0{x y:Int}{xs ys:U Int}(h:(x::xs).Perm (y::ys)):cel x xs=cel y ys:=by
 have d:=hY x xs;have b:=hY y ys;have e:Ends (x::xs) (ys.foldl mn y) (ys.foldl mx y):=#[h.mem_iff.mpr b.m1,λa c=>b.m2 a<|h.mem_iff.mp c,h.mem_iff.mpr b.M1,λa c=>b.M2 a<|h.mem_iff.mp c];obtain⟨f,g⟩:=d.uniq e;have i:=xZ h;have j:=h.length_eq;grind [cel]
def GK(k:U At)(l:U (U At×Int)):U Int:=l.filterMap λp=>if p.1=k then Z p.2 else J
theorem h8(k:U At)(a b:U (U At×Int)):GK k (a++b)=GK k a++GK k b:=by simp[GK]
theorem ie(k:U At):∀xs:U Int,GK k (xs.map λx=>(k,x))=xs
 |[]=>rfl
 |x::xs=>by
  have a:=ie k xs;grind [GK]
theorem ig{k k':U At}(h:k'≠k):∀xs:U Int,GK k (xs.map λx=>(k',x))=[]
 |[]=>rfl
 |x::xs=>by
  simp_all [GK]
theorem ii{k:U At}:∀{acc:U Bj},k∉Zo acc->GK k (E1 acc)=[]
 |[],_=>rfl
 |e::r,h=>by
  erw[Zo,AS,Bo,not_or]at h;rw[Mw,h8,ig<|B2 h.1,ii h.2];rfl
theorem ij{k:U At}{p:Int×U Int}:∀{acc:U Bj},(Zo acc).Nodup->Z2 acc k=Z p->GK k (E1 acc)=p.1::p.2
 |e::r,a,h=>by
  erw[Zo,AS,E5]at a;unfold Z2 at h;rw[Mw,h8];by_cases c:e.1=k
  ·rw[if_pos c]at h;cases h;subst c;rw[ie,ii a.1,D0]
  ·rw[if_neg c]at h;rw[ig c,ij a.2 h];rfl
theorem WI{k:U At}:∀{acc:U Bj},k∈Zo acc↔∃x,(k,x)∈E1 acc
 |[]=>by simp[Zo,E1]
 |e::r=>by
  have a:=WI (k:=k) (acc:=r);grind [Mw,Zo]
theorem x3{a:U Bj}(d:(Zo acc).Nodup)(f:(Zo a).Nodup)(h:(E1 acc).Perm (E1 a)):De acc=De a:=by
 have g:=(List.perm_ext_iff_of_nodup d f).mpr λk=>by
  rw[WI,WI];grind
 have c:=wP Dt ((ZE A4 _).trans g)<|Q8 Dt _;unfold De;rw[c];refine Wr λk b=>?_;obtain⟨i,j⟩:=Rj b;obtain⟨p,e⟩:=Rj (acc:=acc) (by rw[c];exact b);have l:(GK k<|E1 acc).Perm (GK k<|E1 a):=h.filterMap _;grind [ij,Aj,cel,x0]
theorem ik:∀(a:U Row)(acc:U Bj),(E1 (Er a acc)).Perm (a++E1 acc)
 |[],acc=>.refl _
 |r::a,acc=>by
  refine(ik a<|CV acc r.1 r.2).trans ?_;rw[hZ];refine((h7 _ _ [] acc).append_left _).trans ?_;simp_all
theorem ya{n:Nat}{rs a:U Row}(h:rs.Perm a)(b:∀r∈rs,r.1.length=n):De (Er rs [])=De (Er a []):=by
 refine x3 (A6.tab rs (A6.nil n) b).nd (A6.tab a (A6.nil n) λr c=>b r<|h.mem_iff.mpr c).nd ?_;grind [E1,ik]
theorem im(L:A2)(h:∀a∈L,∃p,GL a p)(ws:U Int)(n:L.length<=ws.length):∀(e pre:A2),L=pre++e->∃s,AZ e s/\ZX (Zc 0) (λ_=>Z J') Qn [.no,#v[L.map LD],#v[ws.map D.int]] ((Fc pre.length e.length).map λk:Nat=>D.int (k:Int))=Z (s.map aD)
 |[],pre,_=>#[[],.nil,rfl]
 |a::e,pre,g=>by
  obtain⟨s,o,i⟩:=im L h ws n e (pre++[a]) (by rw[g];simp);rw[FG]at i;obtain⟨p,l⟩:=h a (by rw[g];simp);have f:pre.length<ws.length:=by
   have:L.length=pre.length+(e.length+1):=by rw[g];simp
   lia
  have q:Ar (.lst<|L.map LD) (.int (pre.length:Int))=Z (LD a):=ZU (by rw[g];simp);have r:Ar (.lst<|ws.map D.int) (.int (pre.length:Int))=Z (.int<|ws.getD pre.length 0):=ZU (by rw[Dy,CK f];simp[FR,f]);generalize ws.getD pre.length 0=x at *;have t:Zr [LD a]=Z (.int (a.length:Int)):=by simp
  have u:=l.n1;have w:=l.n6;have b:(0:Int)<(a.length:Int):=by lia
  have y:=Ds x (a.length:Int) b;have E:=Jc x (show(a.length:Int)≠0 by lia);have m1:=Ib x b;generalize x%(a.length:Int)=j at *;obtain⟨c,rfl⟩:∃c:Nat,j=(c:Int):=#[j.toNat,by lia];have m:c<a.length:=by lia
  have d:a[c]∈a:=Hb m;have z:Ar (LD a) (.int (c:Int))=Z (Aj a[c]):=ZU (by rw[Dy,CK m];rfl);have A:=WH<|l.ln _ d;refine⟨hd a[c]::s,.cons (FV d) o,?_⟩;have C:Qn [.val<|.int (pre.length:Int),.val<|.lst<|L.map LD,.val<|.lst<|ws.map D.int]=Z (aD<|hd a[c]):=by
   generalize L.map LD=F at *;generalize ws.map D.int=W at *;generalize LD a=B at *;erw[Qn,Za,Zk,Zh,CL,AU,CC,Cw,BH,Ci,EU,pk,q,r,t,y,z,A]
  erw[Cg,Lk,AS,ZX,Zc,En,C];rw[show(pre.length+1:Nat)=pre.length+[a].length from rfl];erw[Cg,EG]at i ⊢;rw[i];rfl
theorem yb{L:A2}(h:BY L)(c:Int):∃r:Row,AZ L r.1/\Uw [#v[L.map LD],‹c›]=Z (.val (Zg r)):=by
 obtain⟨e,z,hl,_⟩:=QZ c 6<|Nat.le_of_ble_eq_true rfl;have h4:=h.n4;obtain⟨s,n,x⟩:=im L h.good e (by lia) L [] rfl;have A:(Fc ([]:A2).length L.length)=Bq L.length:=by rw[Ll];rfl
 rw[A]at x;have f:Zr [.lst<|L.map LD]=Z (.int (L.length:Int)):=by simp
 have y:=J2 (L.length:Int) (La<|Kq L) (by lia);rw[GD]at y;have B:=Zp ((Bq L.length).map λk:Nat=>D.int (k:Int)) (by simp;lia);have C:∀d:D,Zj [Sl.val d]=Z [d]:=λ_=>rfl;have E:D5 [.lst<|s.map aD]=Z (Aj s):=rfl;have G:Ar (.lst<|e.map D.int) (.int 4)=Z (.int<|e.getD 4 0):=Ms (Mr 4) (by lia);have H:Ar (.lst<|e.map D.int) (.int 5)=Z (.int<|e.getD 5 0):=Ms (Mr 5) (by lia);generalize e.getD 5 0=l,e.getD 4 0=m at *;have X:KC (.int 10) (.int 30)=Z (.int<|10^30):=wf (by ext);have F:=Ds m 7 (by ext);have m2:=Ds m 2 (by ext);have o:=Ds c (10^30) (by ext);have M:=Ds l 4 (by ext);have N:∀i:Int,Iz (.int i) (.int 3)=Z (.int<|i-3):=λ_=>rfl;have b0:∀i:Int,Iz (.int 0) (.int i)=Z (.int<|0-i):=λ_=>rfl;have j0:=Jc l (show(4:Int)≠0 by ext);have j1:=Ib l (show(0:Int)<4 by ext);generalize c%10^30=g,m%2=K,m%7=Q,l%4=j at *;have p:∀a b c d:Int,Zj [Sl.val<|.int a,‹b›,‹c›,‹d›]=Z [D.int a,.int b,.int c,.int d]:=λ_ _ _ _=>rfl;have T:∀a b c d:D,Ze (Z [a,b,c,d])=Z [a,b,c,d]:=λ_ _ _ _=>Zp _ (by simp);obtain⟨v,P⟩:∃v,Ar (.lst [.int<|Q-3,.int g,.int<|0-g,.int K]) (.int j)=Z (.int v):=by
  rcases(show j=0\/j=1\/j=2\/j=3 by lia)with q|q|q|q<;>rw[q]
  ·exact#[_,rfl]
  ·exact#[_,rfl]
  ·exact#[_,rfl]
  ·exact#[_,rfl]
 have t:Zj [Sl.val<|Aj s,‹v›]=Z [Aj s,.int v]:=rfl;have Y:Ze (Z [Aj s,.int v])=Z [Aj s,.int v]:=Zp _ (by simp);refine#[(s,v),n,?_];show _=Z (Rv.val<|.tup [Aj s,.int v])
 generalize L.map LD=R,e.map D.int=W,(Bq L.length).map (λk:Nat=>D.int (k:Int))=RG,Aj s=S,s.map aD=SA at *;refine ZF rfl ?_;show Uv [#v[R],‹c›,.no,.no]=_
 have u:Zt 1 [0,2] [#v[R],‹c›,#v[W],.no]=[.no,#v[R],#v[W]]:=rfl;have w:HW [‹c›,‹6›]=Z #v[W]:=z;rwa[Uv,w,Zn,u,f,C,y,B,x,E,G,H,X,F,m2,o,M,N,b0,p,T,P,t,Y]
abbrev wh(a:BR):Nat:=(a.headD []).length
def E2(p:Nat):D->Bool
 |.int i=>decide (0<=i)&&decide (i<=(p:Int))
 |_=>O'
set_option tactic.hygienic true in
theorem GL.wh{a:BR}{p:Nat}(h:GL a p):wh a=p:=by
 have b:=h.n1
 cases a with
 |nil=>simp at b
 |cons l r=>exact h.len l Ba
theorem yc{a:BR}{p:Nat}(h:GL a p):P4 [.val (LD a)]=Z ‹(wh a:Int)›:=by
 have c:=h.n1;cases a with|nil=>simp at c|cons l a=>
  have d:atI ((l::a).map Aj) 0=Z (Aj l):=ZU rfl;have b:Zr [Aj l]=Z (.int ((l.map aD).length:Int)):=rfl;rw[Bi]at b;erw[P4,AO,Cg,EG,F1,if_true,cG,Lo,Lp,D0,Zk,Za,AU,Cw,BH,Ar,d,CL,Ci,Zh,EU,pk,b,Zv,Zd];rfl
theorem ye{a:BR}{p:Nat}(h:GL a p)(d:D)(hd:Sm d):Up [.val (LD a),.val d]=Z (.val (.bl (E2 (wh a) d))):=by
 have b:=Wc d hd;have c:=yc h;generalize (wh a)=n at *;cases d with
 |int i=>
  have e:Gr (.int i)=J':=rfl;rw[e]at b;have l1:Pd (.int 0) (.int i)=Z (.bl<|decide<|0<=i):=rfl;have f:Pd (.int i) (.int (n:Int))=Z (.bl<|decide<|i<=(n:Int)):=rfl;refine ZF rfl ?_;show NU [.val<|LD a,‹i›]=_
  unfold E2;rwa[NU,b,Nj,l1];cases decide (0<=i)with
  |true=>rwa[c,f,Cn,Bool.true_and]
  |false=>rwa[Cn,Bool.false_and]
 |_=>
  have e:HV [.val _]=Z (.val<|.bl O'):=b;refine ZF rfl ?_;show NU [.val<|LD a,.val _]=_
  rwa[NU,e,Cn,E2]
abbrev Op(L:A2)(zs:U D):Bool:=((L.zip zs).map λq=>E2 (wh q.1) q.2).all id
theorem yg(bs:U Bool):IE (bs.map D.bl)=Z bs:=by
 simp_all
theorem io:∀(L:A2)(zs:U D),GG (λx y=>D.tup [x,y]) (L.map LD) zs=(L.zip zs).map λq=>D.tup [LD q.1,q.2]
 |[],_=>by simp
 |_::_,[]=>by simp
 |a::L,z::zs=>by simp[io L zs]
theorem ip{L:A2}(h:BY L)(zs:U D)(hz:∀z∈zs,Sm z)(j:zs.length=L.length):ZD [#v[L.map LD],.val (.tup zs)]=Z (.val (.bl (Op L zs))):=by
 have s:=h.n4;have c:=io L zs;have d:=ZA (b:=Ch 2<|Zq (Zc 0)<|Zq (Zc 1) Z9) (e:=UA) (ρ:=[.no,.no]) (λq:U (U At)×D=>D.tup [LD q.1,q.2]) (λq=>D.bl<|E2 (wh q.1) q.2) (L.zip zs) λq k=>#[[.val<|LD q.1,.val q.2],rfl,by
  have a:=OS k;obtain⟨p,l⟩:=h.good q.1 a.1;have:=ye l q.2<|hz _ a.2;rwa[UA,this]]
 have a:(L.zip zs).map (λq=>D.bl<|E2 (wh q.1) q.2)=((L.zip zs).map λq=>E2 (wh q.1) q.2).map D.bl:=by rw[CP];rfl
 rw[a]at d;have m:EI [.lst<|((L.zip zs).map λq=>E2 (wh q.1) q.2).map D.bl]=Z (.bl<|Op L zs):=by
  erw[EI,yg,Ci]
 have i:=Zp ((L.zip zs).map λq=>D.tup [LD q.1,q.2]) (by simp;lia);have n:∀b,ZM (Z<|.bl b)=Z b:=λ_=>rfl;have o:CN [.tup zs,.ty "tuple"]=Z (.bl J'):=rfl;have l1:Zr [.tup zs]=Z (.int (zs.length:Int)):=rfl;have r:Zr [.lst<|L.map LD]=Z (.int ((L.map LD).length:Int)):=rfl;have f:Ce (.int (zs.length:Int)) (.int ((L.map LD).length:Int))=Z (.bl O'):=by rw[j,Bi];simp
 rw[<- c]at d i;generalize L.map LD=W,((L.zip zs).map λq=>E2 (wh q.1) q.2).map D.bl=u at *;refine ZF rfl ?_;show Lf [#v[W],.val<|.tup zs]=_
 have g:Zt 2 [] [#v[W],.val<|.tup zs]=[.no,.no]:=rfl;rwa[Lf,o,n,l1,r,f,Zn,Fa,FU,g,i,d,m]
theorem WJ(L:U D)(zs:U D)(c:zs.length≠L.length):ZD [#v[L],.val (.tup zs)]=Z (.val (.bl O')):=by
 have d:∀b,ZM (Z<|.bl b)=Z b:=λ_=>rfl;have e:CN [.tup zs,.ty "tuple"]=Z (.bl J'):=rfl;have l1:Zr [.tup zs]=Z (.int (zs.length:Int)):=rfl;have f:Zr [.lst L]=Z (.int (L.length:Int)):=rfl;have a:Ce (.int (zs.length:Int)) (.int (L.length:Int))=Z (.bl J'):=by
  have:=Wi rfl rfl c;simp[this]
 refine ZF rfl ?_;show Lf [#v[L],.val<|.tup zs]=_
 rwa[Lf,e,d,l1,f,a]
theorem Oq(L:U D)(d:D)(a:CN [d,.ty "tuple"]=Z (.bl O')):ZD [#v[L],.val d]=Z (.val (.bl O')):=by
 have c:∀b,ZM (Z<|.bl b)=Z b:=λ_=>rfl;refine ZF rfl ?_;show Lf [#v[L],.val d]=_
 rwa[Lf,a,c]
def DW(L:A2)(g:U Nat):Prop:=g.length=L.length/\∀q∈L.zip g,q.2<=wh q.1
theorem iq:∀{L:A2}{g:U Nat},(∀q∈L.zip g,q.2<=wh q.1)->Op L (g.map λj:Nat=>D.int (j:Int))=J'
 |[],_,_=>by simp
 |_::_,[],_=>by simp
 |b::L,j::g,h=>by
  have c:=iq λq a=>h q<|Be _ a;simp_all [Ba,E2,wh,Op,Bool.and_true,Int.ofNat_le,CM]
theorem Kg{L:A2}(h:BY L){g:U Nat}(a:DW L g):ZD [#v[L.map LD],.val (Am g)]=Z (.val (.bl J')):=by
 have:=ip h (g.map λj:Nat=>D.int (j:Int)) (λz b=>by obtain⟨j,_,rfl⟩:=Bp.mp b;trivial) (by rw[Bi];exact a.1);rw[iq a.2]at this;exact this
abbrev gk(g:U Nat):U At:=g.map λj:Nat=>At.int (j:Int)
theorem GN(g:U Nat):Aj (gk g)=Am g:=by unfold Aj gk;rw[CP];rfl
theorem Ot:∀{g g':U Nat},gk g=gk g'->g=g'
 |[],[],_=>rfl
 |[],_::_,h=>by simp at h
 |_::_,[],h=>by simp at h
 |a::g,b::g',h=>by
  erw[gk,AS,Pq,At.int.injEq]at h;rw[Ot (g':=g') h.2,Int.ofNat.inj h.1]
abbrev AJ(L:A2)(rs:U Row)(gs:U (U Nat)):Bw:=gs.map λg=>(.tup (gk g),.lst (Dv L g rs))
section
variable(L:A2)(rs:U Row)
theorem Rq(k:U At)(gs:U (U Nat)):Di (.tup k) (AJ L rs gs)=J':=KS k λp a=>by
 obtain⟨g,_,rfl⟩:=Bp.mp a;rfl
set_option tactic.hygienic true in
theorem Ou:∀(gs:U (U Nat))(g:U Nat),Zx (AJ L rs gs) (.tup (gk g))=if g∈gs then Z (.lst (Dv L g rs))else J
 |[],g=>by simp[Zx]
 |x::gs,g=>by
  have a:=Ou gs g
  erw[AS,Zx,KT.tup.injEq]
  by_cases e:x=g
  ·subst e;simp
  ·rw[if_neg (λz=>e (Ot z)),a]
   simp[B2 e]
theorem Rr(neg:Bool)(gs:U (U Nat))(g:U Nat):Dr neg (Am g) (.lst (Zb (AJ L rs gs)) .d)=Z (.bl (neg != decide (g∈gs))):=by
 have hok:=Gu<|gk g;rw[GN]at hok;rw[Np,hok];show(if Di (.tup<|gk g) (AJ L rs gs)=J' then _ else _)=_
 rw[if_pos<|Rq L rs _ gs,Ou];by_cases c:g∈gs<;>simp[c]
theorem Rs{g:U Nat}(h:g∈gs):DH (.lst (Zb (AJ L rs gs)) .d) (Am g)=Z (.lst (Dv L g rs)):=by
 have hok:=Gu<|gk g;simp_all [GN,gk,AJ,Rq,Ou]
theorem ir(gs:U (U Nat)):FW [.lst (Zb (AJ L rs gs)) .d]=Z (.int (gs.length:Int)):=by
 have:(AJ L rs gs).all (λp=>!D6 p.1)=J':=by rw[HB,D4];exact λe _=>rfl
 rwa[FW,Fs,this,Bi]
theorem yh{g:U Nat}(h:g∉gs):ZY (AJ L rs gs) (.tup (gk g)) (.lst (Dv L g rs))=AJ L rs (gs++[g]):=by
 unfold ZY;rw[Ou,if_neg h];simp
set_option tactic.hygienic true in
theorem iu(g:U Nat):∀(gs:U (U Nat)),DU (AJ L rs gs) (.tup (gk g))=AJ L rs (gs.erase g)
 |[]=>rfl
 |x::gs=>by
  have a:=iu g gs
  erw[AS,DU,KT.tup.injEq]
  by_cases e:x=g
  ·subst e;simp
  ·rw[if_neg (λz=>e (Ot z)),List.erase_cons_tail (by simpa using e)];exact congrArg _ a
theorem WK(gs:U (U Nat)):((AJ L rs gs).map λp=>kD p.1)=gs.map Am:=by
 rw[CP];exact Wr λg _=>GN g
end
noncomputable abbrev Gv:U Ae:=["axes","standing","tables"]
abbrev kB:Kd:=.i Gv "Book"
abbrev BP(L:A2)(R:U D)(t:Nat):Cl:=.mix kB [#v[L.map LD],#v[R],.cel t]
abbrev BD(L:A2)(R T:U D):D:=.lst [.lst (L.map LD),.lst R,.lst T .d] kB
theorem yi:(("tables":Ae)=="axes")=O':=by decide +kernel
theorem yj:(("tables":Ae)=="standing")=O':=by decide +kernel
section
variable{L:A2}{R T:U D}{G:Gh}{b t:Nat}
theorem Ic:Dc "Book" "axes" (BD L R T)=Z (.lst (L.map LD)):=rfl
theorem WL:Dc "Book" "standing" (BD L R T)=Z (.lst R):=rfl
theorem Kh:Dc "Book" "tables" (BD L R T)=Z (.lst T .d):=rfl
theorem Ki(m:Nat)(a:m≠0)(c:G[b]?=Z (BP L R t))(e:G[t]?=Z (.dat .d T)):D9 m G (.cel b)=.val (BD L R T):=by
 simp_all
theorem ym(a:G[b]?=Z (BP L R t)):D9 0 G (.cel b)=.no:=by
 simp_all
theorem WM{xs:U IV}(a:G[b]?=Z (BP L R t)):Mh "Book" "tables" (xs,G) (Z b)=Z t:=by simp_all [List.lookup,yi,yj]
end
theorem WN:Gv.contains "table"=O':=by decide +kernel
theorem iv:Gv.contains "keep"=O':=by decide +kernel
theorem iw:Gv.contains "forget"=O':=by decide +kernel
theorem My{L:A2}{R T:U D}:Fu "Book" "is_kept" (.val (BD L R T))=J':=rfl
theorem Es(b:Bool):ZM (Z (.bl b))=Z b:=rfl
section
variable{L:A2}{R T:U D}{G:Gh}{b t:Nat}{rs:U Row}{g:U Nat}{x:D}
theorem ix(a:ZD [#v[L.map LD],.val x]=Z (.val (.bl O'))):IY [.val (BD L R T),.val x]=Z (.val (.bl O')):=by
 have l1:=Ic (L:=L) (R:=R) (T:=T);refine ZF rfl ?_;generalize BD L R T=B at *;show N6 [.val B,.val x]=_
 rwa[N6,l1,a,Cn]
theorem Rt(b:ZD [#v[L.map LD],.val (Am g)]=Z (.val (.bl J'))):IY [.val (BD L R (Zb (AJ L rs gs))),.val (Am g)]=Z (.val (.bl (decide (g∈gs)))):=by
 have l1:=Ic (L:=L) (R:=R) (T:=Zb<|AJ L rs gs);have c:=Kh (L:=L) (R:=R) (T:=Zb<|AJ L rs gs);have a:=Rr L rs O' gs g;refine ZF rfl ?_;generalize Am g=e,D.lst (Zb<|AJ L rs gs) .d=TT,BD L R (Zb<|AJ L rs gs)=B at *;show N6 [.val B,.val e]=_
 rw[Bool.false_bne]at a;rwa[N6,l1,c,b,a,Cn]
theorem iy(c:ZD [#v[L.map LD],.val (Am g)]=Z (.val (.bl J')))(a:g∈gs):N8 [.val (BD L R (Zb (AJ L rs gs))),.val (Am g)]=Z (.own (Dv L g rs)):=by
 have b:=Rt (R:=R) (rs:=rs) (gs:=gs) c;rw[decide_eq_true a]at b;have e:=Kh (L:=L) (R:=R) (T:=Zb<|AJ L rs gs);have hd:=Rs L rs a;have f:Fu "Book" "is_kept" (.val<|BD L R<|Zb<|AJ L rs gs)=J':=My;refine ZF rfl ?_;generalize Dv L g rs=Y,Am g=i,D.lst (Zb<|AJ L rs gs) .d=TT,BD L R (Zb<|AJ L rs gs)=B at *;have h:ID [.lst Y]=Z Y:=rfl;show UX [.val B,.val i]=_
 rwa[UX,DL,FN,f,b,Es,e,hd,h,C9]
variable(h0:G[b]?=Z (BP L R t))(ht:G[t]?=Z (.dat .d T))
include h0 ht
theorem Ie:vw 2 ([.cel b,.val x],G)=[.val (BD L R T),.val x]:=by simp_all [AS,C1,Ki]
theorem yn:vw 1 ([.cel b,.val x],G)=[.val (BD L R T),.val x]:=by simp_all [AS,C1,Ki]
theorem iz:vw 0 ([.cel b,.val x],G)=[.no,.val x]:=by simp_all [AS,C1,ym]
theorem yo(a:ZD [#v[L.map LD],.val x]=Z (.val (.bl O'))):J9 [.cel b,.val x] G=Z ("NoGrain":Ae):=by
 have l1:=Ic (L:=L) (R:=R) (T:=T);have v:=Ie (x:=x) h0 ht;have e:J9 [.cel b,.val x] G=Oi ([.cel b,.val x],G):=rfl;rw[e];have f:A9 2 (.str "no grain of the ladders")=J':=rfl;erw[Oi,v,Zi,Zh,Co,AU,CC,Cw,BH,Ci,CL,l1,a,HS,Es,ZG,Ha,jT,D7,jE,jO,f,if_true,Hg]
theorem yp(a:ZD [#v[L.map LD],.val x]=Z (.val (.bl O'))):J6 [.cel b,.val x] G=Z ("NoGrain":Ae):=by
 have c:=ix (R:=R) (T:=T) a;have v:=Ie (x:=x) h0 ht;have e:J6 [.cel b,.val x] G=N7 ([.cel b,.val x],G):=rfl;rw[e];have d:Fu "Book" "is_kept" (.val<|BD L R T)=J':=My;have f:A9 2 (.str "no kept grain that can be forgotten")=J':=rfl;erw[N7,v,DL,Zh,Co,CC,Cw,BH,Ci,d,c,HS,Es,ZG,Ha,Cz,jT,D7,jE,jO,f,if_true,Hg]
theorem iA(a:IY [.val (BD L R T),.val x]=Z (.val (.bl O'))):J7 [.cel b,.val x] G=Z ("NoGrain":Ae):=by
 have v:=Ie (x:=x) h0 ht;have e:J7 [.cel b,.val x] G=N9 ([.cel b,.val x],G):=rfl;rw[e];have c:Fu "Book" "is_kept" (.val<|BD L R T)=J':=My;have f:A9 2 (.str "no kept grain")=J':=rfl;erw[N9,v,DL,Zh,Co,CC,Cw,BH,Ci,c,a,HS,Es,ZG,Ha,jT,D7,jE,jO,f,if_true,Hg]
theorem yq(a:IY [.val (BD L R T),.val x]=Z (.val (.bl J'))):J7 [.cel b,.val x] G=J:=by
 have v:=Ie (x:=x) h0 ht;have e:J7 [.cel b,.val x] G=N9 ([.cel b,.val x],G):=rfl;rw[e];have c:Fu "Book" "is_kept" (.val<|BD L R T)=J':=My;erw[N9,v,DL,Zh,Co,CC,Cw,BH,Ci,c,a,HS,Es,ZG,Gf,jT,D7,if_true]
end
theorem yr(a b:U At):AF (Aj a) (Aj b)=decide (a=b):=by simp_all [Aj,We]
theorem Ru(g g':U Nat):AF (Am g) (Am g')=decide (g=g'):=by
 rw[<- GN,<- GN,yr,decide_eq_decide];exact#[Ot,λe=>by rw[e]]
theorem WP(n:Nat)(g:U Nat):A7 (n+1) (Am g)=J':=by rw[<- GN];exact Wf n _
theorem Rw(g g':U Nat):Bu (Am g) (Am g')=Z (.bl (decide (g=g'))):=by
 have a:=Ru g g';simp_all [Am,J1]
abbrev zg(L:A2):U Nat:=L.map λ_=>0
theorem Kj(L:A2):CF L=Am (zg L):=by
 simp_all
theorem Mz{G:Gh}{b t:Nat}{c:Cl}(a:b≠t):(G.set t c)[b]?=G[b]?:=Ed<|B2 a
theorem Ov{G:Gh}{t:Nat}{c d:Cl}(h:G[t]?=Z d):(G.set t c)[t]?=Z c:=Gw (C8.mp h).1
theorem WQ(L:A2)(g:U Nat)(rs:U Row):A9 1 (.lst (Dv L g rs))=J':=by
 show(!vk 1 .l&&Dn 1 (Dv L g rs))=J'
 exact HQ λd hd=>by
  obtain⟨k,_,rfl⟩:=Bp.mp hd;have:∀k:U At,A9 1 (Aj k)=J':=λk=>by
   exact HQ λd hd=>by obtain⟨a,_,rfl⟩:=Bp.mp hd;cases a<;>rfl
  show(A9 1 (Aj k)&&(A9 1 (vC _)&&J'))=J'
  rw[this];rfl
section
variable{L:A2}{G:Gh}{b t:Nat}{rs:U Row}{g:U Nat}
variable(h:BY L)(hg:DW L g)(h0:G[b]?=Z (BP L (rs.map Zg) t))(ht:G[t]?=Z (.dat .d (Zb (AJ L rs gs))))
include h hg h0 ht
theorem WR:J9 [.cel b,.val (Am g)] G=if g∈gs then J else if 12<=gs.length then Z ("TooMuch":Ae)else J:=by
 have a:=Kg h hg;have l1:=Ic (L:=L) (R:=rs.map Zg) (T:=Zb<|AJ L rs gs);have i:=Kh (L:=L) (R:=rs.map Zg) (T:=Zb<|AJ L rs gs);have j:=Rr L rs J' gs g;have k:=ir L rs gs;have v:=Ie (x:=Am g) h0 ht;have e:J9 [.cel b,.val<|Am g] G=Oi ([.cel b,.val<|Am g],G):=rfl;rw[e];have f:A9 2 (.str "twelve tables are kept at most")=J':=rfl;have l:KD (.int (gs.length:Int)) (.int 12)=Z (.bl<|decide<|12<=gs.length):=by
  show Z (D.bl<|decide<|(12:Int)<=(gs.length:Int))=_
  congr 2;rw[decide_eq_decide];lia
 erw[Oi,v,Zi,Zk,Za,Zh,Co,AU,CC,Cw,BH,Ci,CL,l1,i,a,j,k,HS,Es,ZG,Gf,jT,D7,AE,EU,pk,l,jE,jO,f,if_true,Hg,Bool.true_bne];by_cases c:g∈gs
 ·rw[if_pos c,decide_eq_true c];rfl
 ·rw[if_neg c,decide_eq_false c];by_cases d:12<=gs.length
  ·rw[if_pos d,decide_eq_true d];rfl
  ·rw[if_neg d,decide_eq_false d];rfl
theorem iB(h0:G'[b]?=Z (BP L (rs.map Zg) t))(ht:G'[t]?=Z (.dat .d (Zb (AJ L rs gs'))))(a:g∈gs'):Vp ([.cel b,.val (Am g)],G')=.ret ‹((Dv L g rs).length:Int)› G':=by
 have c:=Kh (L:=L) (R:=rs.map Zg) (T:=Zb<|AJ L rs gs');have hd:=Rs L rs a;have v:=Ie (x:=Am g) h0 ht;generalize Dv L g rs=Y,Am g=h,D.lst (Zb<|AJ L rs gs') .d=TT,BD L (rs.map Zg) (Zb<|AJ L rs gs')=B at *;have e:Zr [.lst Y]=Z (.int (Y.length:Int)):=rfl;have f:∀i,A9 2 (.int i)=J':=λ_=>rfl;erw[Vp,eA,v,Zk,Za,Zh,AU,CC,Cw,BH,Ci,CL,c,hd,EU,pk,e,jE,jO,f,if_true,xD,CH,Zl]
theorem yt(a:g∈gs):Oh [.cel b,.val (Am g)] G=Z (‹((Dv L g rs).length:Int)›,G):=by
 have f:=Kg h hg;have i:=iB h hg h0 ht h0 ht a;have l1:=Ic (L:=L) (R:=rs.map Zg) (T:=Zb<|AJ L rs gs);have j:=Kh (L:=L) (R:=rs.map Zg) (T:=Zb<|AJ L rs gs);have c:=Rr L rs J' gs g;rw[decide_eq_true a]at c;have v:=Ie (x:=Am g) h0 ht;generalize Am g=l,D.lst (Zb<|AJ L rs gs) .d=TT,BD L (rs.map Zg) (Zb<|AJ L rs gs)=B at *;have k:Oe ([.cel b,.val l],G)=.next ([.cel b,.val l],G):=by
  erw[Oe,v,Zi,Zh,Co,AU,CC,Cw,BH,Ci,CL,l1,f,HS,Es,ZG,Gf,jT,Cu]
 have p1:Of ([.cel b,.val l],G)=.next ([.cel b,.val l],G):=by
  erw[Of,v,Za,AU,CC,Cw,BH,j,c,AE,bne_self_eq_false,jT,Cu]
 have e:Og ([.cel b,.val l],G)=.ret ‹((Dv L g rs).length:Int)› G:=by
  erw[Og,Vr,Vq,k,p1,Zl,i]
 exact Eq.trans (fi rfl e) rfl
theorem yu(q:∀r∈rs,AZ L r.1)(s:rs.length<64)(k:b≠t)(o:g∉gs)(u:gs.length<12):Oh [.cel b,.val (Am g)] G=Z (‹((Dv L g rs).length:Int)›,G.set t (.dat .d (Zb (AJ L rs (gs++[g]))))):=by
 have v:=Kg h hg;have a:=iB (gs':=gs++[g]) (G':=G.set t<|.dat .d<|Zb<|AJ L rs<|gs++[g]) h hg h0 ht (by rw[Mz k];exact h0) (Ov ht) (by simp);have l1:=Ic (L:=L) (R:=rs.map Zg) (T:=Zb<|AJ L rs gs);have y:=Kh (L:=L) (R:=rs.map Zg) (T:=Zb<|AJ L rs gs);have z:=WL (L:=L) (R:=rs.map Zg) (T:=Zb<|AJ L rs gs);have A:Dr J' (Am g) (.lst (Zb<|AJ L rs gs) .d)=Z (.bl J'):=by rw[Rr,decide_eq_false o];rfl
 have C:=ir L rs gs;have c:=yh L rs o;have l:=Fs<|AJ L rs gs;have hok:=Gu<|gk g;rw[GN]at hok;have m:=Rq L rs (gk g) gs;have f:(AJ L rs gs).length<Ax:=by rw[Bi];exact B6 (show gs.length<1000 by lia) (by ext)
 have i:=gU h hg.1 rs q s;have p:=Ie (x:=Am g) h0 ht;have E:=yn (x:=Am g) h0 ht;have H:=iz (x:=Am g) h0 ht;have n:=WM (xs:=[.cel b,.val<|Am g]) h0;have P:KD (.int (gs.length:Int)) (.int 12)=Z (.bl O'):=by
  show Z (D.bl<|decide<|(12:Int)<=(gs.length:Int))=_
  rw[decide_eq_false (by lia)]
 have w:=WQ L g rs;have M:A9 0 (Am g)=J':=ZQ _;generalize AJ L rs (gs++[g])=j at *;generalize Am g=K,Dv L g rs=Y,rs.map Zg=R,AJ L rs gs=TB,BD L (rs.map Zg) (Zb<|AJ L rs gs)=B at *;have N:Oe ([.cel b,.val K],G)=.next ([.cel b,.val K],G):=by
  erw[Oe,p,Zi,Zh,Co,AU,CC,Cw,BH,Ci,CL,l1,v,HS,Es,ZG,Gf,jT,Cu]
 have p1:Of ([.cel b,.val K],G)=.next ([.cel b,.val K],G.set t<|.dat .d<|Zb j):=by
  have F:Cr ([.cel b,.val K],G) 0=Z b:=rfl;erw[Of,p,E,H,Zk,Za,Zi,Zh,CL,Co,AU,Bb,CC,Cw,BH,Ci,l1,y,z,A,C,P,EU,pk,AE,jT,Cu,Zl,i,HU,jE,jO,M,w,if_true,F,n,PX,ht,l,hok,m,f,decide_true,J1,c]
 have e:Og ([.cel b,.val K],G)=.ret ‹(Y.length:Int)› (G.set t<|.dat .d<|Zb j):=by
  erw[Og,Vr,Vq,N,p1,Zl,a]
 exact Eq.trans (fi rfl e) rfl
theorem WS:J6 [.cel b,.val (Am g)] G=if g∈gs/\g≠zg L then J else Z ("NoGrain":Ae):=by
 have i:=Rt (R:=rs.map Zg) (rs:=rs) (gs:=gs) (Kg h hg);have l1:=Ic (L:=L) (R:=rs.map Zg) (T:=Zb<|AJ L rs gs);have a:=Q7 h;have j:=Rw g<|zg L;rw[Kj]at a;have v:=Ie (x:=Am g) h0 ht;have e:J6 [.cel b,.val<|Am g] G=N7 ([.cel b,.val<|Am g],G):=rfl;rw[e];have k:Fu "Book" "is_kept" (.val<|BD L (rs.map Zg)<|Zb<|AJ L rs gs)=J':=My;have f:A9 2 (.str "no kept grain that can be forgotten")=J':=rfl;erw[N7,v,DL,Zi,Za,Zh,CL,Co,AU,CC,Cw,BH,Ci,k,i,l1,a,j,HS,Es,ZG,Cz,AE,jT,D7,jE,jO,f,if_true,Hg];by_cases c:g∈gs
 ·rw[decide_eq_true c];by_cases d:g=zg L
  ·rw[decide_eq_true d,if_neg<|λz=>z.2 d];rfl
  ·rw[decide_eq_false d,if_pos #[c,d]];rfl
 ·rw[decide_eq_false c,if_neg<|λz=>c z.1];rfl
theorem yv(k:g∈gs)(hz:g≠zg L):QE [.cel b,.val (Am g)] G=Z (.val .non,G.set t (.dat .d (Zb (AJ L rs (gs.erase g))))):=by
 have l:=Rt (R:=rs.map Zg) (rs:=rs) (gs:=gs) (Kg h hg);rw[decide_eq_true k]at l;have l1:=Ic (L:=L) (R:=rs.map Zg) (T:=Zb<|AJ L rs gs);have m:=Q7 h;have n:=Rw g<|zg L;rw[decide_eq_false hz]at n;rw[Kj]at m;have p:=Ie (x:=Am g) h0 ht;have q:=iz (x:=Am g) h0 ht;have c:=WM (xs:=[.cel b,.val<|Am g]) h0;have f:=Fs<|AJ L rs gs;have hok:=Gu<|gk g;rw[GN]at hok;have i:=Rq L rs (gk g) gs;have o:=Ou L rs gs g;rw[if_pos k]at o;have a:=iu L rs g gs;have r:A9 0 (Am g)=J':=ZQ _;have s:Fu "Book" "is_kept" (.val<|BD L (rs.map Zg)<|Zb<|AJ L rs gs)=J':=My;generalize AJ L rs (gs.erase g)=j at *;generalize Am g=v,Am (zg L)=Y,AJ L rs gs=w,BD L (rs.map Zg) (Zb<|AJ L rs gs)=B at *;have u:Cr ([.cel b,.val v],G) 0=Z b:=rfl;have e:UW ([.cel b,.val v],G)=.next ([.cel b,.val v],G.set t<|.dat .d<|Zb j):=by
  erw[UW,p,q,DL,Zi,Za,Zh,CL,Co,AU,Bb,CC,Cw,BH,Ci,s,l,l1,m,n,HS,Es,ZG,Cz,AE,if_true,Gf,jT,Cu,Zl,u,c,jE,jO,r,PY,ht,f,hok,i,cB,J1,o,a,Fx]
 exact Eq.trans (fi rfl e) rfl
end
noncomputable def Eb(k:Nat):D:=.tup [.str "refused",.lst ((Bq 8).map λj=>.bl (decide (j=k))),.bl J']
def DB(d:D):D:=.tup [.str "told",d]
theorem Ow(k:Nat):Qf [‹(k:Int)›]=Z (.val (Eb k)):=by
 have i:=ZA (b:=Zc 0) (e:=Ui) (ρ:=[.no,‹(k:Int)›]) (λj:Nat=>D.int (j:Int)) (λj=>D.bl<|decide<|j=k) (Bq 8) λj _=>#[[‹(j:Int)›,‹(k:Int)›],rfl,by
  have:Bu (.int (j:Int)) (.int (k:Int))=Z (.bl<|decide<|j=k):=by
   simp;exact Int.ofNat_inj
  rwa[Ui,this]]
 have h:=J2 8 (Mr 8) (by lia);have l:=Zp ((Bq 8).map λk:Nat=>D.int (k:Int)) (by simp);have m:∀a b c:D,Ze (Z [a,b,c])=Z [a,b,c]:=λa b c=>Zp _ (by simp);have n:(8:Int).toNat=8:=rfl;rw[n]at h;unfold Eb;refine ZF rfl ?_;show Uj [‹(k:Int)›]=_
 have f:Zt 1 [0] [‹(k:Int)›]=[.no,‹(k:Int)›]:=rfl;have o:∀d:D,Zj [Sl.val d]=Z [d]:=λ_=>rfl;have g:∀a b c:D,Zj [Sl.val a,.val b,.val c]=Z [a,b,c]:=λ_ _ _=>rfl;rwa[Uj,Zn,f,o,h,l,i,g,m]
theorem BE(m:Nat)(G:Gh)(d:D):D9 m G (.val d)=.val d:=rfl
theorem C7(m:Nat)(G:Gh):D9 m G .no=.no:=rfl
abbrev oS(b:Nat)(w:Int)(x d:D)(e k:IV):U IV:=[.cel b,‹w›,.val x,.val d,e,k]
section
variable{G:Gh}{b:Nat}{w:Int}{x d:D}
theorem WT(k:Nat)(c:Ae)(a:(k=0/\c="NoGrain")\/(k=1/\c="TooMuch")):eM (oS b w x d (.exc c) .no,G)=.ret (.val (Eb k)) G:=by
 rcases a with⟨rfl,rfl⟩|⟨rfl,rfl⟩<;>rfl
theorem WU(e:Z8 (oS b w x .non .no .no,G)=.next (oS b w x d .no .no,G')):ZJ [.cel b,‹w›,.val x] G=Z (.val (DB d),G'):=by
 have c:VF ([.cel b,‹w›,.val x,.no,.no,.no],G)=.next (oS b w x .non .no .no,G):=rfl;have q:Ze (Z [.str "told",d])=Z [.str "told",d]:=Zp _ (by simp);have f:∀a b:D,Zj [Sl.val a,.val b]=Z [a,b]:=λ_ _=>rfl;have g:=ZQ;have h:VG (oS b w x d .no .no,G')=.ret (.val<|DB d) G':=by
  unfold oS DB;rwa[VG,BE,C7,f,q,g,CH]
 have i:Mn ([.cel b,‹w›,.val x,.no,.no,.no],G)=.ret (.val<|DB d) G':=by
  erw[Mn,QM,QL,eO,c,e,h,Zl]
 exact Eq.trans (fi rfl i) rfl
theorem WV{k:Nat}(e:Z8 (oS b w x .non .no .no,G)=.ret (.val (Eb k)) G):ZJ [.cel b,‹w›,.val x] G=Z (.val (Eb k),G):=by
 have a:VF ([.cel b,‹w›,.val x,.no,.no,.no],G)=.next (oS b w x .non .no .no,G):=rfl;have c:Mn ([.cel b,‹w›,.val x,.no,.no,.no],G)=.ret (.val<|Eb k) G:=by
  erw[Mn,QM,QL,a,e,Zl]
 exact Eq.trans (fi rfl c) rfl
theorem Ox:Bu (.int 0) (.int 0)=Z (.bl J'):=rfl
theorem yw:Bu (.int 0) (.int 1)=Z (.bl O'):=rfl
theorem yx:Bu (.int 0) (.int 2)=Z (.bl O'):=rfl
theorem iC:Bu (.int 1) (.int 0)=Z (.bl O'):=rfl
theorem Oy:Bu (.int 1) (.int 1)=Z (.bl J'):=rfl
theorem yy:Bu (.int 1) (.int 2)=Z (.bl O'):=rfl
theorem iD:Bu (.int 2) (.int 0)=Z (.bl O'):=rfl
theorem WW:Bu (.int 2) (.int 1)=Z (.bl O'):=rfl
theorem iE:Bu (.int 2) (.int 2)=Z (.bl J'):=rfl
variable{L:A2}{R T:U D}{t:Nat}(h0:G[b]?=Z (BP L R t))(ht:G[t]?=Z (.dat .d T))
include h0 ht
theorem iF{k:Nat}{c:Ae}(e:(k=0/\c="NoGrain")\/(k=1/\c="TooMuch"))(f:J9 [.cel b,.val x] G=Z c):ZJ [.cel b,‹0›,.val x] G=Z (.val (Eb k),G):=by
 have a:CS.contains c=J':=by rcases e with⟨_,rfl⟩|⟨_,rfl⟩<;>decide +kernel
 have g:=WT (G:=G) (b:=b) (w:=0) (x:=x) (d:=.non) k c e;have h:Em "Book" "keep" (BP L R t)=J'/\b<G.length:=#[by rwa[Em,iv],(C8.mp h0).1];have i:∀d,A9 0 d=J':=ZQ;refine WV ?_;rwa[Z8,BE,C7,Ox,D7,Hh,h0,h,and_self,i,f,IQ,a,g,P0]
end
section
variable{G:Gh}{b:Nat}{x d:D}{L:A2}{R T:U D}{t:Nat}(h0:G[b]?=Z (BP L R t))(ht:G[t]?=Z (.dat .d T))
include h0 ht
theorem WX(c:J6 [.cel b,.val x] G=Z ("NoGrain":Ae)):ZJ [.cel b,‹1›,.val x] G=Z (.val (Eb 0),G):=by
 have a:CS.contains ("NoGrain":Ae)=J':=by decide +kernel
 have e:=WT (G:=G) (b:=b) (w:=1) (x:=x) (d:=.non) 0 "NoGrain" (.inl #[rfl,rfl]);have f:Em "Book" "forget" (BP L R t)=J'/\b<G.length:=#[by rwa[Em,iw],(C8.mp h0).1];have g:∀d,A9 0 d=J':=ZQ;refine WV ?_;rwa[Z8,BE,C7,iC,Oy,D7,Hh,h0,f,and_self,g,c,IQ,a,e,P0]
theorem iG(c:J7 [.cel b,.val x] G=Z ("NoGrain":Ae)):ZJ [.cel b,‹2›,.val x] G=Z (.val (Eb 0),G):=by
 have a:CS.contains ("NoGrain":Ae)=J':=by decide +kernel
 have e:=WT (G:=G) (b:=b) (w:=2) (x:=x) (d:=.non) 0 "NoGrain" (.inl #[rfl,rfl]);have f:Em "Book" "table" (BP L R t)=J'/\b<G.length:=#[by rwa[Em,WN],(C8.mp h0).1];have g:∀d,A9 0 d=J':=ZQ;refine WV ?_;rwa[Z8,BE,C7,iD,WW,iE,D7,Hh,h0,f,and_self,g,c,IQ,a,e,P0]
theorem iH(a:J9 [.cel b,.val x] G=J)(c:Oh [.cel b,.val x] G=Z (.val d,G')):ZJ [.cel b,‹0›,.val x] G=Z (.val (DB d),G'):=by
 have e:Em "Book" "keep" (BP L R t)=J'/\b<G.length:=#[by rwa[Em,iv],(C8.mp h0).1];have f:=ZQ;refine WU ?_;rwa[Z8,BE,C7,Ox,yw,yx,D7,Hh,Gq,h0,e,and_self,f,a,c,IQ]
theorem yz(a:J6 [.cel b,.val x] G=J)(c:QE [.cel b,.val x] G=Z (.val d,G')):ZJ [.cel b,‹1›,.val x] G=Z (.val (DB d),G'):=by
 have e:Em "Book" "forget" (BP L R t)=J'/\b<G.length:=#[by rwa[Em,iw],(C8.mp h0).1];have f:=ZQ;refine WU ?_;rwa[Z8,BE,C7,iC,Oy,yy,D7,Hh,Gq,h0,e,and_self,f,a,c,IQ]
theorem yA{Y:U D}(a:J7 [.cel b,.val x] G=J)(c:N8 [.val (BD L R T),.val x]=Z (.own Y))(e:A9 1 (.lst Y)=J'):ZJ [.cel b,‹2›,.val x] G=Z (.val (DB (.lst Y)),G):=by
 have f:Em "Book" "table" (BP L R t)=J'/\b<G.length:=#[by rwa[Em,WN],(C8.mp h0).1];have g:Fu "Book" "table" (.val<|BD L R T)=J':=rfl;have h:=ZQ;have i:=Ki 1 (by ext) h0 ht;refine WU ?_;rwa[Z8,BE,C7,i,iD,WW,iE,D7,Hh,DL,h0,f,g,and_self,h,a,c,HU,e,IQ]
end
structure Bk(L:A2)(rs:List Row)(G:Gh)(b t q:Nat)(gs:List (List Nat)):Prop where
 b0:G[b]?=Z (BP L (rs.map Zg) t)
 t0:G[t]?=Z (.dat .d (Zb (AJ L rs gs)))
 q0:G[q]?=Z (.dat .l (gs.map Am))
 bt:b≠t
 bq:b≠q
 tq:t≠q
structure Gs(L:A2)(gs:List (List Nat)):Prop where
 nd:gs.Nodup
 ok:∀g∈gs,DW L g
 lo:zg L∈gs
 le:gs.length<=12
theorem F3{G:Gh}{q:Nat}(h:G[q]?=Z (.dat .l xs)):D9 2 G (.cel q)=#v[xs]:=by
 simp_all
theorem WY(n:Nat)(gs:U (U Nat)):(gs.map Am).all (A7 (n+1))=J':=by
 rw[HB,D4];exact λg _=>WP n g
theorem Ig(neg:Bool)(g:U Nat)(gs:U (U Nat)):Db neg (Am g) (.lst (gs.map Am))=Z (.bl (neg != decide (g∈gs))):=by
 have b:=WP 11 g;have c:=WY 11 gs;have a:IC (Am g) (gs.map Am)=decide (g∈gs):=by
  unfold IC;grind [Ru]
 rwa[Db,HR,b,c,a];cases neg<;>cases decide (g∈gs)<;>rfl
theorem iI(g:U Nat):∀gs:U (U Nat),g∈gs->∃j,(gs.map Am).findIdx? (λz=>AF z (Am g))=Z j/\(gs.map Am).eraseIdx j=(gs.erase g).map Am
 |[],h=>nomatch h
 |s::gs,h=>by
  by_cases c:s=g
  ·subst c;refine#[0,?_,?_]
   ·rw[AS,List.findIdx?_cons,Ru];simp
   ·simp
  ·have a:g∈gs:=by
    rcases Bo.mp h with e|h
    ·exact absurd e.symm c
    ·exact h
   obtain⟨j,b,d⟩:=iI g gs a;refine#[j+1,?_,?_]
   ·grind [Ru]
   ·rw[List.erase_cons_tail (by simpa using c)];simp_all
theorem yB{Q:LG}{a b:U Row}(h:a.Perm b):(DA Q a).Perm (DA Q b):=h.map _
theorem iJ{L:A2}{g:U Nat}(e:g.length=L.length){a:U Row}(b:∀r∈a,AZ L r.1):∀r∈DA (qs L g) a,r.1.length=L.length:=λr h=>by
 obtain⟨c,d,rfl⟩:=Bp.mp h;have:=(b c d).len;simp_all [Z1,qs,Lq]
theorem yC(acc:U Bj):(De acc).length=acc.length:=by
 unfold De Zo;rw[Bi,(ZE A4 _).length_eq,Bi]
theorem iK{L:A2}{g:U Nat}(c:g.length=L.length){a rs:U Row}(d:∀r∈a,AZ L r.1)(b:rs.Perm a):Dv L g rs=De (Er (DA (qs L g) a) []):=ya (yB b)<|iJ c λr h=>d r<|b.mem_iff.mp h
theorem iL(k:Nat):A7 12 (Eb k)=J':=rfl
theorem Oz(k:Nat):Bu (Eb k) (Eb k)=Z (.bl J'):=by
 have:=Pf 12 _<|iL k;simp_all [iL,J1]
noncomputable abbrev dS(b q:Nat)(A R:U D)(w:Int)(x:D)(gd:Bool)(a c:IV):U IV:=[.cel b,#v[A],#v[R],.cel q,‹w›,.val x,.val (.bl gd),a,c]
section
variable{G:Gh}{b q:Nat}{x d:D}{w:Int}{A R:U D}{gd:Bool}
theorem yD(e:ZJ [.cel b,‹w›,.val x] G=Z (.val d,G')):VJ (dS b q A R w x gd .no .no,G)=.next (dS b q A R w x gd (.val d) .no,G'):=by
 have a:=ZQ;rwa[VJ,BE,C7,a,Fy,e]
theorem Jj(a:ZJ [.cel b,‹w›,.val x] G=Z (.val d,G')){s:IS}(c:ZK (dS b q A R w x gd (.val d) .no,G')=.ret (.val (.bl J')) s.2):IZ [.cel b,#v[A],#v[R],.cel q,‹w›,.val x,.val (.bl gd)] G=Z (.val (.bl J'),s.2):=by
 have e:VO (dS b q A R w x gd .no .no,G)=.ret (.val<|.bl J') s.2:=by
  erw[VO,eR,yD a,Zl,c]
 exact Eq.trans (fi rfl e) rfl
theorem yE:ZK (dS b q A R w x O' (.val (Eb 0)) .no,G')=.ret (.val (.bl J')) G':=by
 have a:=Ow 0;have c:=Oz 0;have d:∀b,A9 2 (.bl b)=J':=λ_=>rfl;have e:(((0:Nat):Int))=0:=rfl;rw[e]at a;rwa[ZK,HX,BE,C7,Es,a,c,d,CH]
end
section
variable{L:A2}{G:Gh}{b q:Nat}{g:U Nat}{d:D}{R:U D}
theorem iM(h:BY L)(ρ:VE)(a:ρ[1]?=Z #v[L.map LD])(c:Zt 1 [] ρ=[.no]):(Zn 1 [] (λρ=>(BI ρ 1).bind Zs) (Zc 0) (λ_=>Z J') VI) ρ=Z (L.map λ_=>D.int 0):=by
 have f:=ZA (b:=Zc 0) (e:=VI) (ρ:=[.no]) LD (λ_=>D.int 0) L λd _=>#[[.val<|LD d],rfl,rfl];have g:=Zp (L.map LD) (by have:=h.n4;simp;lia);simp_all
theorem WZ:EW (.int 1) (.int 0)=Z (.bl J'):=rfl
theorem iN:EW (.int 2) (.int 0)=Z (.bl J'):=rfl
variable(h:BY L)(hq:G[q]?=Z (.dat .l (gs.map Am)))
include h hq
theorem iO:HX (dS b q (L.map LD) R 0 (Am g) J' (.val d) .no,G)=.next (dS b q (L.map LD) R 0 (Am g) J' (.val d) .no,G):=by
 rfl
theorem yF(a:g∈gs)(hz:g≠zg L):HX (dS b q (L.map LD) R 1 (Am g) J' (.val d) .no,G)=.next (dS b q (L.map LD) R 1 (Am g) J' (.val d) .no,G):=by
 have f:Db J' (Am g) (.lst<|gs.map Am)=Z (.bl O'):=by rw[Ig,decide_eq_true a];rfl
 have c:=Rw g<|zg L;rw[decide_eq_false hz,<- Kj]at c;have e:=F3 hq;have i:D5 [.lst<|L.map λ_=>D.int 0]=Z (CF L):=rfl;erw[HX,jT,jE,vw,AS,C1,BE,C7,e];generalize D9 2 G (.cel b)=V at *;have j:=iM h [V,#v[L.map LD],#v[R],#v[gs.map Am],‹1›,.val<|Am g,.val<|.bl J',.val d,.no] rfl rfl;simp_all [CC,Cw,BH,Ci,Es,Gf,WZ,Oy]
theorem yG(a:g∈gs):HX (dS b q (L.map LD) R 2 (Am g) J' (.val d) .no,G)=.next (dS b q (L.map LD) R 2 (Am g) J' (.val d) .no,G):=by
 have c:Db J' (Am g) (.lst<|gs.map Am)=Z (.bl O'):=by rw[Ig,decide_eq_true a];rfl
 rwa[HX,BE,C7,F3 hq,Es,iN,WW,c]
theorem yH(c:g∉gs):ZK (dS b q (L.map LD) R 1 (Am g) J' (.val (Eb 0)) .no,G)=.ret (.val (.bl J')) G:=by
 have d:Db J' (Am g) (.lst<|gs.map Am)=Z (.bl J'):=by rw[Ig,decide_eq_false c];rfl
 have a:=Ow 0;have e:=Oz 0;have f:∀b,A9 2 (.bl b)=J':=λ_=>rfl;have h:(((0:Nat):Int))=0:=rfl;rw[h]at a;rwa[ZK,HX,BE,C7,F3 hq,Es,WZ,d,a,e,f,CH]
theorem yI(c:g∉gs):ZK (dS b q (L.map LD) R 2 (Am g) J' (.val (Eb 0)) .no,G)=.ret (.val (.bl J')) G:=by
 have d:Db J' (Am g) (.lst<|gs.map Am)=Z (.bl J'):=by rw[Ig,decide_eq_false c];rfl
 have a:=Ow 0;have e:=Oz 0;have f:∀b,A9 2 (.bl b)=J':=λ_=>rfl;have h:(((0:Nat):Int))=0:=rfl;rw[h]at a;rwa[ZK,HX,BE,C7,F3 hq,Es,iN,d,a,e,f,CH]
theorem yJ(c:g∈gs)(hz:g=zg L):ZK (dS b q (L.map LD) R 1 (Am g) J' (.val (Eb 0)) .no,G)=.ret (.val (.bl J')) G:=by
 have f:Db J' (Am g) (.lst<|gs.map Am)=Z (.bl O'):=by rw[Ig,decide_eq_true c];rfl
 have a:=Rw g<|zg L;rw[decide_eq_true hz,<- Kj]at a;have i:=Ow 0;have j:=Oz 0;have k:∀b,A9 2 (.bl b)=J':=λ_=>rfl;have d:(((0:Nat):Int))=0:=rfl;have e:=F3 hq;have l:D5 [.lst<|L.map λ_=>D.int 0]=Z (CF L):=rfl;generalize Eb 0=ZZ at *;erw[ZK,HX,jT,jE,vw,AS,C1,BE,C7,e];generalize D9 2 G (.cel b)=V at *;have m:=iM h [V,#v[L.map LD],#v[R],#v[gs.map Am],‹1›,.val<|Am g,.val<|.bl J',.val ZZ,.no] rfl rfl;simp_all [CC,Cw,BH,Ci,Es,Gf,WZ,Oy]
theorem yK(d:g∉gs)(e:gs.length=12):Li (dS b q (L.map LD) R 0 (Am g) J' (.val (Eb 1)) .no,G)=.ret (.val (.bl J')) G:=by
 have f:Db J' (Am g) (.lst<|gs.map Am)=Z (.bl J'):=by rw[Ig,decide_eq_false d];rfl
 have h:Zr [.lst<|gs.map Am]=Z (.int 12):=by
  simp_all
 have a:Bu (.int 12) (.int 12)=Z (.bl J'):=rfl;have c:=Ow 1;have i:=Oz 1;have j:∀b,A9 2 (.bl b)=J':=λ_=>rfl;have k:(((1:Nat):Int))=1:=rfl;rw[k]at c;rwa[Li,Lg,BE,C7,F3 hq,Ox,f,h,a,c,i,j,CH]
theorem iP(f:g∈gs\/gs.length≠12):Lg (dS b q (L.map LD) R 0 (Am g) J' (.val d) .no,G)=.next (dS b q (L.map LD) R 0 (Am g) J' (.val d) .no,G):=by
 by_cases c:g∈gs
 ·have a:Db J' (Am g) (.lst<|gs.map Am)=Z (.bl O'):=by rw[Ig,decide_eq_true c];rfl
  rwa[Lg,BE,C7,F3 hq,Ox,a]
 ·have a:Db J' (Am g) (.lst<|gs.map Am)=Z (.bl J'):=by rw[Ig,decide_eq_false c];rfl
  have h:Zr [.lst<|gs.map Am]=Z (.int (gs.length:Int)):=by
   simp_all
  have e:Bu (.int (gs.length:Int)) (.int 12)=Z (.bl O'):=by
   have:¬ (gs.length:Int)=12:=by have:=f.resolve_left c;exact Wi rfl rfl this
   simp[this]
  rwa[Lg,BE,C7,F3 hq,Ox,a,h,e]
omit h hq in
theorem yL{A:U D}{x:D}:Lg (dS b q A R 1 x J' (.val d) .no,G)=.next (dS b q A R 1 x J' (.val d) .no,G):=by
 rfl
omit h hq in
theorem yM{A:U D}{x:D}:Lg (dS b q A R 2 x J' (.val d) .no,G)=.next (dS b q A R 2 x J' (.val d) .no,G):=by
 rfl
omit h hq in
theorem Rx{A:U D}{x:D}{w:Int}:eP (dS b q A R w x J' (.val (DB d)) .no,G)=.next (dS b q A R w x J' (.val (DB d)) .no,G):=by
 rfl
end
theorem iQ:∀{L:A2}{g:U Nat}{s:U At},(∀b∈L,∃p,GL b p)->AZ L s->∀a∈Z1 (qs L g) s,Gd a
 |_,[],_,_,_=>λa h=>by simp[qs,Z1]at h
 |_,j::g,_,f,.nil=>λa h=>by simp[qs,Z1]at h
 |b::L,j::g,a::s,f,.cons k m=>λc h=>by
  obtain⟨p,i⟩:=f b Ba;rcases Bo.mp h with e|h
  ·obtain⟨l,d,rfl⟩:=Bp.mp k;subst e;rw[WD i.hdn d];by_cases c:j<l.length
   ·have:l.getD j .non=l[j]:=by simp[FR,c]
    rw[this];exact xQ (i.val l d _<|Hb c).1
   ·have:l.getD j .non=.non:=by simp[FR,Kw c]
    rw[this];trivial
  ·exact iQ (λb d=>f b<|Be _ d) m c h
theorem iR:∀(a:U Row)(acc:U Bj),∀k∈Zo (Er a acc),k∈Zo acc\/∃r∈a,k=r.1
 |[],acc,k,b=>.inl b
 |r::a,acc,k,b=>by
  rcases iR a (CV acc r.1 r.2) k b with h|⟨q,c,e⟩
  ·grind [gK]
  ·exact .inr #[q,Be _ c,e]
abbrev GO(L:A2)(g:U Nat)(a:U Row):U Bj:=Er (DA (qs L g) a) []
abbrev Fe(acc:U Bj):D:=.lst (Zb (acc.map (Zy vC))) .d
theorem iS{L:A2}{g:U Nat}(b:g.length=L.length){a:U Row}(c:∀r∈a,AZ L r.1):A6 (GO L g a) L.length a.length:=by
 have:=A6.tab (DA (qs L g) a) (A6.nil L.length)<|iJ b c;rw[Hl,show(DA (qs L g) a).length=a.length from Bi _]at this;grind
theorem iT{L:A2}(h:BY L){g:U Nat}(d:g.length=L.length){a:U Row}(b:∀r∈a,AZ L r.1)(l:a.length<64):Mm [#v[De (GO L g a)],.val (Fe (GO L g a))]=Z (.val (.bl J')):=by
 have ok:=iS d b;refine xY L.length (by have:=h.n4;lia) _ _ (.inl rfl) ok.nd (λk c=>#[?_,ok.kl k c]) (by have:=ok.len;lia);rcases iR _ _ k c with z|⟨r,f,e⟩
 ·exact nomatch z
 ·obtain⟨i,j,rfl⟩:=Bp.mp f;subst e;exact iQ h.good<|b i j
theorem Jk(m:Nat)(k:U At):A9 m (Aj k)=J':=by
 exact HQ λd hd=>by obtain⟨a,_,rfl⟩:=Bp.mp hd;cases a<;>rfl
theorem iU:∀acc:U Bj,Dn 2 (Zb (acc.map (Zy vC)))=J'
 |[]=>rfl
 |e::r=>by
  show(A9 2 (Aj e.1)&&(A9 2 (vC e.2)&&Dn 2 (Zb<|r.map<|Zy vC)))=J'
  rw[Jk,iU r];rfl
theorem yN(acc:U Bj):FW [Fe acc]=Z (.int (acc.length:Int)):=by
 have:(acc.map<|Zy vC).all (λp=>!D6 p.1)=J':=by rw[HB,D4];exact λe _=>rfl
 rwa[Fe,FW,Fs,this,Bi]
section
variable{L:A2}{G:Gh}{b q:Nat}{g:U Nat}{d:D}{A R:U D}{w:Int}
theorem yO(h:BY L)(a:g.length=L.length)(c:∀r∈rows,AZ L r.1)(e:rows.length<64):VL (dS b q (L.map LD) (rows.map Zg) w (Am g) J' (.val d) .no,G)=.next (dS b q (L.map LD) (rows.map Zg) w (Am g) J' (.val d) (.val (Fe (GO L g rows))),G):=by
 have f:=hW h a rows c e;have i:=iU<|GO L g rows;unfold dS Fe GO at *;rwa[VL,BE,C7,Hx,f,O1,jG,jL,i,xF]
theorem iV(N:Nat)(a:N=acc.length){x:D}:(λs=>CH ((λs=>xD ((λs=>jO 2 ((λρ=>Cn (DQ (AE ((Zi NS (λρ=>Zh (CL ((Za Ar (λρ=>AU ρ 7) (λ_=>Z (.int 1))) ρ)) (Z []))) ρ)) (AE ((Za Bu (Za Ar (λρ=>AU ρ 7) (λ_=>Z (.int 1))) (Zk FW (λρ=>Zh (Co ρ 8) (Z [])))) ρ)))) (vw 2 s))) s) s) s)) (dS b q A R 0 x J' (.val (DB (.int (N:Int)))) (.val (Fe acc)),G')=.ret (.val (.bl J')) G':=by
 have c:Ar (DB<|.int (N:Int)) (.int 1)=Z (.int (N:Int)):=rfl;have d:=hE (N:Int);have e:=yN acc;have f:∀b,A9 2 (.bl b)=J':=λ_=>rfl;simp_all [AS,C1,BE,C7,CC,Cw,BH,Ci]
theorem yP(i:G[q]?=Z (.dat .l (gs.map Am)))(c:g∈gs)(N:Nat)(d:N=acc.length):Lh (dS b q A R 0 (Am g) J' (.val (DB (.int (N:Int)))) (.val (Fe acc)),G)=.ret (.val (.bl J')) G:=by
 have j:Db J' (Am g) (.lst<|gs.map Am)=Z (.bl O'):=by rw[Ig,decide_eq_true c];rfl
 have e:=iV (b:=b) (q:=q) (A:=A) (R:=R) (x:=Am g) (G':=G) N d;have f:AE ((Za Bu (λa=>AU a 4) (λ_=>Z<|.int 0)) (vw 2 (dS b q A R 0 (Am g) J' (.val<|DB<|.int (N:Int))<|.val<|Fe acc,G)))=Z J':=rfl;have h:AE ((Za (Db J') (λa=>AU a 5) (λa=>AU a 3)) (vw 2 (dS b q A R 0 (Am g) J' (.val<|DB<|.int (N:Int))<|.val<|Fe acc,G)))=Z O':=by
  simp_all
 unfold Lh Oj;erw[f,h,jT,jE,Cu,Zl,e]
theorem yQ(e:G[q]?=Z (.dat .l (gs.map Am)))(f:g∉gs)(h:gs.length<=12)(N:Nat)(i:N=acc.length):Lh (dS b q A R 0 (Am g) J' (.val (DB (.int (N:Int)))) (.val (Fe acc)),G)=.ret (.val (.bl J')) (G.set q (.dat .l ((gs++[g]).map Am))):=by
 have j:Db J' (Am g) (.lst<|gs.map Am)=Z (.bl J'):=by rw[Ig,decide_eq_false f];rfl
 have k:=iV (b:=b) (q:=q) (A:=A) (R:=R) (x:=Am g) (G':=G.set q<|.dat .l<|(gs++[g]).map Am) N i;have m:=F3 e;have n:∀d,A9 0 d=J':=ZQ;have o:(gs.map Am).length<Ax:=by rw[Bi];exact B6 (show gs.length<1000 by lia) (by ext)
 have c:gs.map Am++[Am g]=(gs++[g]).map Am:=by simp
 have p:AE ((Za Bu (λa=>AU a 4) (λ_=>Z<|.int 0)) (vw 2 (dS b q A R 0 (Am g) J' (.val<|DB<|.int (N:Int))<|.val<|Fe acc,G)))=Z J':=by
  rfl
 have r:AE ((Za (Db J') (λa=>AU a 5) (λa=>AU a 3)) (vw 2 (dS b q A R 0 (Am g) J' (.val<|DB<|.int (N:Int))<|.val<|Fe acc,G)))=Z J':=by
  rwa[dS,BE,m,j]
 have s:K6 (Cr (dS b q A R 0 (Am g) J' (.val<|DB<|.int (N:Int))<|.val<|Fe acc,G) 3) (jO 0<|Bb (vw 0 (dS b q A R 0 (Am g) J' (.val<|DB<|.int (N:Int))<|.val<|Fe acc,G)) 5) (dS b q A R 0 (Am g) J' (.val<|DB<|.int (N:Int))<|.val<|Fe acc,G)=Z (.val .non,G.set q<|.dat .l<|(gs++[g]).map Am):=by
  rwa[dS,BE,n,K6,e,if_pos o,c]
 unfold Lh Oj;erw[p,r,s,jT,jE,Cu,Zl,Fx,k]
theorem yR{x:D}{a c:IV}:Oj (dS b q A R 1 x J' a c,G)=.next (dS b q A R 1 x J' a c,G):=by
 rfl
theorem yS{x:D}{a c:IV}:Oj (dS b q A R 2 x J' a c,G)=.next (dS b q A R 2 x J' a c,G):=by
 rfl
theorem yT{x:D}{a c:IV}:VM (dS b q A R 2 x J' a c,G)=.next (dS b q A R 2 x J' a c,G):=by
 rfl
theorem yU(a:G[q]?=Z (.dat .l (gs.map Am)))(c:g∈gs){e:IV}:QO (dS b q A R 1 (Am g) J' (.val (DB .non)) e,G)=.ret (.val (.bl J')) (G.set q (.dat .l ((gs.erase g).map Am))):=by
 obtain⟨j,f,h⟩:=iI g gs c;have i:=ZQ;have k:∀b,A9 2 (.bl b)=J':=λ_=>rfl;have m:=WP 11 g;have n:=WY 11 gs;have o:Ar (DB .non) (.int 1)=Z .non:=rfl;have p:Gb (Z .non)=Z J':=rfl;rwa[QO,VM,BE,Oy,i,NI,a,HR,m,n,f,h,Fx,o,p,Cn,k,CH]
theorem yV{Y:U D}{C:D}(a:Mm [#v[Y],.val C]=Z (.val (.bl J'))){x:D}:VN (dS b q A R 2 x J' (.val (DB (.lst Y))) (.val C),G)=.ret (.val (.bl J')) G:=by
 have c:Ar (DB<|.lst Y) (.int 1)=Z (.lst Y):=rfl;have d:∀b,A9 2 (.bl b)=J':=λ_=>rfl;rwa[VN,eQ,BE,c,a,d,CH]
end
section
variable{L:A2}{rs:U Row}{G:Gh}{b t q:Nat}{g:U Nat}{R:U D}{x:D}{w:Int}
theorem yW(a:Bk L rs G b t q gs)(c:ZD [#v[L.map LD],.val x]=Z (.val (.bl O')))(d:w=0\/w=1\/w=2):IZ [.cel b,#v[L.map LD],#v[R],.cel q,‹w›,.val x,.val (.bl O')] G=Z (.val (.bl J'),G):=by
 have e:ZJ [.cel b,‹w›,.val x] G=Z (.val<|Eb 0,G):=by
  rcases d with rfl|rfl|rfl
  ·exact iF a.b0 a.t0 (.inl #[rfl,rfl])<|yo a.b0 a.t0 c
  ·exact WX a.b0 a.t0<|yp a.b0 a.t0 c
  ·exact iG a.b0 a.t0<|iA a.b0 a.t0<|ix c
 exact Jj (s:=([],G)) e yE
theorem Bk.tb(a:Bk L rs G b t q gs):Bk L rs ((G.set t (.dat .d (Zb (AJ L rs gs')))).set q (.dat .l (gs'.map Am))) b t q gs':=by
 have c:(G.set t<|.dat .d<|Zb<|AJ L rs gs')[q]?=Z (.dat .l<|gs.map Am):=by rw[Mz<|B2 a.tq];exact a.q0
 refine#[?_,?_,Ov c,a.bt,a.bq,a.tq]
 ·rw[Mz a.bq,Mz a.bt];exact a.b0
 ·rw[Mz a.tq];exact Ov a.t0
theorem Gs.add(h:Gs L gs)(f:DW L g)(i:g∉gs)(j:gs.length<12):Gs L (gs++[g]):=#[HE.mpr #[h.nd,by simp,λa l c d=>by simp at d;subst d;exact λe=>i<|e ▸ l],λk b=>by
  rcases Dw.mp b with b|b
  ·exact h.ok k b
  ·simp at b;subst b;exact f,Ii _ h.lo,by simp;exact Nat.le_of_lt_succ j]
theorem Gs.out(h:Gs L gs)(hz:g≠zg L):Gs L (gs.erase g):=#[h.nd.erase g,λk a=>h.ok k<|List.mem_of_mem_erase a,(List.mem_erase_of_ne<|B2 hz).mpr h.lo,BZ (List.length_erase_le) h.le]
theorem iW(h:BY L)(o:∀r∈rows,AZ L r.1)(x:rows.length<64)(A:rs.Perm rows)(a:Bk L rs G b t q gs)(j:Gs L gs)(f:DW L g)(H:w=0\/w=1\/w=2):∃G' gs',IZ [.cel b,#v[L.map LD],#v[rows.map Zg],.cel q,‹w›,.val (Am g),.val (.bl J')] G=Z (.val (.bl J'),G')/\Bk L rs G' b t q gs'/\Gs L gs':=by
 have B:∀r∈rs,AZ L r.1:=λr F=>o r<|A.mem_iff.mp F;have C:rs.length<64:=by rw[A.length_eq];exact x
 have m:=iK f.1 o A;have E:(Dv L g rs).length=(GO L g rows).length:=by rw[m,yC]
 have p:=λ(d:D) (w:Int) (G:Gh)=>yO (b:=b) (q:=q) (d:=d) (w:=w) (G:=G) h f.1 o x;have i:∀gs',(G.set t<|.dat .d<|Zb<|AJ L rs gs')[q]?=Z (.dat .l<|gs.map Am):=λgs'=>by rw[Mz<|B2 a.tq];exact a.q0
 rcases H with rfl|rfl|rfl
 ·by_cases c:g∈gs
  ·have e:=WR h f a.b0 a.t0;rw[if_pos c]at e;have k:=iH a.b0 a.t0 e<|yt h f a.b0 a.t0 c;refine⟨G,gs,Jj (s:=([],G)) k ?_,a,j⟩;rw[ZK,iO h a.q0,Zl,Li,iP h a.q0<|.inl c,Zl,Om,Rx,Zl,Ol,p,Zl];exact yP a.q0 c _ E
  ·by_cases d:gs.length=12
   ·have e:=WR h f a.b0 a.t0;rw[if_neg c,if_pos (by lia)]at e;have k:=iF a.b0 a.t0 (.inr #[rfl,rfl]) e;refine#[G,gs,Jj (s:=([],G)) k ?_,a,j];exact yK h a.q0 c d
   ·have n:gs.length<12:=by have:=j.le;lia
    have e:=WR h f a.b0 a.t0;rw[if_neg c,if_neg (by lia)]at e;have k:=iH a.b0 a.t0 e<|yu h f a.b0 a.t0 B C a.bt c n;refine⟨_,gs++[g],Jj (s:=([],(G.set t<|.dat .d<|Zb<|AJ L rs<|gs++[g]).set q<|.dat .l<|(gs++[g]).map Am)) k ?_,a.tb,j.add f c n⟩;rw[ZK,iO h<|i _,Zl,Li,iP h (i _)<|.inr d,Zl,Om,Rx,Zl,Ol,p,Zl];exact yQ (i _) c j.le _ E
 ·by_cases c:g∈gs
  ·by_cases z:g=zg L
   ·have e:=WS h f a.b0 a.t0;rw[if_neg<|λy=>y.2 z]at e;exact#[G,gs,Jj (s:=([],G)) (WX a.b0 a.t0 e) (yJ h a.q0 c z),a,j]
   ·have e:=WS h f a.b0 a.t0;rw[if_pos #[c,z]]at e;have k:=yz a.b0 a.t0 e<|yv h f a.b0 a.t0 c z;refine⟨_,gs.erase g,Jj (s:=([],(G.set t<|.dat .d<|Zb<|AJ L rs<|gs.erase g).set q<|.dat .l<|(gs.erase g).map Am)) k ?_,a.tb,j.out z⟩;rw[ZK,yF h (i _) c z,Zl,Li,yL,Zl,Om,Rx,Zl,Ol,p,Zl,Lh,yR,Zl];exact yU (i _) c
  ·have e:=WS h f a.b0 a.t0;rw[if_neg<|λy=>c y.1]at e;exact#[G,gs,Jj (s:=([],G)) (WX a.b0 a.t0 e) (yH h a.q0 c),a,j]
 ·have u:=Rt (R:=rs.map Zg) (rs:=rs) (gs:=gs) (Kg h f);by_cases c:g∈gs
  ·rw[decide_eq_true c]at u;have k:=yA a.b0 a.t0 (yq a.b0 a.t0 u) (iy (Kg h f) c)<|WQ L g rs;refine⟨G,gs,Jj (s:=([],G)) k ?_,a,j⟩;rw[ZK,yG h a.q0 c,Zl,Li,yM,Zl,Om,Rx,Zl,Ol,p,Zl,Lh,yS,Zl,QO,yT,Zl];refine yV ?_;rw[m];exact iT h f.1 o x
  ·rw[decide_eq_false c]at u;exact#[G,gs,Jj (s:=([],G)) (iG a.b0 a.t0<|iA a.b0 a.t0 u) (yI h a.q0 c),a,j]
end
theorem iX:∀{L:A2}{zs:U D}{i:Nat}{b:BR}{z:D},L[i]?=Z b->zs[i]?=Z z->E2 (wh b) z=O'->Op L zs=O'
 |a::L,y::zs,0,b,z,c,d,e=>by
  simp_all
 |a::L,y::zs,i+1,b,z,c,d,e=>by
  have f:=iX (by simpa using c) (by simpa using d) e;simp_all
 |[],_,_,_,_,c,_,_=>by simp at c
 |_::_,[],_,_,_,_,d,_=>by simp at d
theorem iY{L:A2}(h:BY L){zs:U D}(hz:∀z∈zs,Sm z)(b:zs.length=L.length){i:Nat}{z:D}(c:zs[i]?=Z z)(f:∀p,p<=4->E2 p z=O'):ZD [#v[L.map LD],.val (.tup zs)]=Z (.val (.bl O')):=by
 have a:=(C8.mp c).1;have e:=ip h zs hz b;obtain⟨p,d⟩:=h.good _<|Hb (show i<L.length by exact Jr a b);rw[iX (CK (show i<L.length by exact Jr a b)) c<|f _ (by rw[d.wh];exact d.p4)]at e;exact e
noncomputable abbrev Et(g:U Nat):U D:=g.map λj:Nat=>D.int (j:Int)
abbrev GF(g:U Nat):U D:=[.lst (Et g),.tup ((Et g).dropLast++[.int 5]),.tup (.int (-1)::(Et g).drop 1),.tup (.bl J'::(Et g).drop 1),.non,.str "0",.tup (Et g).dropLast,.tup (Et g++[.int 0]),
 .tup (.non::(Et g).drop 1),.tup (.str "0"::(Et g).drop 1),.int 0,.tup [],.tup (.int 5::(Et g).drop 1),.lst [],.tup (.tup [.int 0]::(Et g).drop 1),.tup (.lst [.int 0]::(Et g).drop 1),.tup ((Et g).dropLast++[.lst []])]
theorem yX{L:A2}(h:BY L){g:U Nat}(l:g.length=L.length):∀x∈GF g,ZD [#v[L.map LD],.val x]=Z (.val (.bl O')):=by
 have n1:=h.n1;have e:(Et g).length=L.length:=by rw[Bi];exact l
 have d:∀z∈Et g,Sm z:=λz m=>by obtain⟨j,_,rfl⟩:=Bp.mp m;trivial
 have b:∀z:D,Sm z->(∀p,p<=4->E2 p z=O')->ZD [#v[L.map LD],.val<|.tup<|z::(Et g).drop 1]=Z (.val<|.bl O'):=λz s c=>by
  refine iY h (λy a=>?_) (by erw[Cg,List.length_drop];lia) (i:=0) rfl c;rcases Bo.mp a with rfl|a
  ·exact s
  ·exact d y<|List.mem_of_mem_drop a
 have c:∀z:D,Sm z->(∀p,p<=4->E2 p z=O')->ZD [#v[L.map LD],.val<|.tup<|(Et g).dropLast++[z]]=Z (.val<|.bl O'):=λz s c=>by
  refine iY h (λy a=>?_) (by erw[FG,List.length_dropLast,Cg,EG];lia) (i:=(Et g).dropLast.length) (by simp) c;rcases Dw.mp a with a|a
  ·exact d y<|List.dropLast_subset _ a
  ·simp at a;subst a;exact s
 have f:∀p,p<=4->E2 p (.int 5)=O':=λp n=>by simp[E2];lia
 intro x k;erw[GF,Bo,L6,or_false]at k;rcases k with rfl|rfl|rfl|rfl|rfl|rfl|rfl|rfl|rfl|rfl|rfl|rfl|rfl|rfl|rfl|rfl|rfl
 ·exact Oq _ _ rfl
 ·exact c _ trivial f
 ·exact b _ trivial λp _=>by simp[E2]
 ·exact b _ trivial λp _=>rfl
 ·exact Oq _ _ rfl
 ·exact Oq _ _ rfl
 ·exact WJ _ _ (by erw[List.length_dropLast,Bi];lia)
 ·exact WJ _ _ (by erw[FG,Bi,Cg,EG];lia)
 ·exact b _ trivial λp _=>rfl
 ·exact b _ (by show(Str.length "0")<=100;decide +kernel) λp _=>rfl
 ·exact Oq _ _ rfl
 ·exact WJ _ _ (by erw[Bi,EG];exact B2<|Nat.ne_zero_of_lt n1)
 ·exact b _ trivial f
 ·exact Oq _ _ rfl
 ·exact b _ trivial λp _=>rfl
 ·exact b _ trivial λp _=>rfl
 ·exact c _ trivial λp _=>rfl
theorem yY{L:A2}(h:BY L){g:U Nat}(j:g.length=L.length)(c:Int):∃x,Qe [.val (Am g),‹c›]=Z (.val x)/\ZD [#v[L.map LD],.val x]=Z (.val (.bl O')):=by
 have m:=h.n4;obtain⟨k,l⟩:∃k:Nat,c%17=(k:Int):=#[(c%17).toNat,by lia];have f:k<(GF g).length:=by show k<17;lia
 refine#[(GF g)[k],?_,yX h j _<|Hb f];have i:Ar (.lst<|GF g) (.int (k:Int))=Z (GF g)[k]:=ZU<|CK f;have e:dz [.val<|Am g,‹c›,.no]=Uh [.val<|Am g,‹c›,#v[GF g]]:=by
  rcases g with _|⟨a,_|⟨b,_|⟨d,_|⟨e,_|⟨_,_⟩⟩⟩⟩⟩<;>first|rfl|(simp at j;lia)
 refine ZF rfl<|e.trans ?_;rwa[Uh,dy,show ZS (.int c) (.int 17)=Z (.int (k:Int)) by rw[<- l];rfl,i]
theorem DW.of{L:A2}{g:U Nat}(c:g.length=L.length)(h:∀k (a:k<L.length) (b:k<g.length),g[k]<=wh L[k]):DW L g:=#[c,λq d=>by
 obtain⟨k,e,rfl⟩:=List.getElem_of_mem d;have a:k<L.length:=by erw[List.length_zip]at e;lia
 have b:k<g.length:=by lia
 have:=h k a b;simpa[List.getElem_zip]using this]
theorem yZ{L:A2}(h:BY L)(c:Int):∃g,DW L g/\NY [#v[L.map LD],‹c›]=Z (.val (Am g)):=by
 have P:=h.n4;obtain⟨a,e,u,hp⟩:=QZ c L.length (by lia);let g:U Nat:=(Bq L.length).map λk=>(a.getD k 0%((wh (L.getD k [])+1:Nat):Int)).toNat;have n:g.length=L.length:=by simp[g]
 refine#[g,DW.of n λk w h2=>?_,?_]
 ·have o:L.getD k []=L[k]:=by simp[FR,w]
  have hm:=Ib (a.getD k 0) (show(0:Int)<((wh L[k]+1:Nat):Int) by exact Int.ofNat_succ_pos (wh L[k]));rw[List.getElem_map,List.getElem_range,o];lia
 ·have x:=ZA (b:=Zc 0) (e:=Ut) (ρ:=[.no,#v[a.map D.int],#v[L.map LD]]) (λk:Nat=>D.int (k:Int)) (λk=>D.int (((a.getD k 0%((wh (L.getD k [])+1:Nat):Int)).toNat:Nat):Int)) (Bq L.length) λk y=>#[[‹(k:Int)›,#v[a.map D.int],#v[L.map LD]],rfl,by
   have f:=F4.mp y;have i:k<a.length:=Jr f u.symm;have o:L.getD k []=L[k]:=by simp[FR,f]
   have z:a.getD k 0=a[k]:=by simp[FR,i]
   obtain⟨p,A⟩:=h.good L[k]<|Hb f;have B:Ar (.lst<|L.map LD) (.int (k:Int))=Z (LD L[k]):=ZU (by rw[Dy,CK f];rfl);have C:Ar (.lst<|a.map D.int) (.int (k:Int))=Z (.int a[k]):=ZU (by rw[Dy,CK i];rfl);have n1:=A.n1;have q:∃l,Ar (LD L[k]) (.int 0)=Z (Aj l)/\l.length=wh L[k]:=by
    generalize L[k]=E at *;cases E with
    |nil=>simp at n1
    |cons l r=>exact#[l,ZU (j:=0) rfl,rfl]
   obtain⟨l,q,G⟩:=q;have H:Zr [Aj l]=Z (.int (wh L[k]:Int)):=by rw[<- G];simp[Aj]
   have R:Zu (.int (wh L[k]:Int)) (.int 1)=Z (.int ((wh L[k]+1:Nat):Int)):=rfl;have F:ZS (.int a[k]) (.int ((wh L[k]+1:Nat):Int))=Z (.int<|a[k]%((wh L[k]+1:Nat):Int)):=by
    simp_all [wh]
   have M:(((a[k]%((wh L[k]+1:Nat):Int)).toNat:Nat):Int)=a[k]%((wh L[k]+1:Nat):Int):=Wo<|Jc _ (by lia);rw[o,z,M];rwa[Ut,B,C,q,H,R,F]]
  have t:=J2 (L.length:Int) (La<|Kq L) (by lia);rw[GD]at t;have N:=Zp ((Bq L.length).map λk:Nat=>D.int (k:Int)) (by simp;lia);have K:∀d:D,Zj [Sl.val d]=Z [d]:=λ_=>rfl;have m:Zr [.lst<|L.map LD]=Z (.int (L.length:Int)):=by simp
  have Q:g.map (λj:Nat=>D.int (j:Int))=(Bq L.length).map λk=>D.int (((a.getD k 0%((wh (L.getD k [])+1:Nat):Int)).toNat:Nat):Int):=by
   rw[CP];rfl
  show NY _=Z (.val<|.tup (g.map λj:Nat=>D.int (j:Int)))
  rw[Q];generalize ((Bq L.length).map λk=>D.int (((a.getD k 0%((wh (L.getD k [])+1:Nat):Int)).toNat:Nat):Int))=Y at *;have T:D5 [.lst Y]=Z (.tup Y):=rfl;generalize a.map D.int=S,L.map LD=W,(Bq L.length).map (λk:Nat=>D.int (k:Int))=RG at *;refine ZF rfl ?_;show Uu [#v[W],‹c›,.no]=_
  have s:Zt 1 [2,0] [#v[W],‹c›,#v[S]]=[.no,#v[S],#v[W]]:=rfl;rwa[Uu,m,e,Zn,s,K,t,N,x,T]
def Hn(gs:U (U Nat))(n:Nat):U (U Nat):=gs.flatMap λg=>(Bq (n+1)).map λj=>g++[j]
theorem iZ(h:BY L){a:BR}(m:a∈L)(s0 i:Sl):∀(gs acc:U (U Nat))(n:Sl),acc.length+5*gs.length<=100000->(∀g∈gs,g.length<=10)->∃c,ZC (Zc 4) Qg (gs.map Am) [s0,i,.val (LD a),#v[acc.map Am],n]=.next [s0,i,.val (LD a),#v[(acc++Hn gs (wh a)).map Am],c]
 |[],acc,n,_,_=>#[n,by simp[Hn,ZC]]
 |g::gs,acc,n,A,x=>by
  erw[Cg]at A;obtain⟨p,f⟩:=h.good a m;have B:wh a<=4:=by rw[f.wh];exact f.p4
  have y:=x g Ba;obtain⟨c,C⟩:=iZ h m s0 i gs (acc++(Bq<|wh a+1).map λj=>g++[j]) (.val<|Am g) (by simp;lia) (λk E=>x k<|Be _ E);refine⟨c,?_⟩;have G:=ZA (b:=Zc 0) (e:=Uk) (ρ:=[.no,.val<|Am g]) (λk:Nat=>D.int (k:Int)) (λj=>Am<|g++[j]) (Bq<|wh a+1) λj _=>#[[‹(j:Int)›,.val<|Am g],rfl,by
   have q:Ze (Z [D.int (j:Int)])=Z [.int (j:Int)]:=Zp _ (by simp);have o:∀d:D,Zj [Sl.val d]=Z [d]:=λ_=>rfl;have H:Zu (Am g) (.tup [.int (j:Int)])=Z (Am<|g++[j]):=by
    have:g.length+1<=Ax:=BZ (show g.length+1<=100 by lia) (by ext);simp[Zu,Am,this]
   rwa[Uk,o,q,H]]
  have n1:=f.n1;have s:∃l,Ar (LD a) (.int 0)=Z (Aj l)/\l.length=wh a:=by
   cases a with
   |nil=>simp at n1
   |cons l r=>exact#[l,ZU (j:=0) rfl,rfl]
  obtain⟨l,s,t⟩:=s;have P:Zr [Aj l]=Z (.int (wh a:Int)):=by rw[<- t];simp[Aj]
  have F:Zu (.int (wh a:Int)) (.int 1)=Z (.int ((wh a+1:Nat):Int)):=rfl;have z:=J2 ((wh a+1:Nat):Int) (La<|wh a+1) (by lia);rw[GD]at z;have M:=Zp ((Bq<|wh a+1).map λk:Nat=>D.int (k:Int)) (by simp;lia);have o:∀d:D,Zj [Sl.val d]=Z [d]:=λ_=>rfl;have u:Zu (.lst<|acc.map Am) (.lst<|(Bq<|wh a+1).map λj=>Am<|g++[j])=Z (.lst<|(acc++(Bq<|wh a+1).map λj=>g++[j]).map Am):=by
   have:acc.length+(wh a+1)<=Ax:=BZ (show acc.length+(wh a+1)<=100000 by lia) (by ext);have e:((Bq<|wh a+1).map λj=>g++[j]).map Am=(Bq<|wh a+1).map λj=>Am (g++[j]):=by rw[CP];rfl
   simp[Zu,this]
  have N:Qg [s0,i,.val<|LD a,#v[acc.map Am],.val<|Am g]=.next [s0,i,.val<|LD a,#v[(acc++(Bq<|wh a+1).map λj=>g++[j]).map Am],.val<|Am g]:=by
   have w:Zt 1 [4] [s0,i,.val<|LD a,#v[acc.map Am],.val<|Am g]=[.no,.val<|Am g]:=rfl;rwa[Qg,s,P,F,o,z,Zn,w,M,G,u]
  have K:Hn (g::gs) (wh a)=(Bq<|wh a+1).map (λj=>g++[j])++Hn gs (wh a):=by simp[Hn]
  rw[K,<- Mc];rwa[ZC,N];exact C
theorem DW.ext{pre:A2}{g:U Nat}(h:DW pre g){b:BR}(c:j<=wh b):DW (pre++[b]) (g++[j]):=#[by simp[h.1],λq a=>by
 rw[List.zip_append h.1.symm]at a;rcases Dw.mp a with a|a
 ·exact h.2 q a
 ·simp at a;subst a;exact c]
theorem y1(gs:U (U Nat))(n:Nat):(Hn gs n).length=gs.length*(n+1):=by
 unfold Hn;induction gs with
 |nil=>simp
 |cons g r a=>rw[List.flatMap_cons,FG,a];simp[Nat.succ_mul,Nat.add_comm]
theorem i0{L:A2}(h:BY L):∀(k pre:A2)(gs:U (U Nat))(q l i:Sl),L=pre++k->(∀g∈gs,DW pre g)->gs.length<=5^pre.length->∃(gs':U (U Nat)) (s t e:Sl),(∀g∈gs',DW L g)/\ZC (Zc 2) Qh (k.map LD) [#v[L.map LD],#v[gs.map Am],q,l,i]=.next [#v[L.map LD],#v[gs'.map Am],s,t,e]
 |[],pre,gs,q,l,i,m,r,_=>#[gs,q,l,i,by rw[m,D0];exact r,rfl]
 |d::k,pre,gs,q,l,i,m,r,K=>by
  have n:d∈L:=by rw[m];simp
  have F:=h.n4;have u:pre.length<=3:=by
   have:L.length=pre.length+(k.length+1):=by rw[m];simp
   lia
  have M:5^pre.length<=125:=BZ (Nat.pow_le_pow_right (by ext) u) (by ext);obtain⟨p,o⟩:=h.good d n;have x:wh d<=4:=by rw[o.wh];exact o.p4
  obtain⟨e,w⟩:=iZ h n #v[L.map LD] #v[gs.map Am] gs [] i (by simp;lia) λg f=>by rw[(r g f).1];lia
  rw[Ea,C1]at w;have y:Qh [#v[L.map LD],#v[gs.map Am],.val<|LD d,l,i]=.next [#v[L.map LD],#v[(Hn gs<|wh d).map Am],.val<|LD d,#v[(Hn gs<|wh d).map Am],e]:=by
   have q0:Ze (Z ([]:U D))=Z []:=rfl;have z:Zj ([]:U Sl)=Z []:=rfl;rwa[Qh,z,q0,Z4,w]
  obtain⟨gs',a,b,c,A,B⟩:=i0 h k (pre++[d]) (Hn gs<|wh d) (.val<|LD d) #v[(Hn gs<|wh d).map Am] e (by rw[m];simp) (λg f=>by
   obtain⟨C,E,G⟩:=Mv.mp f;obtain⟨j,H,rfl⟩:=Bp.mp G;have:=F4.mp H;exact(r C E).ext<|Nat.le_of_lt_succ this) (by
   simp_all [y1,FG,Cg,EG,Hl,Nat.pow_succ,Nat.mul_le_mul])
  refine#[gs',a,b,c,A,?_];rwa[ZC,y];exact B
theorem y3{L:A2}(h:BY L):∃gs:U (U Nat),(∀g∈gs,DW L g)/\Um [#v[L.map LD]]=Z #v[gs.map Am]:=by
 obtain⟨gs,a,b,c,j,f⟩:=i0 h L [] [[]] .no .no .no rfl (λg i=>by simp at i;subst i;exact#[rfl,λq k=>by simp at k]) (by simp);refine#[gs,j,?_];have l:([[]]:U (U Nat)).map Am=[.tup []]:=rfl;rw[l]at f;generalize L.map LD=W,gs.map Am=Y at *;refine ZF rfl ?_;show Ul [#v[W],.no,.no,.no,.no]=_
 have m:Ze (Z [D.tup []])=Z [.tup []]:=Zp _ (by simp);have n:∀d:D,Zj [Sl.val d]=Z [d]:=λ_=>rfl;have e:Ze (Z ([]:U D))=Z []:=rfl;have o:Zj ([]:U Sl)=Z []:=rfl;rwa[Ul,o,e,n,m,Z4,f]
def Ho(a b:U Nat):Bool:=A4 (gk a) (gk b)
theorem y4:TO Ho:=#[λa b h=>Dt.asym _ _ h,λa b c h=>Dt.neg _ _ _ h,λa b d e=>Ot<|Dt.anti _ _ d e]
theorem i3(n:Nat):∀a b:U Nat,FP (ltN n) (Et a) (Et b)=Z (Ho a b)
 |[],[]=>rfl
 |[],_::_=>rfl
 |_::_,[]=>rfl
 |i::a,j::b=>by
  have d:=i3 n a b;unfold Ho at d ⊢;rwa[Et,gk,FP,A4,A7,HR]at d ⊢;by_cases c:i=j
  ·subst c;erw[AF,beq_self_eq_true,if_true,d]
  ·have e:=Wi rfl rfl c;simp_all [Ep]
theorem i4(h:gs.length<64)(c:∀g∈gs,g≠[]):FQ FZ (gs.map Am)=Z ((Zz Ho gs).map Am):=Wu Am y4 J' gs h Am (λ_ _=>rfl) (λg d=>by
  cases g with
  |nil=>exact absurd rfl<|c _ d
  |cons a r=>exact#[_,_,rfl]) λa _ b _=>i3 5 a b
theorem za(g:U Nat):Dh (Am g)=Z (.tup (gk g)):=by rw[<- GN];exact Gu _
theorem zc(g:U Nat)(v:D):GB [] [.tup [Am g,v]]=Z [(.tup (gk g),v)]:=by
 have a:=za g;have b:0<Ax:=by ext
 simp[GB,a,b,ZY,Di];intro z;exact absurd z (by simp[Zx])
theorem i5{L:A2}(h:BY L)(rs:U Row)(e:∀r∈rs,AZ L r.1)(f:rs.length<64):QI [#v[L.map LD],#v[rs.map Zg],#v[[CF L]]]=Z (.own (Zb (AJ L rs [zg L])) .d):=by
 have b:=gU h (g:=zg L) (by simp) rs e f;have c:=zc (zg L)<|.lst<|Dv L (zg L) rs;rw[<- Kj]at b c;show _=Z (Rv.own (Zb [(KT.tup<|gk<|zg L,D.lst<|Dv L (zg L) rs)]) .d)
 generalize rs.map Zg=R,Dv L (zg L) rs=T at *;have i:QH [.val<|CF L,#v[L.map LD],#v[R]]=Z (.tup [CF L,.lst T]):=by
  have q:Ze (Z [CF L,.lst T])=Z [CF L,.lst T]:=Zp _ (by simp);rwa[QH,b,HU,q]
 have j:ZX (Zc 0) (λ_=>Z J') QH [.no,#v[L.map LD],#v[R]] [CF L]=Z [.tup [CF L,.lst T]]:=by
  rwa[ZX,i]
 have k:Ze (Z [CF L])=Z [CF L]:=Zp _ (by simp);generalize L.map LD=W,CF L=m,[(KT.tup<|gk<|zg L,D.lst T)]=l at *;refine ZF rfl ?_;show Vo [#v[W],#v[R],#v[[m]]]=_
 have a:Zt 1 [0,1] [#v[W],#v[R],#v[[m]]]=[.no,#v[W],#v[R]]:=rfl;rwa[Vo,HL,Zn,k,a,j,c,JJ]
theorem zd(a:BR):A9 1 (LD a)=J':=by
 show(!vk 1 .l&&Dn 1 (a.map Aj))=J'
 rw[HQ λd hd=>by obtain⟨l,_,rfl⟩:=Bp.mp hd;exact Jk 1 l];rfl
theorem W0(L:A2):Dn 1 (L.map LD)=J':=HQ λd hd=>by obtain⟨l,_,rfl⟩:=Bp.mp hd;exact zd l
theorem W3(L:A2)(rs:U Row):∀gs:U (U Nat),Dn 1 (Zb (AJ L rs gs))=J'
 |[]=>rfl
 |g::gs=>by
  show(A9 1 (Aj<|gk g)&&(A9 1 (.lst<|Dv L g rs)&&Dn 1 (Zb<|AJ L rs gs)))=J'
  rw[Jk,WQ,W3 L rs gs];rfl
theorem ze{L:A2}(h:BY L):Vy [.cel 0,#v[L.map LD]] [.mix (.i [] "Book") []]=Z (.val .non,[BP L [] 1,.dat .d (Zb (AJ L [] [zg L]))]):=by
 have k:=h.al;have l:=Q7 h;have j:=i5 h [] (λ_ h=>nomatch h) (by ext);rw[C1]at j;have m:=ZA (b:=Zc 0) (e:=eB) (ρ:=[.no]) LD LD L λn _=>#[[.val<|LD n],rfl,rfl];have o:=Zp (L.map LD) (by have:=h.n4;simp;lia);have p:=W0 L;have q:=W3 L [] [zg L];have r:L2.putN "standing" ["axes"]=(["axes","standing"]:U Ae):=by decide +kernel
 have t:L2.putN "tables" ["axes","standing"]=(["axes","standing","tables"]:U Ae):=by decide +kernel
 have n1:¬ ("axes":Ae)="standing":=by decide +kernel
 have n2:¬ ("axes":Ae)="tables":=by decide +kernel
 have n3:¬ ("standing":Ae)="tables":=by decide +kernel
 have u:∀x y:IV,D8 "standing" y ["axes"] [x]=[x,y]:=λx y=>by erw[D8,if_neg n1]
 have w:∀x y z:IV,D8 "tables" z ["axes","standing"] [x,y]=[x,y,z]:=λx y z=>by erw[D8,if_neg n2,if_neg n3]
 have l1:(1:Nat)<1000:=by ext
 have A:(2:Nat)<1000:=by ext
 have B:Dc "Book" "axes" (.lst [.lst<|L.map LD,.lst []]<|.i ["axes","standing"] "Book")=Z (.lst<|L.map LD):=rfl;generalize Zb (AJ L [] [zg L])=TT at *;generalize c:L.map LD=a at *;have C:Vu ([.cel 0,#v[a]],[.mix (.i [] "Book") []])=.next ([.cel 0,#v[a]],[.mix (.i [] "Book") []]):=by
  rwa[Vu,BE,k,Es]
 have p1:Vv ([.cel 0,#v[a]],[.mix (.i [] "Book") []])=.next ([.cel 0,#v[a]],[.mix (.i ["axes"] "Book") [#v[a]]]):=by
  have f:∀V:Sl,Zt 1 [] [V,#v[a]]=[.no]:=λ_=>rfl;rwa[Vv,BE,Zn,f,o,m,jG,jL,p,xF,GJ,and_self,true_and,putN,D8];rfl
 have E:Vw ([.cel 0,#v[a]],[.mix (.i ["axes"] "Book") [#v[a]]])=.next ([.cel 0,#v[a]],[.mix (.i ["axes","standing"] "Book") [#v[a],#v[[]]]]):=by
  have q0:Ze (Z ([]:U D))=Z []:=rfl;have g:Zj ([]:U Sl)=Z []:=rfl;have G:Dn 2 []=J':=rfl;rwa[Vw,g,q0,jG,jL,G,xF,GJ,Hl,true_and,l1,r,u]
 have H:Vx ([.cel 0,#v[a]],[.mix (.i ["axes","standing"] "Book") [#v[a],#v[[]]]])=.next ([.cel 0,#v[a]],[.mix kB [#v[a],#v[[]],.cel 1],.dat .d TT]):=by
  have q0:Ze (Z ([]:U D))=Z []:=rfl;have g:Zj ([]:U Sl)=Z []:=rfl;have K:Zj [Sl.val<|CF L]=Z [CF L]:=rfl;have F:Ze (Z [CF L])=Z [CF L]:=Zp _ (by simp);have M:D9 1 [.mix (.i ["axes","standing"] "Book") [#v[a],#v[[]]]] (.cel 0)=.val (.lst [.lst a,.lst []]<|.i ["axes","standing"] "Book"):=rfl;rwa[Vx,BE,M,Hx,B,g,q0,l,K,F,j,O1,jG,jL,q,xC,GJ,Ga,Ea,Hl,F1,true_and,A,t,w]
 have e:QK ([.cel 0,#v[a]],[.mix (.i [] "Book") []])=.next ([.cel 0,#v[a]],[.mix kB [#v[a],#v[[]],.cel 1],.dat .d TT]):=by
  erw[QK,eH,eG,eF,eE,eC,C,p1,E,H,Zl]
 show(match QK ([.cel 0,#v[a]],[.mix (.i [] "Book") []])with | .ret x N=>Z (x,N) | .next s=>Z (.val .non,s.2)|_=>J)=_
 rw[e,<- c]
theorem zf{G:Gh}{n:Nat}{c:Cl}(h:G[n]?=Z c):G.set n c=G:=by
 apply JM;intro i;by_cases e:n=i
 ·subst e;rw[Ov h,h]
 ·rw[Ed e]
theorem zh(rs:U Row)(r:Row)(i:rs.length<100){G:Gh}{n:Nat}(h:G[n]?=Z (.dat .l (rs.map Zg))):T9 [.cel n,.val (Zg r)] G=Z (.val .non,G.set n (.dat .l ((rs++[r]).map Zg))):=by
 have b:KD (.int ((rs.map Zg).length:Int)) (.int 200)=Z (.bl O'):=by
  show Z (D.bl<|decide<|(200:Int)<=((rs.map Zg).length:Int))=_
  grind [Bi]
 have c:(rs.map Zg).length<Ax:=by rw[Bi];exact B6 (show rs.length<1000 by lia) (by ext)
 have a:Zr [.lst<|rs.map Zg]=Z (.int ((rs.map Zg).length:Int)):=rfl;have f:=F3 h;have g:=ZQ;rw[HD,AS,C1];generalize rs.map Zg=R,Zg r=d at *;have e:T8 ([.cel n,.val d],G)=.next ([.cel n,.val d],G.set n<|.dat .l<|R++[d]):=by
  rwa[T8,BE,f,a,b,g,K6,h,if_pos c,Fx]
 exact Eq.trans (fi rfl e) rfl
theorem i6(r:Row):A9 2 (Zg r)=J':=by
 show(A9 2 (Aj r.1)&&(A9 2 (.int r.2)&&J'))=J'
 rw[Jk];rfl
theorem i7(rs:U Row):Dn 2 (rs.map Zg)=J':=HQ λd hd=>by obtain⟨r,_,rfl⟩:=Bp.mp hd;exact i6 r
def EM(r:Row):D:=Kf (J',r)
theorem zi{L:A2}(h:BY L)(c d:IV)(rs:U Row)(e:rs.length<100)(r:Row)(f:AZ L r.1){G:Gh}{n:Nat}(g:G[n]?=Z (.dat .l (rs.map Zg))):QP ([#v[L.map LD],c,d,.cel n,.val (EM r)],G)=.next ([#v[L.map LD],c,d,.cel n,.val (EM r)],G.set n (.dat .l ((rs++[r]).map Zg))):=by
 have i:QN [#v[L.map LD],.val<|EM r]=Z (.val<|.bl J'):=xH h (J',r) f;have j:Ar (EM r) (.int 0)=Z (Jh J'):=rfl;have k:Ar (EM r) (.int 1)=Z (Aj r.1):=rfl;have m:Ar (EM r) (.int 2)=Z (.int r.2):=rfl;have q:Ze (Z [Aj r.1,.int r.2])=Z [Aj r.1,.int r.2]:=Zp _ (by simp);have o:D.tup [Aj r.1,.int r.2]=Zg r:=rfl;have p:∀a b:D,Zj [Sl.val a,.val b]=Z [a,b]:=λ_ _=>rfl;have s:=xG J';have t:=zh rs r e g;have u:=i6 r;unfold QP;rwa[BE,i,Es,j,k,m,s,p,q,o,u,Fy,t,Fx]
theorem i8{L:A2}(h:BY L)(c d:IV){n:Nat}:∀(a rs:U Row)(e:IV)(G:Gh),rs.length+a.length<100->(∀r∈a,AZ L r.1)->G[n]?=Z (.dat .l (rs.map Zg))->∃b,GI 4 QP (a.map EM) ([#v[L.map LD],c,d,.cel n,e],G)=.next ([#v[L.map LD],c,d,.cel n,b],G.set n (.dat .l ((rs++a).map Zg)))
 |[],rs,e,G,_,_,f=>#[e,by rw[D0,zf f];rfl]
 |r::a,rs,e,G,g,i,f=>by
  erw[Cg]at g;have k:=zi h c d rs (Dz g) r (i r Ba) f;obtain⟨b,j⟩:=i8 h c d a (rs++[r]) (.val<|EM r) (G.set n<|.dat .l<|(rs++[r]).map Zg) (by simp;lia) (λq m=>i q<|Be _ m) (Ov f);refine⟨b,?_⟩;rw[List.set_set,Mc]at j;erw[AS,GI,Ey,En,k];exact j
theorem zj{L:A2}(h:BY L)(a:U Row)(k:a.length<64)(i:∀r∈a,AZ L r.1)(G:Gh):VT [#v[L.map LD],#v[[]],#v[a.map EM]] G=Z (#v[(Zz C0 a).map Zg],G++[.dat .l (a.map Zg)]):=by
 have m:(G++[Cl.dat .l []])[G.length]?=Z (.dat .l<|([]:U Row).map Zg):=by simp
 obtain⟨j,e⟩:=i8 h #v[[]] #v[a.map EM] a [] .no (G++[.dat .l []]) (by simp;lia) i m;rw[Ea]at e;have b:(G++[Cl.dat .l []]).set G.length (.dat .l<|a.map Zg)=G++[.dat .l<|a.map Zg]:=by simp
 rw[b]at e;have x:=h.n4;have o:=xL a k λr p=>by have:=(i r p).len;lia
 have c:D9 2 (G++[.dat .l<|a.map Zg]) (.cel G.length)=#v[a.map Zg]:=F3 (by simp);have q:=i7<|Zz C0 a;have s:∀d,A9 0 d=J':=ZQ;generalize L.map LD=n,a.map EM=C,a.map Zg=W,(Zz C0 a).map Zg=Y at *;have t:VP ([#v[n],#v[[]],#v[C],.no,.no],G)=.next ([#v[n],#v[[]],#v[C],.cel G.length,.no],G++[.dat .l []]):=by
  have g:ID [.lst []]=Z []:=rfl;have f:Dn 2 []=J':=rfl;rwa[VP,BE,C7,FN,g,jG,jL,f,xC]
 have p1:VQ ([#v[n],#v[[]],#v[C],.cel G.length,.no],G++[.dat .l []])=.next ([#v[n],#v[[]],#v[C],.cel G.length,j],G++[.dat .l W]):=by
  rwa[VQ,BE,C7,s,Mi,K5,e]
 have u:VR ([#v[n],#v[[]],#v[C],.cel G.length,j],G++[.dat .l W])=.ret #v[Y] (G++[.dat .l W]):=by
  rwa[VR,BE,c,KU,o,jG,jL,q,xF,CH]
 have w:VS ([#v[n],#v[[]],#v[C],.no,.no],G)=.ret #v[Y] (G++[.dat .l W]):=by
  erw[VS,eU,eT,eS,t,p1,u,Zl]
 exact Eq.trans (fi rfl w) rfl
theorem zk{L:A2}(h:BY L)(rs:U Row)(t:∀r∈rs,AZ L r.1)(u:rs.length<64):∃ys:U D,Vl [.val (.lst (Zb (AJ L [] [zg L])) .d),.val (.lst (Zb (AJ L rs [zg L])) .d)]=Z (.own ys)/\Dn 2 ys=J':=by
 have M:=h.n4;have v:=h.n1;have a:(zg L).length=L.length:=by simp
 have ok:=iS a t;have n2:((Lu<|GO L (zg L) rs).map (·.1)).Nodup:=by rw[gY];exact(ZE A4 _).nodup_iff.mpr ok.nd
 have j:(Zz A4<|Zo<|GO L (zg L) rs).length<64:=by rw[(ZE A4 _).length_eq];unfold Zo;rw[Bi];have:=ok.len;exact Kv this u
 obtain⟨c,e,N⟩:=xo [] (Lu<|GO L (zg L) rs) (by simp) n2 (λ_ h=>nomatch h) (xr _) (Zz A4<|Zo<|GO L (zg L) rs) (λ_ h=>nomatch h) (λe w=>by rw[<- gY];exact FV w) j λk x=>by
  have:=ok.kl k<|(ZE A4 _).mem_iff.mp x;exact⟨λz=>by rw[z]at this;simp at this;lia,by lia⟩
 rw[<- xp,C1]at e;have n:=Rs L [] (gs:=[zg L]) (g:=zg L) (by simp);have y:=Rs L rs (gs:=[zg L]) (g:=zg L) (by simp);have t0:Dv L (zg L) []=[]:=rfl;rw[t0]at n;have A:IM (Z<|.lst (Zb<|AJ L [] [zg L]) .d)=Z [Am<|zg L]:=by
  show(Ek<|Zb<|AJ L [] [zg L]).bind (λl=>FQ FZ<|l.map λp=>kD p.1)=_
  rw[Fs];show FQ FZ ((AJ L [] [zg L]).map λp=>kD p.1)=_
  rw[WK];exact i4 (gs:=[zg L]) (by simp) λg s=>by simp at s;subst s;intro z;rw[z]at a;simp at a;lia
 have B:=ZA (b:=Zc 0) (e:=Vi) (ρ:=[.no,.val<|Am<|zg L]) Aj (λk=>D.tup [Am<|zg L,Aj k]) c λk _=>#[[.val<|Aj k,.val<|Am<|zg L],rfl,by
  have q:Ze (Z [Am<|zg L,Aj k])=Z [Am<|zg L,Aj k]:=Zp _ (by simp);rwa[Vi,q]]
 have C:=Zp (c.map Aj) (by simp;lia);have E:([]:U D).length+(c.map λk=>D.tup [Am<|zg L,Aj k]).length<=Ax:=by
  erw[EG,Bi,Hl];exact BZ (show c.length<=1000 by lia) (by ext)
 refine#[c.map λk=>D.tup [Am<|zg L,Aj k],?_,HQ λd hd=>by
  obtain⟨k,_,rfl⟩:=Bp.mp hd;show(A9 2 (Am<|zg L)&&(A9 2 (Aj k)&&J'))=J'
  rw[<- GN,Jk,Jk];rfl]
 have G:De (GO L (zg L) rs)=Dv L (zg L) rs:=rfl;rw[G]at e;generalize Am (zg L)=F,D.lst (Zb<|AJ L rs [zg L]) .d=f,D.lst (Zb<|AJ L [] [zg L]) .d=i,Dv L (zg L) rs=Q,(c.map λk=>D.tup [Am<|zg L,Aj k])=Y at *;have m:Zt 1 [3] [.val i,.val f,.own [],.val F]=[.no,.val F]:=rfl;have H:Vj [.val i,.val f,.own [],.val F]=.next [.val i,.val f,.own Y,.val F]:=by
  erw[Vj,Zn,m,Zi,Za,AU,CC,Cw,BH,n,y,CL,Ci,Zh,e,HU,Zs,C,B,L7,DF,if_pos E,Ea,Ey,En,Zd]
 have K:Ze (Z ([]:U D))=Z []:=rfl;have o:Zj ([]:U Sl)=Z []:=rfl;refine ZF rfl ?_;show Vk [.val i,.val f,.no,.no]=_
 rwa[Vk,o,K,Dg,Z4,A,ZC,H,DF,C9]
theorem i9{G:Gh}{q m:Nat}(a:m≠0)(h:G[q]?=Z (.dat .d xs)):D9 m G (.cel q)=.val (.lst xs .d):=by
 simp_all
theorem zl{L:A2}(h:BY L)(rs:U Row)(f:∀r∈rs,AZ L r.1)(g:rs.length<64)(W:U D):∃ys:U D,VD [.cel 0] [BP L (rs.map Zg) 1,.dat .d (Zb (AJ L [] [zg L])),.dat .l W]=Z (.cel 4,[BP L (rs.map Zg) 3,.dat .d (Zb (AJ L [] [zg L])),.dat .l W,.dat .d (Zb (AJ L rs [zg L])),.dat .l ys]):=by
 obtain⟨ys,e,i⟩:=zk h rs f g;refine#[ys,?_];have j:=i5 h rs f g;have k:=W3 L rs [zg L];have c:KY [.lst (Zb<|AJ L [] [zg L]) .d]=Z [CF L]:=by
  rw[bA,WK,Kj];rfl
 generalize H:rs.map Zg=R at *;generalize Zb (AJ L rs [zg L])=b,Zb (AJ L [] [zg L])=a at *;have n2:¬ ("axes":Ae)="tables":=by decide +kernel
 have n3:¬ ("standing":Ae)="tables":=by decide +kernel
 have m:L2.putN "tables" Gv=Gv:=by decide +kernel
 have n:∀x y w z:IV,D8 "tables" z Gv [x,y,w]=[x,y,z]:=λx y w z=>by erw[D8,if_neg n2,if_neg n3,if_true]
 have o:(3:Nat)<1000:=by ext
 have p:=Ic (L:=L) (R:=R) (T:=a);have q:=WL (L:=L) (R:=R) (T:=a);have s:=Kh (L:=L) (R:=R) (T:=b);have u:D9 1 [BP L R 1,.dat .d a,.dat .l W] (.cel 0)=.val (BD L R a):=Ki 1 (by ext) rfl rfl;have v:D9 1 [BP L R 1,.dat .d a,.dat .l W] (.cel 1)=.val (.lst a .d):=i9 (by ext) rfl;have A:D9 2 [BP L R 3,.dat .d a,.dat .l W,.dat .d b] (.cel 0)=.val (BD L R b):=Ki 2 (by ext) rfl rfl;have B:D9 2 [BP L R 3,.dat .d a,.dat .l W,.dat .d b] (.cel 1)=.val (.lst a .d):=i9 (by ext) rfl;have F:Mh "Book" "tables" ([.cel 0,.no],[BP L R 1,.dat .d a,.dat .l W]) (Z 0)=Z 1:=WM rfl;have C:Vz ([.cel 0,.no],[BP L R 1,.dat .d a,.dat .l W])=.next ([.cel 0,.cel 1],[BP L R 1,.dat .d a,.dat .l W]):=by
  have t:Cr (([.cel 0,.no]:U IV),([BP L R 1,.dat .d a,.dat .l W]:Gh)) 0=Z 0:=rfl;unfold Vz;rfl
 have p1:VA ([.cel 0,.cel 1],[BP L R 1,.dat .d a,.dat .l W])=.next ([.cel 0,.cel 1],[BP L R 3,.dat .d a,.dat .l W,.dat .d b]):=by
  rwa[VA,u,v,Hx,FN,p,q,c,j,O1,jG,jL,k,xC,GJ,Ga,Ea,Hl,F1,true_and,o,m,n]
 have E:VB ([.cel 0,.cel 1],[BP L R 3,.dat .d a,.dat .l W,.dat .d b])=.ret (.cel 4) [BP L R 3,.dat .d a,.dat .l W,.dat .d b,.dat .l ys]:=by
  rwa[VB,A,B,Fn,s,e,LU,jG,jL,i,xC,CH,Ga,Ea,Hl,F1]
 have G:VC ([.cel 0,.no],[BP L R 1,.dat .d a,.dat .l W])=.ret (.cel 4) [BP L R 3,.dat .d a,.dat .l W,.dat .d b,.dat .l ys]:=by
  erw[VC,eK,eJ,eI,C,p1,E,Zl]
 exact Eq.trans (fi rfl G) rfl
theorem zm:Gv.contains "tables_renewed"=O':=by decide +kernel
theorem zn:Gv.contains "pour"=O':=by decide +kernel
theorem zo{L:A2}(h:BY L)(a:U Row)(b:∀r∈a,AZ L r.1)(c:a.length<64):∃ys:U D,VV [.cel 0,#v[a.map EM]] [BP L [] 1,.dat .d (Zb (AJ L [] [zg L]))]=Z (.cel 4,[BP L ((Zz C0 a).map Zg) 3,.dat .d (Zb (AJ L [] [zg L])),.dat .l (a.map Zg),.dat .d (Zb (AJ L (Zz C0 a) [zg L])),.dat .l ys]):=by
 have g:=zj h a c b [BP L [] 1,.dat .d<|Zb<|AJ L [] [zg L]];obtain⟨ys,e⟩:=zl h (Zz C0 a) (λr i=>b r<|(ZE C0 _).mem_iff.mp i) (by rw[(ZE C0 _).length_eq];exact c) (a.map Zg);refine⟨ys,?_⟩;have j:=W0 L;have k:A9 1 (.lst<|L.map LD)=J':=by
  show(!vk 1 .l&&Dn 1 (L.map LD))=J'
  rw[j];rfl
 have m:A9 1 (.lst [])=J':=rfl;have n:∀d,A9 0 d=J':=ZQ;have o:=Ic (L:=L) (R:=[]) (T:=Zb<|AJ L [] [zg L]);have p:=WL (L:=L) (R:=[]) (T:=Zb<|AJ L [] [zg L]);have q:D9 1 [BP L [] 1,.dat .d<|Zb<|AJ L [] [zg L]] (.cel 0)=.val (BD L []<|Zb<|AJ L [] [zg L]):=Ki 1 (by ext) rfl rfl;generalize a.map EM=C,a.map Zg=W,(Zz C0 a).map Zg=R,Zb (AJ L (Zz C0 a) [zg L])=s,Zb (AJ L [] [zg L])=f,BD L [] (Zb<|AJ L [] [zg L])=H at *;have n1:¬ ("axes":Ae)="standing":=by decide +kernel
 have t:L2.putN "standing" Gv=Gv:=by decide +kernel
 have u:∀x y w z:IV,D8 "standing" z Gv [x,y,w]=[x,z,w]:=λx y w z=>by erw[D8,if_neg n1,if_true]
 have A:(3:Nat)<1000:=by ext
 have B:Em "Book" "tables_renewed" (BP L R 1)=J':=by rwa[Em,zm]
 have E:(0:Nat)<3:=by ext
 have G:VU ([.cel 0,#v[C]],[BP L [] 1,.dat .d f])=.ret (.cel 4) [BP L R 3,.dat .d f,.dat .l W,.dat .d s,.dat .l ys]:=by
  rwa[VU,q,BE,o,p,n,k,m,Fy,g,Ga,Ea,GJ,Hl,F1,true_and,A,t,u,Gq,B,E,and_self,e,CH]
 exact Eq.trans (fi rfl G) rfl
theorem zp:QS=fC:=rfl
noncomputable abbrev lS(SC AX RR:U D)(x5 x6 x7 x8 x9:IV):U IV:=[#v[SC],#v[AX],.cel 0,#v[RR],.cel 5,x5,x6,x7,x8,x9]
section
variable{L:A2}{rs:U Row}{G:Gh}{t:Nat}{g:U Nat}{AX RR:U D}{x5 x6 x7 x8 x9:IV}{ns:U Int}{ws:U Int}
theorem zq(k:Nat)(f:k<1000):∃c:Int,V6 (lS (ns.map D.int) AX RR x5 ‹(k:Int)› x7 x8 x9,G)=.next (lS (ns.map D.int) AX RR x5 ‹(k:Int)› ‹c› x8 x9,G):=by
 have a:=On #v[ns.map D.int] ns (.inl rfl) (7+(k:Int))<|Mr<|7+k;refine⟨ns.getD (7+(k:Int)).toNat 0+7*(k:Int),?_⟩;generalize ns.getD (7+(k:Int)).toNat 0=c at *;have b:Zu (.int 7) (.int (k:Int))=Z (.int<|7+(k:Int)):=rfl;have m1:EV (.int 7) (.int (k:Int))=Z (.int<|7*(k:Int)):=H9 (by left;decide);have d:Zu (.int c) (.int<|7*(k:Int))=Z (.int<|c+7*(k:Int)):=rfl;have e:∀i,A9 2 (.int i)=J':=λ_=>rfl;unfold lS;rwa[V6,BE,b,m1,a,d,e]
theorem zr(c:Int):∃ws:U Int,ws.length=5/\(∀y∈ws,0<=y)/\V7 (lS SC AX RR x5 x6 ‹c› x8 x9,G)=.next (lS SC AX RR x5 x6 ‹c› #v[ws.map D.int] x9,G):=by
 obtain⟨ws,e,a,b⟩:=QZ c 5 (by ext);refine#[ws,a,b,?_];have f:=ZQ;have g:((5:Nat):Int)=5:=rfl;rw[g]at e;rwa[V7,BE,e,f]
theorem W4(g:U Nat):A9 2 (Am g)=J':=by rw[<- GN];exact Jk 2 _
theorem zt(h:BY L)(c:Int):∃g,DW L g/\V8 (lS SC (L.map LD) RR x5 x6 ‹c› x8 x9,G)=.next (lS SC (L.map LD) RR (.val (Am g)) x6 ‹c› x8 x9,G):=by
 obtain⟨g,a,e⟩:=yZ h c;refine#[g,a,?_];have b:=W4 g;rwa[V8,BE,e,b]
theorem OA(ws:U Int)(k:Nat)(a:k<ws.length):Ar (.lst (ws.map D.int)) (.int (k:Int))=Z (.int ws[k]):=ZU (by rw[Dy,CK a];rfl)
theorem zu(k:ws.length=5)(m:G[5]?=Z (.dat .l (gs.map Am)))(f:Gs L gs)(n:DW L g):∃g',DW L g'/\QU (lS SC AX RR (.val (Am g)) x6 x7 #v[ws.map D.int] x9,G)=.next (lS SC AX RR (.val (Am g')) x6 x7 #v[ws.map D.int] x9,G):=by
 have h:Ar (.lst<|ws.map D.int) (.int 0)=Z (.int ws[0]):=OA ws 0<|LM k;have o:Ar (.lst<|ws.map D.int) (.int 1)=Z (.int ws[1]):=OA ws 1 (by lia);have i:=Ds ws[0] 3 (by ext);have p:=F3 m;by_cases c:ws[0]%3=0
 ·have a:0<gs.length:=List.length_pos_of_mem f.lo;have d:=Jc ws[1] (show(gs.length:Int)≠0 by exact Int.natCast_ne_zero_iff_pos.mpr a);have q:=Ib ws[1] (show(0:Int)<(gs.length:Int) by exact Int.natCast_pos.mpr a);obtain⟨j,r⟩:∃j:Nat,ws[1]%(gs.length:Int)=(j:Int):=#[(ws[1]%(gs.length:Int)).toNat,by exact Eq.symm<|Wo d];have b:j<gs.length:=by lia
  refine#[gs[j],f.ok _<|Hb b,?_];have m1:=Ds ws[1] (gs.length:Int)<|Int.natCast_pos.mpr a;rw[r]at m1;have s:Zr [.lst<|gs.map Am]=Z (.int (gs.length:Int)):=by
   simp_all [Am,Bi]
  have t:Ar (.lst<|gs.map Am) (.int (j:Int))=Z (Am gs[j]):=ZU (by rw[Dy,CK b];rfl);have e:Bu (.int<|ws[0]%3) (.int 0)=Z (.bl J'):=by rw[c];rfl
  have u:=W4 gs[j];rwa[QU,BE,p,h,i,e,o,s,m1,t,u]
 ·refine#[g,n,?_];have e:Bu (.int<|ws[0]%3) (.int 0)=Z (.bl O'):=by simp[c]
  rwa[QU,BE,h,i,e]
theorem zv(e:ws.length=5):∃gd:Bool,V9 (lS SC AX RR x5 x6 x7 #v[ws.map D.int] x9,G)=.next (lS SC AX RR x5 x6 x7 #v[ws.map D.int] (.val (.bl gd)),G):=by
 have a:Ar (.lst<|ws.map D.int) (.int 2)=Z (.int ws[2]):=OA ws 2 (by lia);have m2:=Ds ws[2] 4 (by ext);have c:∀b,A9 2 (.bl b)=J':=λ_=>rfl;refine#[decide<|0<ws[2]%4,?_];have d:EW (.int<|ws[2]%4) (.int 0)=Z (.bl<|decide<|0<ws[2]%4):=rfl;rwa[V9,BE,a,m2,d,c]
theorem zw(h:BY L)(i:ws.length=5)(a:DW L g)(gd:Bool):∃x,QV (lS SC AX RR (.val (Am g)) x6 x7 #v[ws.map D.int] (.val (.bl gd)),G)=.next (lS SC AX RR (.val x) x6 x7 #v[ws.map D.int] (.val (.bl gd)),G)/\((gd=J'/\x=Am g)\/(gd=O'/\ZD [#v[L.map LD],.val x]=Z (.val (.bl O')))):=by
 cases gd with
 |true=>
  refine#[Am g,?_,.inl #[rfl,rfl]];rwa[QV,BE,Es]
 |false=>
  obtain⟨x,e,b⟩:=yY h a.1 ws[3];refine#[x,?_,.inr #[rfl,b]];have c:Ar (.lst<|ws.map D.int) (.int 3)=Z (.int ws[3]):=OA ws 3 (by lia);have f:=ZQ;rwa[QV,BE,Es,c,e,f]
theorem zy{w:Int}{x:D}{gd:Bool}(h:ws.length=5)(b:ws[4]%3=w)(e:IZ [.cel 0,#v[AX],#v[RR],.cel 5,‹w›,.val x,.val (.bl gd)] G=Z (.val (.bl J'),G')):Wa (lS SC AX RR (.val x) x6 x7 #v[ws.map D.int] (.val (.bl gd)),G)=.next (lS SC AX RR (.val x) x6 x7 #v[ws.map D.int] (.val (.bl gd)),G'):=by
 have c:Ar (.lst<|ws.map D.int) (.int 4)=Z (.int ws[4]):=OA ws 4 (by lia);have a:=Ds ws[4] 3 (by ext);rw[b]at a;have f:=ZQ;have g:∀i,A9 2 (.int i)=J':=λ_=>rfl;rwa[Wa,BE,c,a,f,g,Fy,e,K9]
theorem zz:Gv.contains "kept"=O':=by decide +kernel
theorem zA{R:U D}{ys:U D}(b:FQ FZ (gs.map Am)=Z ys):P8 [.val (BD L R (Zb (AJ L rs gs)))]=Z (.own ys):=by
 have c:=Kh (L:=L) (R:=R) (T:=Zb<|AJ L rs gs);have e:IM (Z<|.lst (Zb<|AJ L rs gs) .d)=Z ys:=by
  show(Ek<|Zb<|AJ L rs gs).bind (λa=>FQ FZ<|a.map λp=>kD p.1)=_
  rw[Fs];show FQ FZ ((AJ L rs gs).map λp=>kD p.1)=_
  rw[WK,b]
 generalize D.lst (Zb<|AJ L rs gs) .d=TT,BD L R (Zb<|AJ L rs gs)=B at *;refine ZF rfl ?_;show Ua [.val B]=_
 rwa[Ua,c,e,C9]
theorem zB(h:BY L)(a:Bk L rs G 0 t 5 gs)(c:Gs L gs):Wb (lS SC AX RR x5 x6 x7 x8 x9,G)=.next (lS SC AX RR x5 x6 x7 x8 x9,G):=by
 have n1:=h.n1;have d:=i4 (gs:=gs) (by have:=c.le;lia) λg f z=>by have:=(c.ok g f).1;rw[z]at this;simp at this;lia
 have i:=zA (L:=L) (rs:=rs) (R:=rs.map Zg) d;have j:=Ki 2 (by ext) a.b0 a.t0;have vq:=F3 a.q0;have k:Fu "Book" "kept" (.val<|BD L (rs.map Zg)<|Zb<|AJ L rs gs)=J':=by rwa[Fu,zz]
 have l:IM (Z<|.lst<|gs.map Am)=Z ((Zz Ho gs).map Am):=d;have e:A7 12 (.lst<|(Zz Ho gs).map Am)=J':=by
  simp_all [Zz,Ho,Am,WY]
 have b:Ce (.lst<|(Zz Ho gs).map Am) (.lst<|(Zz Ho gs).map Am)=Z (.bl O'):=by
  have:AF (.lst<|(Zz Ho gs).map Am) (.lst<|(Zz Ho gs).map Am)=J':=Pf 12 _ e;rwa[Ce,HR,e,this]
 rwa[Wb,BE,j,vq,DL,k,i,HU,l,b]
theorem zC(h:BY L)(m:∀r∈rows,AZ L r.1)(n:rows.length<64)(o:rs.Perm rows)(f:Bk L rs G 0 t 5 gs)(i:Gs L gs)(k:Nat)(p:k<1000):∃y5 y7 y8 y9 G' gs',QS (lS (ns.map D.int) (L.map LD) (rows.map Zg) x5 ‹(k:Int)› x7 x8 x9,G)=.next (lS (ns.map D.int) (L.map LD) (rows.map Zg) y5 ‹(k:Int)› y7 y8 y9,G')/\Bk L rs G' 0 t 5 gs'/\Gs L gs':=by
 obtain⟨c,q⟩:=zq k p;obtain⟨ws,e,j,s⟩:=zr c;obtain⟨g,u,w⟩:=zt h c;obtain⟨y,a,z⟩:=zu (x7:=‹c›) (x9:=x9) e f.q0 i u;obtain⟨gd,A⟩:=zv (SC:=ns.map D.int) (AX:=L.map LD) (RR:=rows.map Zg) (x5:=.val<|Am y) (x6:=‹(k:Int)›) (x7:=‹c›) (x9:=x9) (G:=G) e;obtain⟨x,B,l⟩:=zw (SC:=ns.map D.int) (AX:=L.map LD) (RR:=rows.map Zg) (x6:=‹(k:Int)›) (x7:=‹c›) (G:=G) h e a gd;have C:ws[4]%3=0\/ws[4]%3=1\/ws[4]%3=2:=by lia
 have hd:∃G' gs',IZ [.cel 0,#v[L.map LD],#v[rows.map Zg],.cel 5,‹ws[4]%3›,.val x,.val<|.bl gd] G=Z (.val<|.bl J',G')/\Bk L rs G' 0 t 5 gs'/\Gs L gs':=by
  rcases l with⟨rfl,rfl⟩|⟨rfl,l⟩
  ·exact iW h m n o f i a C
  ·grind [yW]
 obtain⟨G',gs',hd,b,d⟩:=hd;have E:=zy (SC:=ns.map D.int) (x6:=‹(k:Int)›) (x7:=‹c›) e rfl hd;have H:=zB (SC:=ns.map D.int) (AX:=L.map LD) (RR:=rows.map Zg) (x5:=.val x) (x6:=‹(k:Int)›) (x7:=‹c›) (x8:=#v[ws.map D.int]) (x9:=.val<|.bl gd) h b d;refine⟨.val x,‹c›,#v[ws.map D.int],.val<|.bl gd,G',gs',?_,b,d⟩;rw[zp,fC,q,Zl,fB,s,Zl,fA,w,Zl,fy,z,Zl,fw,A,Zl,fu,B,Zl,ft,E,Zl,fq,H,Zl,fm]
end
theorem zD{a c:Type}(f:a->c)(lo b:O Int)(st:Int)(xs:U a):DT lo b st (xs.map f)=(DT lo b st xs).map f:=by
 unfold DT;grind
theorem zE{b:Type}{lo a:O Int}{st:Int}{xs:U b}{x:b}(h:x∈DT lo a st xs):x∈xs:=by
 unfold DT at h;obtain⟨i,_,a⟩:=List.mem_filterMap.mp h;exact LF a
section
variable{L:A2}{rs:U Row}{t:Nat}{ns:U Int}(h:BY L)(hr:∀r∈rows,AZ L r.1)(hl:rows.length<64)(hp:rs.Perm rows)
include h hr hl hp
theorem zF{G:Gh}(c:Bk L rs G 0 t 5 gs)(f:Gs L gs){g:U Nat}(i:DW L g){x6 x7 x8 x9:IV}:∃G' gs',QR (lS SC (L.map LD) (rows.map Zg) (.val (Am g)) x6 x7 x8 x9,G)=.next (lS SC (L.map LD) (rows.map Zg) (.val (Am g)) x6 x7 x8 x9,G')/\Bk L rs G' 0 t 5 gs'/\Gs L gs':=by
 obtain⟨G',gs',e,a,b⟩:=iW h hr hl hp c f i<|.inl rfl;refine⟨G',gs',?_,a,b⟩;have j:=ZQ;have k:A9 2 (.int 0)=J':=rfl;have l:A9 2 (.bl J')=J':=rfl;rwa[QR,BE,j,k,l,Fy,e,K9]
set_option tactic.hygienic true in
theorem ja{SC:U D}{x6 x7 x8 x9:IV}:∀(b:U (U Nat))(x5:IV)(G:Gh)(gs:U (U Nat)),(∀g∈b,DW L g)->Bk L rs G 0 t 5 gs->Gs L gs ->
  ∃y5 G' gs',GI 5 QR (b.map Am) (lS SC (L.map LD) (rows.map Zg) x5 x6 x7 x8 x9,G)=.next (lS SC (L.map LD) (rows.map Zg) y5 x6 x7 x8 x9,G')/\Bk L rs G' 0 t 5 gs'/\Gs L gs'
 |[],x5,G,gs,_,c,d=>#[x5,G,gs,rfl,c,d]
 |g::b,x5,G,gs,a,c,d=>by
  obtain⟨m,e,n,f,i⟩:=zF h hr hl hp (SC:=SC) (x6:=x6) (x7:=x7) (x8:=x8) (x9:=x9) c d (a g Ba)
  obtain⟨y5,G',gs',o,j,l⟩:=ja (SC:=SC) (x6:=x6) (x7:=x7) (x8:=x8) (x9:=x9) b (.val (Am g)) m e (λk p=>a k (Be _ p)) f i
  refine#[y5,G',gs',?_,j,l]
  unfold lS at *
  erw[AS,GI,Ey,En,n]
  exact o
set_option tactic.hygienic true in
theorem jb:∀(n k:Nat)(x5 x6 x7 x8 x9:IV)(G:Gh)(gs:U (U Nat)),k+n<=1000->Bk L rs G 0 t 5 gs->Gs L gs ->
  ∃y5 y6 y7 y8 y9 G' gs',GI 6 QS ((Fc k n).map λk:Nat=>D.int (k:Int)) (lS (ns.map D.int) (L.map LD) (rows.map Zg) x5 x6 x7 x8 x9,G)=.next (lS (ns.map D.int) (L.map LD) (rows.map Zg) y5 y6 y7 y8 y9,G')/\Bk L rs G' 0 t 5 gs'/\Gs L gs'
 |0,k,x5,x6,x7,x8,x9,G,gs,_,a,b=>#[x5,x6,x7,x8,x9,G,gs,rfl,a,b]
 |n+1,k,x5,x6,x7,x8,x9,G,gs,i,a,b=>by
  obtain⟨j,l,m,o,p,c,q,d,e⟩:=zC (ns:=ns) (x5:=x5) (x7:=x7) (x8:=x8) (x9:=x9) h hr hl hp a b k (Dz i)
  obtain⟨y5,y6,y7,y8,y9,G',gs',r,f,g⟩:=jb n (k+1) j ‹(k:Int)› l m o p c (by lia) d e
  refine#[y5,y6,y7,y8,y9,G',gs',?_,f,g]
  unfold lS at *
  erw[Lk,AS,GI,Ey,En,q]
  exact r
theorem zG{G:Gh}(m:Bk L rs G 0 t 5 gs)(n:Gs L gs):∃y5 G' gs',QT (lS (ns.map D.int) (L.map LD) (rows.map Zg) .no .no .no .no .no,G)=.next (lS (ns.map D.int) (L.map LD) (rows.map Zg) y5 .no .no .no .no,G')/\Bk L rs G' 0 t 5 gs'/\Gs L gs':=by
 have o:=On #v[ns.map D.int] ns (.inl rfl) 6 (by ext);generalize ns.getD (6:Int).toNat 0=c at *;have p:=Ds c 4 (by ext);by_cases q:c%4=1
 ·obtain⟨ga,b,r⟩:=y3 h;have a:D3 (.lst<|DT J J (-1)<|ga.map Am) J (Z 16)=Z (.lst<|((DT J J (-1) ga).take 16).map Am):=by
   show Z (D.lst<|EX (DT J J (-1)<|ga.map Am) J<|some 16)=_
   rw[cE _ _ (by ext),zD,List.map_take];rfl
  obtain⟨y5,G',gs',e,f,i⟩:=ja h hr hl hp (SC:=ns.map D.int) (x6:=.no) (x7:=.no) (x8:=.no) (x9:=.no) ((DT J J (-1) ga).take 16) .no G gs (λg s=>b g<|zE<|List.mem_of_mem_take s) m n;refine⟨y5,G',gs',?_,f,i⟩;have j:Bu (.int<|c%4) (.int 1)=Z (.bl J'):=by rw[q];rfl
  have u:HA (Z<|.int 1)=Z (.int (-1)):=rfl;have k:DG (Z<|.int 16)=Z (Z 16):=rfl;have w:¬ (-1:Int)=0:=by ext
  have x:A9 1 (.lst<|((DT J J (-1) ga).take 16).map Am)=J':=by
   show(!vk 1 .l&&Dn 1 (((DT J J (-1) ga).take 16).map Am))=J'
   rw[HQ λd hd=>by obtain⟨g,_,rfl⟩:=Bp.mp hd;rw[<- GN];exact Jk 1 _];rfl
  unfold lS at *;rwa[QT,BE,C7,o,p,j,DR,PJ,r,u,if_neg w,k,a,x,Mi,K5,e]
 ·have j:Bu (.int<|c%4) (.int 1)=Z (.bl O'):=by simp[q]
  refine#[.no,G,gs,?_,m,n];unfold lS;rwa[QT,BE,C7,o,p,j]
theorem zH{G:Gh}{y5:IV}(v:ns.length<=63)(n:Bk L rs G 0 t 5 gs)(o:Gs L gs):∃a y6 y7 y8 y9 G' gs',V3 (lS (ns.map D.int) (L.map LD) (rows.map Zg) y5 .no .no .no .no,G)=.next (lS (ns.map D.int) (L.map LD) (rows.map Zg) a y6 y7 y8 y9,G')/\Bk L rs G' 0 t 5 gs'/\Gs L gs':=by
 have b:D3 (.lst<|ns.map D.int) (Z 7) (Z 27)=Z (.lst<|((ns.drop 7).take 20).map D.int):=by
  show Z (D.lst<|EX (ns.map D.int) (Z 7)<|some 27)=_
  rw[T4,u6 _ _ _ (by lia) (by lia)];rfl
 have p:((ns.drop 7).take 20).length<=20:=by simp;lia
 have d:Zr [.lst<|((ns.drop 7).take 20).map D.int]=Z (.int (((ns.drop 7).take 20).length:Int)):=by
  show Z (D.int ((((ns.drop 7).take 20).map D.int).length:Int))=_
  rw[Bi]
 generalize ((ns.drop 7).take 20).length=m at *;generalize ((ns.drop 7).take 20).map D.int=w at *;obtain⟨N,q,r⟩:∃N:Nat,L0 [.int (m:Int),.int 3]=Z (.int (N:Int))/\N<=20:=by
  refine#[if 3>m then 3 else m,?_,by split<;>lia];show Z (D.int<|if(3:Int)>(m:Int)then 3 else(m:Int))=_
  by_cases c:3>m
  ·rw[if_pos c,if_pos (by lia)];rfl
  ·rw[if_neg c,if_neg (by lia)]
 have f:PR (.int (N:Int))=Z ((Fc 0 N).map λk:Nat=>D.int (k:Int)):=by
  show gd (-1000000000<=(N:Int)/\(N:Int)<1000000000) (Z<|Hz 0 (N:Int).toNat)=_
  rw[LX (by lia),GD,u5,Ll];congr 1;exact Wr λk _=>by rw[Int.zero_add]
 obtain⟨a,y6,y7,y8,y9,G',gs',e,g,j⟩:=jb h hr hl hp (ns:=ns) N 0 y5 .no .no .no .no G gs (by lia) n o;refine#[a,y6,y7,y8,y9,G',gs',?_,g,j];have s:DG (Z<|.int 7)=Z (Z 7):=rfl;have l:DG (Z<|.int 27)=Z (Z 27):=rfl;have u:∀i,A9 2 (.int i)=J':=λ_=>rfl;unfold lS at *;generalize ns.map D.int=S at *;generalize ((Fc 0 N).map λk:Nat=>D.int (k:Int))=x at *;erw[V3,vw,AS,C1,BE,C7,Zk,DR,Zh,CL,AU,CC,Cw,BH,Ci,s,l,b,EU,pk,d,q,jE,jO,u,if_true,f,K5,e]
theorem zI{G:Gh}{y5 y6 y7 y8 y9:IV}(k:Bk L rs G 0 t 5 gs)(m:Gs L gs):V4 (lS SC (L.map LD) (rows.map Zg) y5 y6 y7 y8 y9,G)=.ret (.val (.bl J')) G:=by
 have u:=Ki 2 (by ext) k.b0 k.t0;have vq:=F3 k.q0;have n:=ZA (b:=Zc 0) (e:=VX) (ρ:=[.no,.val<|BD L (rs.map Zg)<|Zb<|AJ L rs gs,#v[L.map LD],#v[rows.map Zg]]) Am (λ_=>D.bl J') gs λg o=>#[[.val<|Am g,.val<|BD L (rs.map Zg)<|Zb<|AJ L rs gs,#v[L.map LD],#v[rows.map Zg]],rfl,by
  have i:=m.ok g o;have p:=iy (R:=rs.map Zg) (rs:=rs) (gs:=gs) (Kg h i) o;have l:=hW h i.1 rows hr hl;have q:=iT h i.1 hr hl;rw[iK i.1 hr hp]at p;have j:Fu "Book" "table" (.val<|BD L (rs.map Zg)<|Zb<|AJ L rs gs)=J':=by rwa[Fu,WN]
  unfold Fe at q;rwa[VX,DL,j,p,HU,l,q]]
 have w:gs.map (λ_=>D.bl J')=(gs.map λ_=>J').map D.bl:=by rw[CP];rfl
 rw[w]at n;have x:=Rf gs;have y:=Zp (gs.map Am) (by have:=m.le;simp;lia);have z:∀b,A9 2 (.bl b)=J':=λ_=>rfl;generalize rows.map Zg=r,L.map LD=s,gs.map Am=W,BD L (rs.map Zg) (Zb<|AJ L rs gs)=B,(gs.map λ_=>J').map D.bl=C at *;have j:∀a b c d e f:Sl,Zt 1 [2,1,3] [a,#v[s],.val B,#v[r],#v[W],b,c,d,e,f]=[.no,.val B,#v[s],#v[r]]:=λ_ _ _ _ _ _=>rfl;rwa[V4,BE,u,vq,Zn,j,y,n,x,z,CH]
end
theorem jc{L:A2}(h:BY L)(ns:U Int)(c:Int)(b:ZP [#v[ns.map D.int],‹5›]=Z ‹c›):∀n k:Nat,k+n<=100->∃a:U Row,a.length=n/\(∀r∈a,AZ L r.1)/\ZX (Zc 0) (λ_=>Z J') QQ [.no,#v[L.map LD],#v[ns.map D.int]] ((Fc k n).map λk:Nat=>D.int (k:Int))=Z (a.map Zg)
 |0,k,_=>#[[],rfl,λ_ h=>(nomatch h),rfl]
 |n+1,k,m=>by
  obtain⟨a,d,o,f⟩:=jc h ns c b n (k+1) (by lia);obtain⟨r,p,e⟩:=yb h<|c/((k:Int)+1)+(k:Int);refine⟨r::a,by simp[d],λq s=>?_,?_⟩
  ·grind [Bo]
  ·have g:Zu (.int (k:Int)) (.int 1)=Z (.int<|(k:Int)+1):=rfl;have i:=Mq c ((k:Int)+1) (Int.succ_ofNat_pos k) (by lia);have j:Zu (.int<|c/((k:Int)+1)) (.int (k:Int))=Z (.int<|c/((k:Int)+1)+(k:Int)):=rfl;have l:QQ [‹(k:Int)›,#v[L.map LD],#v[ns.map D.int]]=Z (Zg r):=by
    rwa[QQ,b,g,i,j,e]
   rwa[Lk,ZX,l,f]
theorem zJ(r:Row):Zu (.tup [.str "+"]) (Zg r)=Z (EM r):=by
 rfl
theorem zK(a:U Row):A9 1 (.lst (a.map EM))=J':=by
 show(!vk 1 .l&&Dn 1 (a.map EM))=J'
 rw[HQ λd hd=>by
  obtain⟨r,_,rfl⟩:=Bp.mp hd;show(A9 1 (.str "+")&&(A9 1 (Aj r.1)&&(A9 1 (.int r.2)&&J')))=J'
  rw[Jk];rfl];rfl
theorem zL(ns:U Int)(hn:ns.length<=63):∃G',fj [#v[ns.map D.int]] []=Z (.val (.bl J'),G'):=by
 obtain⟨L,h,eL⟩:=wH ns;have h4:=h.n4;have M:=On #v[ns.map D.int] ns (.inl rfl) 5 (by ext);generalize ns.getD (5:Int).toNat 0=c at *;have N:=Ds c 9 (by ext);have j1:=Ib c (show(0:Int)<9 by ext);obtain⟨n,t⟩:∃n:Nat,c%9=(n:Int):=#[(c%9).toNat,by lia];rw[t]at N j1;obtain⟨a,hrl,m,er⟩:=jc h ns c M n 0 (by lia);have o:a.length<64:=by lia
 obtain⟨u,ep⟩:=zo h a m o;have w:(Zz C0 a).Perm a:=ZE C0 a;have ei:=ze h;obtain⟨p,i⟩:∃p:Gh,p=[BP L ((Zz C0 a).map Zg) 3,.dat .d<|Zb<|AJ L [] [zg L],.dat .l<|a.map Zg,.dat .d<|Zb<|AJ L (Zz C0 a) [zg L],.dat .l u,.dat .l [CF L]]:=#[_,rfl];have K:Bk L (Zz C0 a) p 0 3 5 [zg L]:=by
  rw[i];exact#[rfl,rfl,by show Z (Cl.dat .l [CF L])=Z (Cl.dat .l [Am<|zg L]);rw[Kj],by ext,by ext,by ext]
 have Q:Gs L [zg L]:=#[by simp,λg T=>by
  simp at T;subst T;exact DW.of (by simp) λk h1 h2=>by simp,by simp,by simp]
 obtain⟨x,G6,gs6,P,y,z⟩:=zG h m o w (ns:=ns) K Q;obtain⟨z5,z6,z7,z8,z9,Y,gs7,e6,A,B⟩:=zH h m o w (ns:=ns) (y5:=x) hn y z;have e7:=zI h m o w (SC:=ns.map D.int) (y5:=z5) (y6:=z6) (y7:=z7) (y8:=z8) (y9:=z9) A B;refine#[Y,?_];have fL:=W0 L;have C:A9 1 (.lst<|L.map LD)=J':=by
  show(!vk 1 .l&&Dn 1 (L.map LD))=J'
  rw[fL];rfl
 have qL:=Zp (L.map LD) (by simp;lia);have E:=ZA (b:=Zc 0) (e:=eV) (ρ:=[.no]) LD LD L λG _=>#[[.val<|LD G],rfl,rfl];have H:=ZA (b:=Zc 0) (e:=VW) (ρ:=[.no]) Zg EM a λr _=>#[[.val<|Zg r],rfl,by
  have q:Ze (Z [D.str "+"])=Z [.str "+"]:=Zp _ (by simp);have s:∀d:D,Zj [Sl.val d]=Z [d]:=λ_=>rfl;have:=zJ r;rwa[VW,s,q,this]]
 have R:=ZA (b:=Zc 0) (e:=eW) (ρ:=[.no]) LD (λ_=>D.int 0) L λG _=>#[[.val<|LD G],rfl,rfl];have qR:=Zp (a.map Zg) (by simp;lia);have fR:=i7 a;have fP:=zK a;have j:=J2 (n:Int) (by lia) (by lia);rw[GD,Ll]at j;have qN:=Zp ((Fc 0 n).map λk:Nat=>D.int (k:Int)) (by simp;lia);have s:∀d:D,Zj [Sl.val d]=Z [d]:=λ_=>rfl;have ht:D5 [.lst<|L.map λ_=>D.int 0]=Z (CF L):=rfl;have ql:Ze (Z [CF L])=Z [CF L]:=Zp _ (by simp);have fl:Dn 2 [CF L]=J':=by
  show(A9 2 (CF L)&&J')=J'
  grind [Kj,W4]
 have p0:VY ([#v[ns.map D.int],.no,.no,.no,.no,.no,.no,.no,.no,.no],[])=.next ([#v[ns.map D.int],#v[L.map LD],.no,.no,.no,.no,.no,.no,.no,.no],[]):=by
  rwa[VY,BE,C7,Fn,eL,LU,jG,jL,fL,xF]
 have p1:VZ ([#v[ns.map D.int],#v[L.map LD],.no,.no,.no,.no,.no,.no,.no,.no],[])=.next ([#v[ns.map D.int],#v[L.map LD],.cel 0,.no,.no,.no,.no,.no,.no,.no],[BP L [] 1,.dat .d<|Zb<|AJ L [] [zg L]]):=by
  generalize Zb (AJ L [] [zg L])=T1,D.lst (ns.map D.int)=S at *;have f:Zt 1 [] [.val S,#v[L.map LD],.no,.no,.no,.no,.no,.no,.no,.no]=[.no]:=rfl;rwa[VZ,BE,C7,Zn,f,qL,E,C,PU,Ea,ei]
 have p2:V0 ([#v[ns.map D.int],#v[L.map LD],.cel 0,.no,.no,.no,.no,.no,.no,.no],[BP L [] 1,.dat .d<|Zb<|AJ L [] [zg L]])=.next ([#v[ns.map D.int],#v[L.map LD],.cel 0,#v[a.map Zg],.no,.no,.no,.no,.no,.no],[BP L [] 1,.dat .d<|Zb<|AJ L [] [zg L]]):=by
  have f:∀V:Sl,Zt 1 [1,0] [#v[ns.map D.int],#v[L.map LD],V,.no,.no,.no,.no,.no,.no,.no]=[.no,#v[L.map LD],#v[ns.map D.int]]:=λ_=>rfl;rwa[V0,BE,C7,Zn,f,M,N,s,j,qN,er,jG,jL,fR,xF]
 have p3:V1 ([#v[ns.map D.int],#v[L.map LD],.cel 0,#v[a.map Zg],.no,.no,.no,.no,.no,.no],[BP L [] 1,.dat .d<|Zb<|AJ L [] [zg L]])=.next ([#v[ns.map D.int],#v[L.map LD],.cel 0,#v[a.map Zg],.no,.no,.no,.no,.no,.no],[BP L ((Zz C0 a).map Zg) 3,.dat .d<|Zb<|AJ L [] [zg L],.dat .l<|a.map Zg,.dat .d<|Zb<|AJ L (Zz C0 a) [zg L],.dat .l u]):=by
  have hi:Em "Book" "pour" (BP L [] 1)=J':=by rwa[Em,zn]
  have l0:(0:Nat)<2:=by ext
  generalize ns.map D.int=S,a.map Zg=F,a.map EM=PL,(Zz C0 a).map Zg=R2,Zb (AJ L (Zz C0 a) [zg L])=T2,Zb (AJ L [] [zg L])=T1 at *;have f:∀V:Sl,Zt 1 [] [#v[S],#v[L.map LD],V,#v[F],.no,.no,.no,.no,.no,.no]=[.no]:=λ_=>rfl;rwa[V1,BE,C7,Zn,f,qR,H,fP,Gq,hi,Hl,F1,l0,and_self,ep,Fx]
 have p4:V2 ([#v[ns.map D.int],#v[L.map LD],.cel 0,#v[a.map Zg],.no,.no,.no,.no,.no,.no],[BP L ((Zz C0 a).map Zg) 3,.dat .d<|Zb<|AJ L [] [zg L],.dat .l<|a.map Zg,.dat .d<|Zb<|AJ L (Zz C0 a) [zg L],.dat .l u])=.next (lS (ns.map D.int) (L.map LD) (a.map Zg) .no .no .no .no .no,p):=by
  rw[i];clear K Q P i;generalize ns.map D.int=S,a.map Zg=F,(Zz C0 a).map Zg=R2,Zb (AJ L (Zz C0 a) [zg L])=T2,Zb (AJ L [] [zg L])=T1 at *;have f:∀V:Sl,Zt 1 [] [#v[S],#v[L.map LD],V,#v[F],.no,.no,.no,.no,.no,.no]=[.no]:=λ_=>rfl;rwa[V2,BE,C7,Zn,f,qL,R,ht,s,ql,jG,jL,fl,xC,Ga,Ea,Hl,F1]
 have e:V5 ([#v[ns.map D.int],.no,.no,.no,.no,.no,.no,.no,.no,.no],[])=.ret (.val<|.bl J') Y:=by
  rw[V5,fh,p0,Zl,fg,p1,Zl,e9,p2,Zl,e8,p3,Zl,e5,p4,Zl,eZ,P,Zl,eY,e6,Zl,eX,e7];rfl
 exact Eq.trans (fi rfl e) rfl
noncomputable def Bl(i:Nat):Az:=PySem.Challenge.pw_cubebook_k54_kept_and_forgotten.main.body.getD i (.Pass #[0,0,0,0])
noncomputable abbrev jd:U Ae:=["ladder","level","other"]
abbrev je:U Ae:=["ladder","level","value"]
noncomputable abbrev jf:U Ae:=["ladder","level","thing"]
abbrev jg:U Ae:=["ladder","thing"]
abbrev jh:U Ae:=["ladders","thing"]
abbrev ji:U Ae:=["ladders","grain","to"]
abbrev jj:U Ae:=["ladders","rows","grain"]
abbrev jl:U Ae:=["ladders","thing"]
abbrev jm:U Ae:=["ladders","thing"]
abbrev jn:U Ae:=["standing","row"]
abbrev jo:U Ae:=["standing","row"]
abbrev jq:U Ae:=["ladders","rows","changes"]
abbrev jr:U Ae:=["ladders","rows","grains"]
abbrev js:U Ae:=["ahead","behind"]
abbrev jt:U Ae:=["ahead","behind"]
abbrev ju:U Ae:=["self","ladders"]
abbrev jv:U Ae:=["self","changes"]
abbrev jw:U Ae:=["_law_script","_law_k"]
abbrev jx:U Ae:=["_law_cell_here","_law_many"]
abbrev jy:U Ae:=["_law_cell_here","_law_way","_law_k"]
abbrev jz:U Ae:=["_law_cell_here"]
noncomputable abbrev jA:U Ae:=["_law_ladder_here","_law_value","_law_level"]
noncomputable abbrev jB:U Ae:=["_law_ladders_here","_law_key","_law_grain_here"]
abbrev jC:U Ae:=["_law_ladders_here","_law_cell_here"]
abbrev jD:U Ae:=["_law_ladders_here","_law_cell_here"]
abbrev jF:U Ae:=["_law_ladders_here","_law_rows","_law_grain_here"]
abbrev jH:U Ae:=["_law_one","_law_other"]
abbrev jI:U Ae:=["_law_one","_law_other"]
abbrev jJ:U Ae:=["_law_table","_law_cells_here"]
abbrev jK:U Ae:=["_law_grain_here","_law_cell_here"]
abbrev jM:U Ae:=["_law_book","_law_word","_law_grain_here"]
noncomputable abbrev jN:U Ae:=["_law_book","_law_ladders_here","_law_rows","_law_grains","_law_word","_law_grain_here","_law_good"]
abbrev jP:U Ae:=["_law_ladders_here"]
abbrev fe(a:Ae)(s:Az)(p:U Ae):Ae×Az×U Ae:=(a,s,p)
abbrev me(a b:Ae)(s:Az)(p:U Ae):Ae×Ae×Az×U Ae:=(a,b,s,p)
def FT:U (Ae×Az×U Ae):=[fe "is_whole" (Bl 5) ["thing"],fe "is_word" (Bl 6) ["thing"],fe "is_value" (Bl 7) ["thing"],fe "value_rank" (Bl 9) ["thing"],fe "key_rank" (Bl 10) ["key"],fe "in_order" (Bl 11) ["keys"],fe "is_line" (Bl 15) ["thing"],fe "go_together" (Bl 16) ["lines"],fe "is_ladder" (Bl 17) ["thing"],fe "whole_of" (Bl 18) ["ladder"],fe "line_at" (Bl 19) ["line","level"],fe "values_in_order" (Bl 20) ["values"],fe "lifts" (Bl 21) jd,fe "beneath" (Bl 22) je,fe "is_value_at" (Bl 23) jf,fe "is_level" (Bl 35) jg,fe "is_grain" (Bl 36) jh,fe "finest" (Bl 37) ["ladders"],fe "cell_of" (Bl 39) ["amounts"],fe "merged" (Bl 40) ["one","other"],fe "ways_up" (Bl 42) ji,fe "goes_along" (Bl 43) ["ways","key"],fe "merged_along" (Bl 44) ["ways","table"],fe "table_of" (Bl 45) jj,fe "is_finest_key" (Bl 48) jl,fe "is_change" (Bl 49) jm,fe "row_rank" (Bl 50) ["row"],fe "put_in" (Bl 51) jn,fe "take_out" (Bl 52) jo,fe "poured" (Bl 53) jq,fe "tables_at" (Bl 54) jr,fe "keys_changed" (Bl 55) js,fe "cells_changed" (Bl 56) jt,fe "are_ladders" (Bl 60) ["thing"],fe "_law_cell_at" (Bl 63) jw,fe "_law_stream" (Bl 64) jx,fe "_law_named" (Bl 65) jy,fe "_law_ladder" (Bl 66) jz,fe "_law_ladders" (Bl 67) ["_law_script"],fe "_law_up" (Bl 68) jA,fe "_law_key_at" (Bl 69) jB,fe "_law_grain" (Bl 70) jC,fe "_law_row" (Bl 71) jD,fe "_law_cell" (Bl 72) ["_law_amounts"],fe "_law_cells" (Bl 73) jF,fe "_law_thing_ahead" (Bl 74) jH,fe "_law_ahead" (Bl 75) jI,fe "_law_whole" (Bl 76) ["_law_thing"],fe "_law_is_table" (Bl 77) jJ,fe "_law_no_grain" (Bl 78) jK,fe "_law_outcome" (Bl 79) jM,fe "_law_refusal" (Bl 80) ["_law_k"],fe "_law_deed" (Bl 81) jN,fe "_law_all_grains" (Bl 82) jP,fe "law" (Bl 83) ["_law_script"]]
def MT:U (Ae×Ae×Az×U Ae):=[me "__init__" "Book.__init__" (Jx (Bl 61) 0) ju,me "kept" "Book.kept" (Jx (Bl 61) 3) ["self"],me "pour" "Book.pour" (Jx (Bl 61) 4) jv,me "keep" "Book.keep" (Jx (Bl 61) 5) ["self","grain"],me "forget" "Book.forget" (Jx (Bl 61) 6) ["self","grain"],me "table" "Book.table" (Jx (Bl 61) 9) ["self","grain"],me "is_kept" "Book.is_kept" (Jx (Bl 61) 12) ["self","thing"],me "tables_renewed" "Book.tables_renewed" (Jx (Bl 61) 14) ["self"]]
noncomputable abbrev XT:U Ae:=["NoGrain","NoLadder","NoPick","NoRow","NoSuch","NoText","NoValue","TooMuch"]
structure Tx(K:Ao)(mg:Bx)(d:Ac):Prop where
 cb:CI K mg "Book" d
 na_axes:BF K d "axes"
 na_standing:BF K d "standing"
 na_tables:BF K d "tables"
 f:All (DX K mg) FT
 m:All (MX K d) MT
 n:All (λx=>mg x=J) ["ValueError","all","any","bool","dict","enumerate","int","isinstance","len","list","max","min","range","sorted","str","sum","tuple","zip"]
 g:All (λx=>∃u,mg x.1=Z u/\RelV x.2 u) [("FIGURES",(.str "0123456789")),("LETTERS",(.str "abcdefghijklmnopqrstuvwxyz")),("LONGEST_LINE",(.int 4)),("LONGEST_WORD",(.int 12)),("MOST_LADDERS",(.int 4)),("MOST_LINES",(.int 40)),("MOST_ROWS",(.int 200)),("MOST_TABLES",(.int 12))]
 z:XX K mg "CubeError"
 x:All (XX K mg) XT
 y:All (YY K XT) CS
set_option tactic.hygienic true
section
variable{P:AM}{w:Ai}{K:Ao}{mg:Bx}{base:Ak}{d:Ac}(T:Tx K mg d)
include T
set_option hygiene false in
local macro_rules | `(tactic|exists $a,$b,*)=>do let c <- b.getElems.mapM λx=>`(tactic|with_reducible refine $a h r ($x T) ?_ ?_ ?_ ?_ ?_);`(tactic|first $[| $c:tactic]*)
local macro_rules | `(tactic|exists $t)=>`(tactic|with_reducible show JE _ _ (tD _ _ _ (Zk $t _)))
local macro_rules | `(mutual $c* end)=>return Lean.mkNullNode (<- c[1:].toArray.mapM (·.raw.replaceM λ| `(tactic|trivial)=>return c[0]!.raw.find? (·.isOfKind ``Lean.Parser.Tactic.paren)|_=>return none))
mutual
example:=by(intros;rename_i h r;repeat' first
 |(refine(?_:JB _ _ _);first|exact oi|with_reducible refine Ys ?_ ?_|refine Ys ?_ ?_|exact tV|with_reducible refine ck ?_ ?_|refine ck ?_ ?_)
 |(refine(?_:JA _ _ _);first|exact Sq|refine O0 ?_ ?_|exact cg|refine cj ?_ ?_)
 |(refine(?_:JE _ _ (Gz _ _ _ _));first|exact SI _|refine Yo ?_)
 |(refine(?_:JE _ _ (tP _ _ _ _));first|exact pQ _|exact rX|refine Yj ?_)
 |(refine(?_:JE _ _ (tQ _ _ _ _));first|exact pR _|refine oC ?_)
 |(refine(?_:JE _ _ (EZ _ _));first|exact tR|refine tT T.cb.cof T.cb.cl (by first|exact T.na_axes|exact T.na_standing|exact T.na_tables) ?_)
 |(refine(?_:JE _ _ (tJ _ _));first|refine tH _ λ_ _=>?_)
 |(refine(?_:JS _ _ (tS _ _ _ (Hj _ _)));first|refine uW ?_)
 |(refine(?_:JS _ (.Return _ _) _);first|refine oj ?_|exact pS _|refine om ?_|exact rn _|refine ol ?_|refine tZ ?_)
 |(refine(?_:JS _ (.If _ _ _ _) _);first|refine on ?_ ?_ ?_|refine qO ?_ ?_ ?_|refine tY (b5 _ λ_ _=>?_) ?_ ?_|refine uI ?_ ?_ ?_)
 |(refine(?_:JS _ (.Assign [.Name _ _] (.ListComp _ _ _ _) _) _);first|refine' uO h (NK (by decide +kernel)) rfl rfl rfl rfl ?_ (NL h (by decide +kernel) (λ_ _ _ _ _ _ _ h=>?_) (λ_ _ _ _ _ _ _ h=>?_) (λ_ _ _ _ _ _ _ h=>?_)) ?_|refine' uL h (NK (by decide +kernel)) rfl rfl rfl rfl ?_ (NL h (by decide +kernel) (λ_ _ _ _ _ _ _ h=>?_) (λ_ _ _ _ _ _ _ h=>?_) (λ_ _ _ _ _ _ _ h=>?_)) ?_|refine' uM h (NK (by decide +kernel)) rfl rfl rfl rfl ?_ (NL h (by decide +kernel) (λ_ _ _ _ _ _ _ h=>?_) (λ_ _ _ _ _ _ _ h=>?_) (λ_ _ _ _ _ _ _ h=>?_)) ?_|refine cm h.nd ?_)
 |(refine(?_:JS _ (.Assign [.Name _ _] _ _) _);first|refine r0 _ h.nd ?_|refine ov h.nd rfl (by first|exact Or.inl rfl|exact Or.inr rfl) ?_|refine ot h.nd rfl (by first|exact Or.inl rfl|exact Or.inr rfl) ?_|refine cm h.nd ?_)
 |(refine(?_:JS _ (.Assign [.Attribute _ _ _] _ _) _);first|refine uh T.cb.cof T.cb.cl (by first|exact T.na_axes|exact T.na_standing|exact T.na_tables) ?_ ?_)
 |(refine(?_:JS _ (.Assign _ _ _) _);first|refine qd ?_ ?_|refine qI r.units ?_ ?_|refine uk r.units ?_ ?_ ?_)
 |(refine(?_:JS _ (.For _ _ _ _ _) _);first|refine' sR r.units PassesOwn.never rfl ?_ (λ_=>?_) (λ_=>?_) (λ_=>?_) ?_|refine' sD PassesOwn.never rfl ?_ (λ_=>?_) (λ_=>?_)|refine' oB PassesOwn.never rfl ?_ ?_ ?_|refine t8 PassesOwn.never rfl ?_ h.nd ?_)
 |(refine(?_:JS _ (.Expr _ _) _);first|refine oz EF ?_|refine qc ?_|refine t5 ?_)
 |(refine(?_:JS _ _ _);first|exact ro|exact tW|(obtain⟨_,q1,q2⟩:=u0 T.z T.y;refine uH _ CS Me rfl rfl ?_ ?_ q1 (by rfl) q2 h.nd rfl rfl (λ_=>?_)))
 |(refine(?_:JT _ (.Compare _ _ _ _) _);first|refine pX r.units ?_ ?_|refine pY r.units ?_ ?_|refine pZ r.units ?_ ?_|refine p5 r.units ?_ ?_|refine p6 r.units ?_ ?_|refine p7 r.units ?_ ?_|refine qG r.units ?_ ?_|refine qF r.units ?_ ?_|refine nQ ?_|refine nR ?_|refine qM r.units ?_ ?_)
 |(refine(?_:JT _ (.UnaryOp _ _ _) _);first|refine nz ?_)
 |(refine(?_:JT _ (.BoolOp _ _ _) _);first|refine ag ?_)
 |(refine(?_:JT _ _ _);first|refine qa ?_|refine ag ?_)
 |(refine(?_:JW _ _ _);first|refine nH ?_ ?_|refine nB ?_|refine nG ?_ ?_|refine nA ?_)
 |(refine(?_:JI _ _ _ _);first|refine oK (by rfl) (T.n.get 12 rfl) ?_|refine oM (by rfl) (T.n.get 12 rfl) ?_|refine sP (by rfl) (T.n.get 17 rfl) ?_ ?_|refine tw (by rfl) (T.n.get 5 rfl) ?_|refine qb ?_|refine t6 ?_|refine t7 (by rfl) (T.n.get 12 rfl) ?_)
 |(refine(?_:JG _ _ _);first|exact rZ _ h.nd|refine' oQ rfl ?_)
 |(refine(?_:JK _ _ _);first|exact oO|refine' oP ?_ ?_)
 |(refine(?_:JF _ _ _);first|exact oR|refine oU ?_)
 |(refine(?_:JE _ (.Name _ _) _);first|exact pP _|exact pO (by rfl) (by first|exact T.g.get 0 rfl|exact T.g.get 1 rfl|exact T.g.get 2 rfl|exact T.g.get 3 rfl|exact T.g.get 4 rfl|exact T.g.get 5 rfl|exact T.g.get 6 rfl|exact T.g.get 7 rfl) (λ_ _=>by erw[As])|exact af (by rfl) (T.n.get 16 rfl) (by rfl)|refine b9 ?_|refine TJ ?_)
 |(refine(?_:JE _ (.Constant _ _ _) _);first|exact Yk|exact nv|exact nt|exact nu|refine TJ ?_)
 |(refine(?_:JE _ (.ListComp _ _ _ _) (Fm _ _ _ _ _));first|refine' uN h (NK (by decide +kernel)) rfl rfl ?_ (NL h (by decide +kernel) (λ_ _ _ _ _ _ _ h=>?_) (λ_ _ _ _ _ _ _ h=>?_) (λ_ _ _ _ _ _ _ h=>?_)) ?_|refine' uK h (NK (by decide +kernel)) rfl rfl ?_ (NL h (by decide +kernel) (λ_ _ _ _ _ _ _ h=>?_) (λ_ _ _ _ _ _ _ h=>?_) (λ_ _ _ _ _ _ _ h=>?_)) ?_)
 |(refine(?_:JE _ (.Subscript _ _ _) _);first|refine rY ?_ ?_|refine qD r.units ?_ ?_ (λ_ _=>rfl)|refine pA ?_ ?_ ?_|refine sA ?_ ?_ ?_ ?_)
 |(refine(?_:JO _ _ _);first|refine py ?_|exact px)
 |(refine(?_:JE _ (.BinOp _ _ _ _) _);first|refine pi ?_ ?_|refine o9 ?_ ?_|refine o7 ?_ ?_|refine o8 ?_ ?_|refine o6 ?_ ?_|refine pa ?_ ?_)
 |(refine(?_:JE _ (.UnaryOp _ _ _) _);first|refine pc ?_|refine nI ?_)
 |(refine(?_:JE _ (.BoolOp _ _ _) _);first|refine nK ?_ ?_|refine nM ?_ ?_|refine nJ ?_)
 |(refine(?_:JE _ (.Compare _ _ _ _) _);first|refine pT r.units ?_ ?_|refine pW r.units ?_ ?_|refine pU r.units ?_ ?_|refine pV r.units ?_ ?_|refine qE r.units ?_ ?_|refine nO ?_|refine nP ?_|refine p9 Xq Xq (M9 _) (M9 _) ?_ ?_ ?_)
 |(refine(?_:JE _ (.Tuple _ _ _) _);first|refine nW ?_)
 |(refine(?_:JE _ (.List _ _) (Fm _ _ _ _ _));first|refine nV ?_)
 |(refine(?_:JE _ (.Dict _ _ _) _);first|exact qH)
 |(refine(?_:JE _ (.IfExp _ _ _ _) _);first|refine nN ?_ ?_ ?_)
 |(refine(?_:JE _ (.Attribute _ _ _) _);first|refine se T.cb.cof T.cb.cl (by first|exact T.na_axes|exact T.na_standing|exact T.na_tables) ?_|refine b9 ?_)
 |(refine(?_:JE _ (.Call (.Name _ _) _ [] _) (tD _ _ _ (Zi _ _)));first|exists uP,zM,zN,zO,zP,zQ,zR,zS,zT,zU,zV,zW,zX,zY,zZ,Zp6,Zlg,Zmx,ZjJ,Zqp,ZnH,Zv5,ZqD,ZnC,ZnK,ZpR,Zsz,Zpw,jQ,ZsI,Zqj,ZsM,jR,Zlu,Zmv,Zn5,jS,ZmK,ZkT,Zsj,ZqF,ZlP,ZkK,ZpW)
 |(refine(?_:JE _ (.Call (.Name _ _) _ [] _) (Fm .l _ _ _ (Fn _ _)));first|exists uQ,Zmh,jS,Zi3,Zld,Zkh)
 |(refine(?_:JE _ (.Call (.Name _ _) _ [] _) (Fm .d _ _ _ (Hx _ _)));first|exists uR,jR,Zp2)
 |(refine(?_:JE _ (.Call (.Name _ _) _ [] _) (DM _ (λs=>Fy _ (_) s)));first|exists uS,ZuI,ZqE,Zmg,Zqm,ZuJ)
 |(refine(?_:JE _ (.Call (.Name _ _) _ [] _) _);first|exact rV _ (T.n.get 8 rfl)|exact rW _ (T.n.get 7 rfl) (by first|exact(T.n.get 6 rfl)|exact(T.n.get 3 rfl)|exact(T.n.get 16 rfl)|exact(T.n.get 9 rfl)|exact(T.n.get 14 rfl))|(exists Zr;refine GA Xx YW (by rfl) (T.n.get 8 rfl) (by rfl) ?_)|(exists FW;refine GA sX sY (by rfl) (T.n.get 8 rfl) (by rfl) ?_)|(exists EI;refine GA (Yf (b:=J') rfl) (YZ (b:=J')) (by rfl) (T.n.get 1 rfl) (by rfl) ?_)|(exists KI;refine GA (Yf (b:=O') rfl) (YZ (b:=O')) (by rfl) (T.n.get 2 rfl) (by rfl) ?_)|(exists Ni;refine GA (pI rfl) pL (by rfl) (T.n.get 15 rfl) (by rfl) ?_)|(exists L1;refine GA (Y1 (b:=J') rfl) (Y4 (b:=J')) (by rfl) (T.n.get 11 rfl) (by rfl) ?_)|(exists L3;refine GA (Y1 (b:=O') rfl) (Y4 (b:=O')) (by rfl) (T.n.get 10 rfl) (by rfl) ?_)|(exists Ph;refine GA (lE rfl) pG (by rfl) (T.n.get 11 rfl) (by rfl) ?_)|(exists L0;refine GA (lD rfl) pF (by rfl) (T.n.get 10 rfl) (by rfl) ?_)|(exists CN;refine GA ac ae (by rfl) (T.n.get 7 rfl) (by rfl) ?_)|(exists D5;refine Yq mG pD (by rfl) (T.n.get 16 rfl) (by rfl) ?_)|(exists intD;refine Yq lF pH (by rfl) (T.n.get 6 rfl) (by rfl) ?_)|refine Yr mF pC (by rfl) (T.n.get 9 rfl) (by rfl) ?_|refine Yr (rP rfl) rQ (by rfl) (T.n.get 9 rfl) (by rfl) ?_|refine rm rfl r.units (by rfl) (T.n.get 4 rfl) ?_|refine uq rfl r.units (by rfl) (T.n.get 13 rfl) (by rfl) ?_|exact uY (T.n.get 7 rfl) T.x T.y|exact uX (T.n.get 7 rfl) (T.n.get 0 rfl) (uZ T.y)|refine uT h r T.cb (Zoy T) rfl ?_)
 |(refine(?_:JE _ (.Call (.Name _ _) _ _ _) _);first|refine cD h r (jQ T) (T.n.get 13 rfl) rfl ?_|refine cD h r (ZqC T) (T.n.get 13 rfl) rfl ?_)
 |(refine(?_:JE _ (.Call (.Attribute _ _ _) _ _ _) _);first|refine TX h r T.cb (jU T) rfl ?_ ?_|refine TX h r T.cb (Zly T) rfl ?_ ?_|refine TX h r T.cb (ZnD T) rfl ?_ ?_|refine uU h r T.cb (jU T) rfl ?_|refine TY h r T.cb (Zqd T) rfl ?_ ?_|refine TY h r T.cb (Zms T) rfl ?_ ?_|refine TY h r T.cb (Zou T) rfl ?_ ?_|refine uV h r T.cb (Zgq T) rfl ?_|refine ah PySem.F.plainAttrs_str PySem.F.slot_str_find PySem.F.type_str_find m4 qg ?_ ?_|refine ah PySem.F.plainAttrs_str PySem.F.slot_str_join PySem.F.type_str_join m6 qf ?_ ?_|refine sG r.units ?_ ?_|refine ui ?_ ?_|refine uj r.units ?_ ?_|refine uz r.units ?_ ?_|refine aQ r.units ?_ ?_)
 |(refine(?_:JE _ _ (DM _ _));first|refine TJ ?_|refine tM (b4 _ λ_ _=>?_)|refine tN (b4 _ λ_ _=>?_))
 |(refine(?_:JE _ _ (tD _ _ _ _));first|refine nk ?_)
 |refine tU ?_
 |refine cf ?_
 |refine aQ r.units ?_ ?_
 |(refine(?_:IN _ _ _);first|exact uA|refine uC Me (b5 _ λ_ _=>?_) ?_ ?_|refine uB ?_)
 |(refine(?_:NJ _ _ _);first|refine uD ?_|refine u3 Me rfl T.x T.y (by rfl) ?_)
 |(refine(?_:PZ _ _ _);first|refine TZ h r T.cb Me (Zk5 T) rfl ?_ ?_|refine TZ h r T.cb Me (Zmu T) rfl ?_ ?_|refine TZ h r T.cb Me (ZnI T) rfl ?_ ?_)
 |rfl
 |exact FM
 |decide)
theorem zM:OF P w K mg base 1 "is_whole" (A1 K HV):=BJ ["thing"] (T.f.get 0 rfl) (by trivial)
theorem zN:OF P w K mg base 1 "is_word" (A1 K IT):=BJ ["thing"] (T.f.get 1 rfl) (by trivial)
theorem zO:OF P w K mg base 1 "whole_of" (A1 K P4):=BJ ["ladder"] (T.f.get 9 rfl) (by trivial)
theorem zP:OF P w K mg base 1 "line_at" (A1 K IU):=BJ ["line","level"] (T.f.get 10 rfl) (by trivial)
theorem zQ:OF P w K mg base 1 "finest" (A1 K Lc):=BJ ["ladders"] (T.f.get 17 rfl) (by trivial)
theorem zR:OF P w K mg base 1 "cell_of" (A1 K P5):=BJ ["amounts"] (T.f.get 18 rfl) (by trivial)
theorem zS:OF P w K mg base 1 "merged" (A1 K NQ):=BJ ["one","other"] (T.f.get 19 rfl) (by trivial)
theorem zT:OF P w K mg base 1 "goes_along" (A1 K P7):=BJ ["ways","key"] (T.f.get 21 rfl) (by trivial)
theorem ZuI:OF P w K mg base 1 "put_in" (Dj K T9):=NM jn (T.f.get 27 rfl) (by trivial)
theorem ZqE:OF P w K mg base 1 "take_out" (Dj K cL):=NM jo (T.f.get 28 rfl) (by trivial)
theorem jU:OM P w K mg base d Bm 1 "kept" (A1 K P8):=TV ["self"] (T.m.get 1 rfl) (by trivial)
theorem zU:OF P w K mg base 1 "_law_cell_at" (A1 K ZP):=BJ jw (T.f.get 34 rfl) (by trivial)
theorem zV:OF P w K mg base 1 "_law_stream" (A1 K HW):=BJ (jx.append ["_law_number","_law_found","_law_k"]) (T.f.get 35 rfl) (by trivial)
theorem zW:OF P w K mg base 1 "_law_named" (A1 K J3):=BJ (jy.append ["_law_signs","_law_size","_law_at","_law_word"]) (T.f.get 36 rfl) (by trivial)
theorem zX:OF P w K mg base 1 "_law_up" (A1 K Uc):=BJ (jA.append ["_law_line"]) (T.f.get 39 rfl) (by trivial)
theorem zY:OF P w K mg base 1 "_law_cell" (A1 K Qc):=BJ ["_law_amounts"] (T.f.get 43 rfl) (by trivial)
theorem zZ:OF P w K mg base 1 "_law_thing_ahead" (A1 K Ug):=BJ (jH.append ["_law_signs","_law_mine","_law_yours"]) (T.f.get 45 rfl) (by trivial)
theorem Zp6:OF P w K mg base 1 "_law_whole" (A1 K NS):=BJ ["_law_thing"] (T.f.get 47 rfl) (by trivial)
theorem Zlg:OF P w K mg base 1 "_law_no_grain" (A1 K Qe):=BJ (jK.append ["_law_some"]) (T.f.get 49 rfl) (by trivial)
theorem Zmx:OF P w K mg base 1 "_law_refusal" (A1 K Qf):=BJ ["_law_k"] (T.f.get 51 rfl) (by trivial)
theorem ZjJ:OF P w K mg base 1 "_law_all_grains" (A1 K Um):=BJ (jP.append ["_law_found","_law_ladder_here","_law_longer","_law_grain_here"]) (T.f.get 53 rfl) (by trivial)
theorem Zqp:OF P w K mg base 2 "is_value" (A1 K NT):=BJ ["thing"] (T.f.get 2 rfl) (by trivial)
theorem ZnH:OF P w K mg base 2 "value_rank" (A1 K Qi):=BJ ["thing"] (T.f.get 3 rfl) (by trivial)
theorem Zv5:OF P w K mg base 2 "lifts" (A1 K Qj):=BJ jd (T.f.get 12 rfl) (by trivial)
theorem ZqD:OF P w K mg base 2 "is_level" (A1 K Up):=BJ jg (T.f.get 15 rfl) (by trivial)
theorem ZnC:OF P w K mg base 2 "_law_ladder" (A1 K Qm):=BJ (jz.append ["_law_xs","_law_many","_law_places","_law_sizes","_law_j","_law_lines","_law_k","_law_line","_law_at"]) (T.f.get 37 rfl) (by trivial)
theorem ZnK:OF P w K mg base 2 "_law_key_at" (A1 K Us):=BJ jB (T.f.get 40 rfl) (by trivial)
theorem ZpR:OF P w K mg base 2 "_law_grain" (A1 K NY):=BJ (jC.append ["_law_xs"]) (T.f.get 41 rfl) (by trivial)
theorem Zsz:OF P w K mg base 2 "_law_row" (A1 K Uw):=BJ (jD.append ["_law_xs","_law_key"]) (T.f.get 42 rfl) (by trivial)
theorem Zpw:OF P w K mg base 2 "_law_ahead" (A1 K Ux):=BJ (jI.append ["_law_mine","_law_yours"]) (T.f.get 46 rfl) (by trivial)
theorem jQ:OF P w K mg base 3 "key_rank" (A1 K Mj):=BJ ["key"] (T.f.get 4 rfl) (by trivial)
theorem ZsI:OF P w K mg base 3 "is_line" (A1 K J4):=BJ ["thing"] (T.f.get 6 rfl) (by trivial)
theorem Zqj:OF P w K mg base 3 "is_grain" (A1 K ZD):=BJ jh (T.f.get 16 rfl) (by trivial)
theorem ZsM:OF P w K mg base 3 "ways_up" (A1 K Qq):=BJ ji (T.f.get 20 rfl) (by trivial)
theorem Zmh:OF P w K mg base 3 "_law_ladders" (A1 K NZ):=BJ ["_law_script","_law_many","_law_ladders_here"] (T.f.get 38 rfl) (by trivial)
theorem jR:OF P w K mg base 3 "_law_cells" (A1 K Qw):=BJ (jF.append ["_law_amounts","_law_key","_law_amount","_law_cells_here"]) (T.f.get 44 rfl) (by delta d6 Qv UO UN UM;trivial)
theorem Zlu:OF P w K mg base 3 "_law_is_table" (A1 K Mm):=BJ (jJ.append ["_law_k"]) (T.f.get 48 rfl) (by trivial)
theorem Zmv:OF P w K mg base 4 "go_together" (A1 K IW):=BJ ["lines","seen","finest_seen","line","level","value","later"] (T.f.get 7 rfl) (by trivial)
theorem ZqC:OF P w K mg base 4 "row_rank" (A1 K QD):=BJ ["row"] (T.f.get 26 rfl) (by trivial)
theorem Zly:OM P w K mg base d Bm 4 "is_kept" (A1 K IY):=TV ["self","thing"] (T.m.get 6 rfl) (by trivial)
theorem Zn5:OF P w K mg base 5 "is_ladder" (A1 K J5):=BJ ["thing"] (T.f.get 8 rfl) (by trivial)
theorem Zms:OM P w K mg base d Bm 5 "forget" (Dj K QE):=NN ["self","grain"] (T.m.get 4 rfl) (by trivial)
theorem Zk5:OM P w K mg base d (JY P w) 5 "forget" (IP K J6):=TW ["self","grain"] (T.m.get 4 rfl) (by trivial)
theorem ZnD:OM P w K mg base d Bm 5 "table" (A1 K N8):=TV ["self","grain"] (T.m.get 5 rfl) (by trivial)
theorem Zmu:OM P w K mg base d (JY P w) 5 "table" (IP K J7):=TW ["self","grain"] (T.m.get 5 rfl) (by trivial)
theorem jS:OF P w K mg base 6 "in_order" (A1 K Oa):=BJ ["keys","told","key"] (T.f.get 5 rfl) (by trivial)
theorem ZmK:OF P w K mg base 6 "are_ladders" (A1 K Ob):=BJ ["thing"] (T.f.get 33 rfl) (by trivial)
theorem Zi3:OF P w K mg base 7 "values_in_order" (A1 K U0):=BJ ["values"] (T.f.get 11 rfl) (by trivial)
theorem Zld:OF P w K mg base 7 "merged_along" (A1 K U3):=BJ ["ways","table","cells","key","cell","there"] (T.f.get 22 rfl) (by trivial)
theorem ZkT:OF P w K mg base 7 "keys_changed" (A1 K Vb):=BJ (js.append ["cells_ahead","cells_behind","keys"]) (T.f.get 31 rfl) (by trivial)
theorem Zsj:OF P w K mg base 8 "beneath" (A1 K Vf):=BJ je (T.f.get 13 rfl) (by trivial)
theorem ZqF:OF P w K mg base 8 "table_of" (A1 K QG):=BJ (jj.append ["single"]) (T.f.get 23 rfl) (by trivial)
theorem Zkh:OF P w K mg base 8 "cells_changed" (A1 K Vl):=BJ (jt.append ["changed","grain"]) (T.f.get 32 rfl) (by trivial)
theorem ZlP:OF P w K mg base 9 "is_value_at" (A1 K Vn):=BJ jf (T.f.get 14 rfl) (by trivial)
theorem Zp2:OF P w K mg base 9 "tables_at" (A1 K QI):=BJ jr (T.f.get 30 rfl) (by trivial)
theorem Zqd:OM P w K mg base d Bm 9 "keep" (Dj K Oh):=NN ["self","grain"] (T.m.get 3 rfl) (by trivial)
theorem ZnI:OM P w K mg base d (JY P w) 9 "keep" (IP K J9):=TW ["self","grain"] (T.m.get 3 rfl) (by trivial)
theorem ZkK:OF P w K mg base 10 "is_finest_key" (A1 K Vt):=BJ jl (T.f.get 24 rfl) (by trivial)
theorem Zoy:OM P w K mg base d Bm 10 "__init__" (Dj K Vy):=NN ju (T.m.get 0 rfl) (by trivial)
theorem Zgq:OM P w K mg base d Bm 10 "tables_renewed" (Dj K VD):=NN ["self","ahead"] (T.m.get 7 rfl) (by trivial)
theorem Zmg:OF P w K mg base 10 "_law_outcome" (Dj K ZJ):=NM (jM.append ["_law_found","e","_law_kinds"]) (T.f.get 50 rfl) (by delta Mn QM QL;trivial)
theorem ZpW:OF P w K mg base 11 "is_change" (A1 K QN):=BJ jm (T.f.get 25 rfl) (by trivial)
theorem Zqm:OF P w K mg base 11 "_law_deed" (Dj K IZ):=NM (jN.append ["_law_told","_law_cells_here"]) (T.f.get 52 rfl) (by trivial)
theorem ZuJ:OF P w K mg base 12 "poured" (Dj K VT):=NM (jq.append ["standing","change"]) (T.f.get 29 rfl) (by trivial)
theorem Zou:OM P w K mg base d Bm 13 "pour" (Dj K VV):=NN jv (T.m.get 2 rfl) (by trivial)
theorem ZCn{fn:Ac}{fd:Cd}(D:DI K mg "law" (Bl 83) ["_law_script"] fn fd):AR P w K mg base Bm 14 fn fd ["_law_script"] (Dj K fj):=cC ["_law_script","_law_ladders_here","_law_book","_law_rows","_law_grains","_law_grain_here","_law_k","_law_cell_here","_law_xs","_law_good"] D (by trivial)
end
end
theorem fin{l:PySem.W.OpenLaw}{w:Ai}{K:Ao}{h:Ak}{mg:Bx}{b:Ac}(_:K.In h)(a:mg "law"=Z (.ref b)):(∃d,Tx K mg d)->∃fd:Cd,(∀(s:Ab)(v:Aa),BindsTo s fd #[[v],[]] [("_law_script",v)])/\∀base:Ak,K.In base->base.Ns BU mg->AR l.prog w K mg base Bm 14 b fd ["_law_script"] (MV K):=λ⟨_,T⟩=>let⟨_,_,D⟩:=T.f.get 54 rfl;ut a D (λ_=>ZCn T D) zL λ_ _ _ _ _ _ _=>rfl
theorem walk{l:PySem.W.OpenLaw}{q:AM}{b:U Ae}{i:(Bx)->Ak->Prop}{e:Ai->Ak->Prop}{d:DefRec}{K:Params->Ao}(j:l.most=Z 63)(c:d.params.defaults=[]) (m:∀(w:Ai) (h:Ak),e w h->(K w.params).In h) (F:∀(w:Ai) (mg:Bx) (g:Ac) (h:Ak),(K w.params).In h->h.Ns BU mg->mg d.name=Z (.ref g)->∃fd:Cd,(∀(s:Ab) (u:Aa),BindsTo s fd #[[u],[]] [("_law_script",u)])/\∀base:Ak,(K w.params).In base->base.Ns BU mg->AR l.prog w (K w.params) mg base Bm 14 g fd ["_law_script"] (MV (K w.params))):PySem.W.WalkO q b i e l.row.toRowW d [] (λf vs=>PySem.call f vs):=L2.walk_of j (by ext) c #[rfl,by ext,by ext] m F (λ_ _ a ns o _ p=>#[a,ns,rfl,p,o,λ_=>rfl]) λ_ _ _ _ _ z=>z
end K54
variable{acc:U K54.Bj}{rows:U K54.Row}
end
structure PySem.W.Fast:Prop where(tw18018448778967489637 tw3064104529434009256 tw12543391799776239628 tw18435491602356520727 tw5360187454268764973 tw11641506502474380701 tw6362147319215635826 tw4392579524312049235 tw2806521239861633983 tw215822811099842 tw5884263935902060587 tw13458199214434703645 tw4595388841612806906 tw14232568935897450615 tw12563795809236917747 tw13910175957358434408 tw2182718892098351533 tw8760675896232742755 tw1648629868738994066 tw155971615695499812 tw5571156891352732118 tw1865742437719049085 tw7035788948088976623 tw16530365461541586443 tw3739437966071033745 tw10219835467306483967 tw14308503435924254380 tw18395570654111875337 tw1656055752174651193 tw2062729230456764669 tw10772582610393700007 tw12043281849230399076 tw16398540782755105440 tw4404351274971934068 tw1728431236985710621 tw3328225550662891863 tw6337307744974704198 tw13937279167128118620 tw2036268397534747429 tw9510559378031152844 tw6559703717234066970 tw17830279811040859208 tw5491942703080149649 tw11927347448692239033 tw4718179923609653809 tw5344750058604851719 tw1280966061725316009 tw1843474081419765094 tw12807090348658023444 tw10494149224427762632 tw14705279779876154554 tw3141630803284144424 tw9729069236841800401 tw10442060366474400906 tw5199980145290240460 tw325153438607899726 tw6436672126707813515 tw4534959561647906713 tw10468859697994593379 tw7207189706093791281 tw14261353315702153577 tw802574688471333538 tw7302607765809911994 tw7989470058425443613 tw14674125463880717180 tw5380310419112229230 tw3398184871292784545 tw10599184237016395321 tw9380059188010717075 tw7037631067715142999 tw5773245916652978153 tw8114237179332507090 tw7161201882108461892 tw17715409341042118209 tw6888655483040826087 tw15210360728392367714 tw13309563868834334370 tw146638809892843975 tw175006856523811598 tw4407242494915076878 tw16660204139019489055 tw17996754260262641968 tw17916765972659158312 tw10707245864451021882 tw6961074337482628912 tw11894480352732994132 tw7999248524036469477 tw4572331087548034140 tw13425293367298406063 tw11990874438784566892 tw10137005356735595666 tw16472934466549754190 tw8279513998644145190 tw13422046283285509488 tw3050026213778801177 tw15510499329649202409 tw7305093120779689969 tw13766849159743966999 tw3285757542057794383 tw5890557916108368143 tw2616914344741293812 tw1371308666194117542 tw14879663521395947388 tw15408882386960272691 tw15038477979931809799 tw3772889001802984412 tw1321847131443473297 tw4002126230849258423 tw3229378343831376229 tw10408042619383868118 tw7585418021845274508 tw14465369722193030810 tw8920801968433458343 tw1503252296485328196 tw12328958959003139628 tw895938535251283403 tw5407742588213664845 tw15687053043563549961 tw14773850211715570988 tw6815347709926746272 tw1134524696261554973 tw5026739569457890852 tw884402911436179411 tw6059242652699094184 tw15539485161186086187 tw14902037287022310448 tw12357968403979083478 tw7639295239615765387 tw2736801179585444771 tw1900088606643858038 tw12782218988250884875 tw13741919321102594686 tw10374493013151915194 tw3234496346594020893 tw16238335811413289357 tw15012414241839284760 tw6697384823404307940 tw6016605869631962792 tw5236341564129341993 tw11147391536639733068 tw9064211893871971036 tw5379549326723665194 tw4287020004684241790 tw3343367177150915060 tw14094904875681046387 tw2093447723999963261 tw10803173896875473437 tw2311830963786193013 tw11270196528541889125 tw13211367308653173151 tw3610212213694765944 tw4063889484888586555 tw2130294304600776261 tw5435279817061002436 tw8188586128078582333 tw16585185279936189152 tw17029361917678700480 tw13887911421656045987 tw17448657618877382589 tw1099940070275736982 tw1517612942943516348 tw15530567569373664898 tw15486075929267796035 tw10404689221076844521 tw9422749837327780330 tw290697701681035914 tw18167482393547409355 tw16392691524942416044 tw6918781131824510797 tw10934066900362135460 tw12152336006182272361 tw3221925759947494782 tw4352173893106257462 tw13610329677085962376 tw17957780214185896118 tw1945858452401080137 tw10426229660879509715 tw7536244974378509598 tw13205079456277363930 tw5027291378551309834 tw17708355425111214837 tw8527311116547903190 tw8365950466838776082 tw12346701809224476924 tw14340115754293442273 tw13525505225076557091 tw10992380408733744394 tw6615682592740807370 tw3654131514592351565 tw17659080564493399009 tw15845489985939762960 tw1748235601500571158 tw16734213519827606328 tw8912266389050168797 tw7916865770664171445 tw18218894097424323882 tw9846129130225219451 tw14393140528200287878 tw17944914701742131349 tw14898808141313821561 tw8361279118234811467 tw14928983422707896117 tw12906954146758308015 tw2434723034758724037 tw4455498389191551045 tw592673098274650236 tw14803442923118699237 tw6534503268135755471 tw11537011685886743125 tw9432348734044519567 tw12311595643645796490 tw1200443836495297052 tw5482412493119864632 tw18437263260768761617 tw12538352563454779616 tw16675869088052433819 tw6269718163097248610 tw18369235677204349439 tw6138942922550657492 tw560341731110657798 tw3684159720952437437 tw18337809824522232679 tw18172123319072384110 tw13981804931598114923 tw12714077120531936847 tw11837934194144240151 tw8811018104407741384 tw790347192402263915 tw18118405115502127575 tw309508229312988868 tw15632922507890619821 tw3695893174374238929 tw4478026806017586504 tw14269362104417330779 tw6106371187989196222 tw4769177121562988577 tw16910181643297102398 tw1446409932885438054 tw12841886124005166061 tw15131247906045965944 tw14289231515371948740 tw13681950460207531842 tw13549845613032332734 tw17655470058282141984 tw17963507993312290342 tw7458599937582996190 tw7836455478485396290 tw10282446371248653642 tw12352475857628605605 tw3875003544042606437 tw15777657928804988356 tw12420418768790425632 tw11893871358715656401 tw92373034374762997 tw1701056964332229895 tw14529183213167704330 tw16757144595708566801 tw1267301680227885192 tw10759828716442025549 tw13370422154397340019 tw2582158270933416475 tw1646615810865179189 tw4726114888106398571 tw3882892382388783376 tw17032735940000364559 tw1005625060167441661 tw568734074753346587 tw14297080567651506046 tw7530937869543370406 tw6352874977929607918 tw3113106613800982497 tw14336858291634731214 tw11899691926946856 tw11389700259393193036 tw11181872279849231129 tw10462042045474291759 tw16900385745570269078 tw16013755686365833266 tw14249985917532448604 tw16191305557237176791 tw12237121054486996987 tw6174679413552712440 tw10249715015090329496 tw16213714292653221723 tw11068613438929503789 tw4439695826506234193 tw365431950731458335 tw3215985331605402252 tw1824435257358925515 tw14984491849540080290 tw4704182681617347810 tw17387306841936693013 tw16042782182184252016 tw15446659002485493489 tw15442324783747297215 tw1429376041350451776 tw5598972563030004280 tw11493400721790464838 tw3470593380910652025 tw2347084727289966456 tw16406106802921877645 tw12072471624065103886 tw5517880869806223386 tw13917993450464763299 tw6632329405057592592 tw7500078110703732614 tw7490050363466185035 tw11669672534506880264 tw12060850825422131079 tw3640014559165619746 tw1919932676523801611 tw15942089828182327312 tw14353248389318026704 tw11917674323331664334 tw8733672854176772936 tw12154963393487103715 tw6357211706262360533 tw15156295041865896446 tw17042979954771108381 tw1176610692633212165 tw9260466285764932197 tw6681483985785885230 tw12723864787887933218 tw13364252374380702932 tw12487984964998639201 tw11652952650269976011 tw5294568198995926232 tw7642935797771475153 tw6466604455094538604 tw3543929654115259473 tw15587984346169838937 tw12778233882818061615 tw17158062980450712832 tw16123468579599318917 tw11304872462234528894 tw2452191724570927388 tw10823810005694763311 tw17771990779442719473 tw17881136732720063406 tw9893522915829503697 tw3750542848249100438 tw15021028232005139933 tw10118678166604093798 tw181896233099334419 tw17305322105541331162 tw1107105952286657484 tw4050857028642264169 tw3212446478481771121 tw12196570023321748722 tw7178231308387861430 tw7994775773270049856 tw9244213280013081703 tw3416599523574785340 tw2598218991740421980 tw17341731755478788248 tw17302686608184479904 tw10537843597498033556 tw17856104614610712664 tw13762719779423129552 tw8540690948395603476 tw9967399162739105634 tw9546316531856919549 tw6102582751513600714 tw10893435124904470252 tw11039899559965643408 tw3274320351089162110 tw1672643822049156690 tw2206381400750959303 tw7695690583424874037 tw9748864088053699001 tw2144426869098210249 tw12530242593956202507 tw8212177550480229934 tw17887199897141319517 tw14472196409835782079 tw15687562630373884010 tw12566088211519806678 tw7477620562873379318 tw5504388126833656330 tw2900626974954666415 tw2380738293845956549 tw16963841393164330872 tw15097530583665586495 tw10553062576299257481 tw7713817977226167367 tw7629763875746445629 tw7007826088968021398 tw6883357005840890467 tw3405780491680986487 tw17730325428113919220 tw15427144302060903410 tw10261058939197355245 tw10167946235138009159 tw4890006946079592744 tw4410205854665088745 tw4066660181063633172:True)
open PySem PySem.W PyProof.Rows
set_option maxRecDepth 100000 in
set_option maxHeartbeats 0 in
theorem PySem.Challenge.cw_cubebook_k54_kept_and_forgotten_holds : PySem.Challenge.rw_cubebook_k54_kept_and_forgotten.Holds := by
 w_on;o_law;k_head;(case hw=>w_witness2)
 k_fill
 refine K54.walk (l:=PySem.Challenge.rw_cubebook_k54_kept_and_forgotten) rfl rfl (fun w h Y=>PySem.W.kIn_of Y) ?F
 case F =>
  intro w mg fa h KX G hmg
  open L2 in refine' K54.fin KX hmg ⟨_,⟨L2.ci KX G ?_ ?_ ?_ ?_ ?_ ?_ ?_,?_,?_,?_,?_,?_,?_,?_,⟨_,mg_of KX G ?_,?_⟩,?_,?_⟩⟩
  open L2 in repeat (any_goals (show L2.All _ _;first | exact True.intro | refine' ⟨⟨_,_,L2.di KX G ?_ ?_ ?_ ?_⟩,?_⟩ | refine' ⟨⟨_,_,L2.mi ?_ ?_ ?_ ?_ ?_⟩,?_⟩ | refine' ⟨mg_none_of KX G ?_,?_⟩ | refine' ⟨⟨_,mg_of KX G ?_,⟨_,rfl⟩⟩,?_⟩ | refine' ⟨⟨_,mg_of KX G ?_,?_⟩,?_⟩ | refine' ⟨⟨_,?_,L2.mk_of ?_ ?_,⟨?_,?_,?_,?_,?_,?_,⟨_,?_⟩⟩,L2.kit_V ?_,⟨_,?_,L2.exm_of ?_ ?_ ?_ ?_⟩,?_⟩,?_⟩ | refine' ⟨⟨_,?_,?_⟩,?_⟩))
  all_goals try (show (_:Prop);first | k_is | rfl | k_exc | exact L2.kit_self | (refine' L2.kit_ne ?_ ?_ ?_ ?_<;>first | k_is | rfl))
#print axioms PySem.Challenge.cw_cubebook_k54_kept_and_forgotten_holds
