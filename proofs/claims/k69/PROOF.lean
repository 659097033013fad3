import PyProof.Rows.All
import Wide.All
import OpenK.AllK
import Wide.FinOn
import Lean
import PyProof.EqAt
import PyProof.EqKinds
import PyProof.TupleCall
import PyProof.P3In
import KE.KDictLaws
import KE.KTabLook
import KE.KRevIter
import KE.KItemsList
import PyProof.TupleOfGen
import KE.KSortTup
import KE.KDictSum
import KE.KEqDict
import PyProof.EnumMake
import PyProof.EnumFor
import PyProof.EnumStmt
import PyProof.AttrMissHeap
import KE.KDictOf
import PyProof.Rows.SortShell
import KE.KDictList
import PyProof.Rows.StrJoinRep
import PyProof.NeKinds
import PySem.Challenge.RW_rootstamp_k69_whole_talks_by_weak_stamps
set_option Elab.async false
set_option linter.all false
set_option maxRecDepth 100000
set_option maxHeartbeats 4000000
open Array renaming getElem?_eq_getElem→GV,length_toList→HW,getElem?_eq_some_iff→Il,getElem?_eq_none→JE,getElem?_toList→JK,getElem?_setIfInBounds_ne→Kq,forIn_toList→Mp,toList→NI
open Bool renaming and_eq_true_iff→FP,false_ne_true→FZ,and_eq_true→Hu,false_eq_true→HI,eq_iff_iff→Jd,or_false→NG,and_true→NH
open Classical renaming byContradiction→Ja
open False renaming elim→Gm
open ForInStep renaming yield→Mg
open Int renaming ofNat_sub→Ib,eq_ofNat_of_zero_le→Ic,toNat_natCast→Im,natCast_add→IE,emod_lt_of_pos→IF,emod_nonneg→Ji
open LawfulMonad renaming pure_bind→LI
open List renaming length_append→pv,length_map→FH,length_take→FJ,size_toArray→FL,getElem?_eq_some_iff→FN,getElem?_eq_getElem→FQ,length_drop→FS,mem_singleton→FU,mem_of_getElem?→Ga,map_append→Gb,mem_cons→Gh,getD_eq_getElem?_getD→Gp,mem_append→Gs,mem_cons_self→Gu,map_cons→Gw,mem_append_right→Gz,getElem?_map→GD,mem_cons_of_mem→GF,append_assoc→GJ,append_nil→GW,take_length→GZ,not_mem_nil→Ha,nodup_cons→Hl,getElem?_eq_none→Hm,all_eq_true→Ht,mem_append_left→Hz,mem_map→HC,filterMap_cons→HD,getElem?_append_right→HF,length_cons→HG,getElem?_reverse→HH,lookup→HL,take_add_one→HQ,lookup_cons→Ie,take_take→If,of_mem_zip→Ik,getElem?_append_left→Iq,getElem?_take_of_lt→Iy,forIn_cons→IA,find?_cons→IB,reverse_cons→IK,eq_nil_of_length_eq_zero→IQ,append_inj'→IR,mem_of_mem_take→IW,mem_map_of_mem→Jc,zip→Jm,map_map→Jn,forIn_nil→Js,mem_iff_getElem?→JM,length_replicate→JN,pairwise_append→JT,mem_range→JX,drop_take→JY,length_reverse→Kd,getElem?_take→Kn,range→Kr,ext_getElem?→Ks,map_nil→Kw,getElem_mem→Ky,length→KL,take_zero→Lg,replicate→Li,drop_zero→Lj,drop_eq_getElem_cons→Lk,drop_drop→Ll,getElem?_replicate→Lw,any_cons→Lz,getElem?_set_self→LH,take_append_drop→LN,lookup_cons_self→LO,length_singleton→LQ,mem_iff_getElem→Md,getElem?_set_ne→Me,getElem?_of_mem→Mf,mem_filterMap→MD,getElem?_drop→ME,take_sublist→MJ,zipIdx_cons→MY,getElem_inj→MZ,drop_length→Na,zipIdx_nil→Nj,mem_filter→Nk,take_succ→Nx,all_cons→NF
open List.Pairwise renaming nil→KZ,of_map→Oh
open List.cons renaming inj→Ir
open Nat renaming le_refl→gV,zero_le→Gc,lt_of_lt_of_le→Ge,ne_of_lt→Gf,le_trans→Gk,lt_irrefl→GP,min_eq_left→GY,lt_succ_self→Hb,lt_of_le_of_lt→Hs,ne_of_gt→HJ,le_of_lt→HK,log2→ID,le_succ→IN,le_add_right→IV,two_pow_pos→Jh,sub_zero→Jq,pow_succ→Jr,le_of_eq→JR,min_le_right→KG,min_le_left→KW,log2_lt→KY,pow_lt_pow_iff_right→Lv,lt_trans→Mb,lt_or_ge→Mc,pow_le_pow_right→Mo,one_le_two_pow→MI,lt_trichotomy→MV,lt_succ_of_lt→MX,log2_self_le→Ni
open Ne renaming symm→Gt
open Option renaming isSome_iff_exists→GO,map_some→IX,map_eq_some_iff→Lr,isSome_map→Mn,getD_some→MB,getD_none→MC
open Option.some renaming inj→FY
open Or renaming inr→MU
open PyProof.Rows renaming callWith_type1→GB,slot_tuple_getitem→GQ,boot_isinstance→Ia,AllBare→Kj,IsTup→KF,recsOf→KJ,boot_tuple→KU,subscriptTail_builtinR→MH,entry_tuple_getitem→Nv,IntsAre→Nw,args_tuple_getitem→NE
open PyProof.Rows.IsTup renaming new→MT
open PySem renaming wpAny_bind→ah,Value→tx,Shared→FI,wpAny_pure→FK,FuncData→FX,Program→Gd,wpAny_mono→Gj,boot_len→Gv,wpAny_field→Gx,Around→GC,builtinLookup_eq_fast→GG,World→GH,wpAny_Call_Name_kw→GL,wpAny_callSpecial?_slot→GM,wpAny_call_entry→GN,wpAny_setField_rec→Hc,wpAny_holding→Hf,typeLookup_type→Hg,mem_of_lookup→Hj,wpAny_newObj_type→Hn,wpAny_seqItems→Hq,wpAny_specialOf→Hv,sizeLine_eq→HR,isSubtype_type→HS,NameKind→HX,wpAny_updateSeq→HY,wpAny_truthy_bool→HZ,wpAny_of_eq→Ig,wpAny_passesOwn→Io,codeAny_mono→Ip,Builtin→Iw,wpAny_attempt→IL,tupleKind_room_in1→IM,codeAny_call_function→IY,IsPair→IZ,wpAny_isInstance→Je,plainId_quiet→Jk,wpAny_rule→Jo,wpAny_execs_nil→Jt,wpAny_typeOf→Jz,GenState→JA,atKey_none_of_get→JG,wpAny_letGo→JO,ExceptHandler→JQ,wpAny_execs_cons→JS,wpAny_loadPart'→Ke,ZipApart→Kk,wpAny_newFunctionEnv→Ko,wpAny_standAt→Kz,wpAny_pyIter_list→KM,wpAny_call→KN,wpAny_assign_Name→KO,PlainAttrs→KQ,codeAny_func→La,Result→Lb,PyData→Ld,IsPart→Le,noFill_tuple_add→Lm,Within→LB,PassesOwn→LC,wpAny_newFunctionEnv_cells→LK,wpAny_setField→LR,callType_codes→LS,wpAny_comprehension_free→Mh,call_meets→Mi,wpAny_onRaise→Mq,signature?_of→Mr,seq_tuple_add→Ms,code_list_new→Mt,call→Mu,ItemsOf→Mz,BindsTo→MA,wpAny_nextOf_list_item→MF,wpAny_notOrdered_dict→MK,wpAny_nextOf_list_end→ML,seqIndex_neg→MM,concat_meets→MN,call_meetsIn→MO,CmpOp→MS,wpAny_updateSeq_pair→Nb,wpAny_pyIter_revIter→Nc,codeAny_extend_loopS→Nd,wpAny_mkInt→Nl,wpAny_isSubtype_exc→Nm,storedH_new→Nn,seqIndex_of→Np,kt_meets_setdefault→Nq,wpAny_pyIter_tuple→Ny,call_reversed_list→Nz,WalksS→NA,wpAny_sequenceKey→NJ,wpAny_pyIter_slot→NK,wpAny_loadPart_at→NL,wpAny_dictEntries→NM,wpAny_Return_some→NN,wpAny_Name→NO,typeIs_str→NP,IsZip→NT
open PySem.Around renaming under→Lu,under_plainId→LF,frames_deeper→LG
open PySem.Builtin.Dict renaming keyAndDefault→Ki
open PySem.Builtin.Int renaming intBits→Hy
open PySem.Builtin.List renaming listExtendWith→Gg,listSameRef→Hk,listItems→Hx,listLengthHint→IJ,listUpdate→Jb
open PySem.Builtin.Range renaming rangeSize→Og
open PySem.Builtin.Slice renaming slicePlaces→Ih,sliceAdjust→IP,sliceApplied→Kc,slicePartIndex→Oe,sliceFields→Of
open PySem.Builtin.SmallTypes renaming ownedTupleIsFree→Gn,nextOf→GI,ownedTupleHandOut→Jg
open PySem.Builtin.Tuple renaming tupleExact→Ij,tupleItemsOf→Kb,tupleIsExact→Od
open PySem.Calls renaming Name_function_global→Jf,spliced_cons→Jj,spliced_nil→Jv,loadGlobal_global→Lq,callWith_builtin→Lt
open PySem.Code renaming isFrame→LL
open PySem.Data renaming fields→Mm
open PySem.EntryCells renaming newEntry→Lf
open PySem.EqMixed renaming ne_str_int→NV,ne_str_bool→NW,ne_int_str→NX,ne_bool_str→NY,eq_str_int→NZ,eq_str_bool→Oa,eq_int_str→Ob,eq_bool_str→Oc
open PySem.F renaming plainAttrs_list→FR,slot_list_append→FV,type_list_append→FW,plain_extend_loop→GS,slot_dict_setdefault→Hw,args_dict_setdefault_3→HP,entry_dict_setdefault→HV,slot_zip_next→IH,slot_list_pop→IU,args_tuple_add_2→Jl,entry_tuple_add→Ju,slot_tuple_add→Jy,type_list_pop→JD,args_list_init_2→JW,typeCall_list_1→Kg,entry_list_init→Kh,entry_extend_loop→KB,args_zip_next_1→KC,slot_str_ascii_iterator_iter→KI,entry_zip_next→KR,called_list→KS,slot_tuple_iterator_next→Ls,slot_tuple_eq_refl→MG,slot_dict_len→NU
open PySem.Heap renaming get?_push_of_some→cW,lt_size→FM,get?_push_size→FO,get?_update_other→Gq,get?_update_self→Gy,size_push→HB,SameBut→HU,size_update→Kx,ExtBut→Ml
open PySem.Heap.IsSliceOf renaming new→ND
open PySem.Heap.SameBut renaming update→II
open PySem.IntMulOk renaming of_left→Km
open PySem.ItemsOf renaming nil→Nu
open PySem.Moved renaming trans→Ma,refl→My
open PySem.NameKind renaming free→HN,cell→Jp
open PySem.Obj renaming mapSeq→GR,data_mapFields→IC,mapFields→JC,isFreed_of_fields→JP,data_mapDictKeys→Mj,cls_mapFields→MR
open PySem.PassesOwn renaming never→GA
open PySem.PyData renaming depthAll→Gi,tuple→GX,canLayAll0→Hi,depth→Ii,strOk→JF,eqvAll→Lc,list→NC
open PySem.SeqAt renaming eqv_refl→KH
open PySem.SeqAt.EqAt renaming int_int→JV,str_int→Ku,int_str→Kv,str_str→Nh
open PySem.Shared renaming heap→NB
open PySem.Str renaming ofString→Ho,empty→Nt
open PySem.Value renaming ref→FT,bool→HA,none→HE,int→JJ,type→JL,str→Kf,float→LY,isStrOf→Nr,isInt→NR,bytes→NS
open PySem.Value.type renaming inj→LX
open PySem.W renaming Frag→pz,findIn→GU,mg_none_of→Hr,emptyDict→Iz,kia_one→IG,nsIn→IS,fnOf→IT,isFn→Jw,CodeHd→Jx,instObj→JB,plainGet_of→JH,mg_of→JI,methodCall_KW→JU,plainGet→JZ,keepIn→Ka,hideAll_none→Kl,hasDictIn→Kp,envX→Kt,tabIn→KA,cellsFrom_some→KP,plainOver→Lp,tabObj→LU,noTabs→LV,hideAll_get→LW,makesIn→Mv,callWith_K→Mw,callWith_F→Mx,methodObj→MP,excIn→MQ,lookIn→Nf,codeIn→Ng,takerIn→NQ
open Sum renaming inr→Iu,inl→Iv
open Sum.inl renaming inj→LA
open True renaming intro→HM
namespace L2
open PySem PySem.Spec PyProof.Rows
abbrev Key:=Sum Int Str
def jm:Key→tx→Bool
 |.inl k,v=>NR k v
 |.inr x,v=>Nr x v
def EG (w:GH):Key→Int
 |.inl k=>hashInt k
 |.inr x=>hashStr w x
theorem cf:∀{k:Key}{v:tx},jm k v=true→(∃i t,k=Iv i∧v=JJ i t)∨(∃x t,k=Iu x∧v=Kf x t)
 |.inl i,v,h=>by
  obtain⟨t,e⟩:=Value.isInt_shape (k:=i) (v:=v) h
  exact .inl ⟨i,t,rfl,e⟩
 |.inr x,v,h=>by
  obtain⟨t,e⟩:=Value.isStrOf_shape (x:=x) (v:=v) h
  exact .inr ⟨x,t,rfl,e⟩
theorem su (i:Int)(t:Tok):jm (.inl i) (.int i t)=true:=by simp[jm,NR]
theorem rQ (x:Str)(t:Tok):jm (.inr x) (.str x t)=true:=by simp[jm,Nr]
theorem Ab (a b:Int):decide ((Iv a:Key)=Iv b)=(a==b):=by
 by_cases e:a=b
 ·subst e;simp
 ·have h:¬(Iv a:Key)=Iv b:=fun q=>e (LA q)
  rw[decide_eq_false h]
  exact(beq_eq_false_iff_ne.mpr e).symm
theorem yz (a b:Str):decide ((Iu a:Key)=Iu b)=decide (a=b):=by
 by_cases e:a=b
 ·subst e;simp
 ·have h:¬(Iu a:Key)=Iu b:=fun q=>e (Sum.inr.inj q)
  rw[decide_eq_false h,decide_eq_false e]
theorem zq (a:Int)(b:Str):decide ((Iv a:Key)=Iu b)=false:=decide_eq_false (fun q=>nomatch q)
theorem xT (a:Str)(b:Int):decide ((Iu a:Key)=Iv b)=false:=decide_eq_false (fun q=>nomatch q)
def bW (prog:Gd)(w:GH):PySem.KeyKind prog w Key where
 is:=jm
 hash:=EG w
 inj:=fun v a b ha hb=>by
  rcases cf ha with⟨i,t,rfl,rfl⟩|⟨x,t,rfl,rfl⟩
  ·rcases cf hb with⟨j,u,rfl,e⟩|⟨y,u,rfl,e⟩
   ·injection e with e1 _;rw[e1]
   ·exact nomatch e
  ·rcases cf hb with⟨j,u,rfl,e⟩|⟨y,u,rfl,e⟩
   ·exact nomatch e
   ·injection e with e1 _;rw[e1]
 byValue:=fun k v h=>by
  rcases cf h with⟨i,t,rfl,rfl⟩|⟨x,t,rfl,rfl⟩<;>rfl
 pyHash:=fun hv h=>by
  rcases cf hv with⟨i,t,rfl,rfl⟩|⟨x,t,rfl,rfl⟩
  ·exact wpAny_pyHash_int h
  ·exact wpAny_pyHash_str h
 eqBool:=fun hu hv h=>by
  rcases cf hu with⟨i,t,rfl,rfl⟩|⟨x,t,rfl,rfl⟩
  ·rcases cf hv with⟨j,u,rfl,rfl⟩|⟨y,u,rfl,rfl⟩
   ·rw[Ab]at h;exact wpAny_eqBool_int h
   ·rw[zq]at h;exact Kv i t y u _ _ _ _ h
  ·rcases cf hv with⟨j,u,rfl,rfl⟩|⟨y,u,rfl,rfl⟩
   ·rw[xT]at h;exact Ku x t j u _ _ _ _ h
   ·rw[yz]at h;exact wpAny_eqBool_str h
 «strs»:=fun k x t v h=>by
  rcases cf h with⟨i,u,rfl,e⟩|⟨y,u,rfl,e⟩
  ·exact nomatch e
  ·injection e with e1 _
   subst e1
   cases v<;>rfl
theorem oI (prog:Gd)(w:GH)(i:Int)(t:Tok):(bW prog w).is (.inl i) (.int i t)=true:=su i t
theorem oG (prog:Gd)(w:GH)(x:Str)(t:Tok):(bW prog w).is (.inr x) (.str x t)=true:=rQ x t
inductive V where
 |non|bl (b:Bool)|int (i:Int)|str (x:Str)|byt (b:Array UInt8)|flt (b:UInt64)|ref (a:Addr)|ty (n:String)
 deriving DecidableEq
def aO:V→tx→Prop
 |.non,u=>u=HE
 |.bl b,u=>u=HA b
 |.int i,u=>∃t,u=JJ i t
 |.str x,u=>∃t,u=Kf x t
 |.byt b,u=>∃t,u=NS b t
 |.flt b,u=>∃t,u=LY b t
 |.ref a,u=>u=FT a
 |.ty n,u=>u=JL n
abbrev aJ:List V→List tx→Prop:=Paired aO
theorem aJ.length {xs:List V}{us:List tx}(r:aJ xs us):xs.length=us.length:=Paired.length r
theorem aJ.get:∀{xs:List V}{us:List tx}{i:Nat}{x:V},aJ xs us→xs[i]? =some x→∃u,us[i]? =some u∧aO x u
 |_,_,_,_,.nil,e=>by simp at e
 |_,_,0,_,.cons r _,e=>by simp at e;subst e;exact⟨_,rfl,r⟩
 |_,_,i+1,x,.cons _ t,e=>by
  obtain⟨u,h1,h2⟩:=aJ.get (i:=i) (x:=x) t (by simpa using e)
  exact⟨u,by simpa using h1,h2⟩
theorem aJ.set {x:V}{u:tx}(r:aO x u):∀{xs:List V}{us:List tx}(i:Nat),aJ xs us→aJ (xs.set i x) (us.set i u)
 |_,_,_,.nil=>.nil
 |_,_,0,.cons _ t=>.cons r t
 |_,_,i+1,.cons q t=>.cons q (aJ.set r i t)
theorem aJ.append:∀{xs ys:List V}{us ws:List tx},aJ xs us→aJ ys ws→aJ (xs++ys) (us++ws)
 |_,_,_,_,.nil,s=>s
 |_,_,_,_,.cons r t,s=>.cons r (aJ.append t s)
theorem aJ.take:∀{xs:List V}{us:List tx}(n:Nat),aJ xs us→aJ (xs.take n) (us.take n)
 |_,_,0,_=>.nil
 |_,_,_+1,.nil=>.nil
 |_,_,n+1,.cons r t=>.cons r (aJ.take n t)
theorem aJ.drop:∀{xs:List V}{us:List tx}(n:Nat),aJ xs us→aJ (xs.drop n) (us.drop n)
 |_,_,0,r=>r
 |_,_,_+1,.nil=>.nil
 |_,_,n+1,.cons _ t=>aJ.drop n t
def cS:Option V→Option tx→Prop
 |some v,some u=>aO v u
 |none,none=>True
 |_,_=>False
def KV {κ:Type}:List (κ×V)→List (κ×tx)→Prop:=Paired fun(p:κ×V)(q:κ×tx)=>p.1=q.1∧aO p.2 q.2
def kV:Key→V
 |.inl i=>.int i
 |.inr x=>.str x
inductive HO where
 |lst (xs:List V)
 |tup (xs:List V)
 |dK (kvs:List (Key×V))|dT (kvs:List (List Key×V))
 |set (S:Int→Bool) (n:Nat)
 |ins (C dx:Addr) (fs:List (Str×V))
 |own (x:Addr)
 |xd (fs:List (Str×V))
 |met (f x:Addr)
 |rng (lo hi:Int)
 |frz (o:Obj) (u:HO)
 |tbl (ps:Array tx)
 |ext (φ:Heap→Prop)
abbrev Hp:=Addr→Option HO
def upd (H:Hp)(a:Addr)(o:HO):Hp:=fun b=>if b=a then some o else H b
theorem aj {H:Hp}{a:Addr}{o:HO}:upd H a o a=some o:=by unfold upd;rw[if_pos rfl]
theorem al {H:Hp}{a b:Addr}{o:HO}(h:b≠a):upd H a o b=H b:=by unfold upd;rw[if_neg h]
theorem kT {H:Hp}{a:Addr}{o u:HO}:upd (upd H a o) a u=upd H a u:=by
 funext b;unfold upd;split<;>rfl
theorem aL {H:Hp}{a b:Addr}{o u:HO}(h:H a=some o)(h':H b=some u)(d:o≠u):a≠b:=by
 intro e;subst e;rw[h]at h';exact d (FY h')
theorem aq {H:Hp}{a b:Addr}{o:HO}(h:H a=some o)(h':H b=none):a≠b:=by
 intro e;subst e;rw[h]at h';cases h'
section
variable (P:Gd)(w:GH)
def aY (H:Hp)(h:Heap)(a:Addr):HO→Prop
 |.lst xs=>xs.length≤sizeLine∧∃(its:List tx)(n:Nat),aJ xs its∧h.get? a=some {cls:=.type "list",data:=.seq its.toArray n}
 |.tup xs=>xs.length≤sizeLine∧∃its:List tx,aJ xs its∧KF h a its.toArray
 |.dK kvs=>kvs.length≤sizeLine∧(a==sysModules)=false∧∃vs,KV kvs vs∧h.DictOf (bW P w) a vs
 |.dT kvs=>kvs.length≤sizeLine∧(a==sysModules)=false∧∃xs:List (List Key×Addr×tx),
  Paired (fun(p:List Key×V)(q:List Key×Addr×tx)=>p.1=q.1∧H q.2.1=some (.tup (p.1.map kV))∧aO p.2 q.2.2) kvs xs∧
  ∃o es ep,h.get? a=some o∧o.ExactDict∧o.data=.dict es ep∧es.toList=xs.map (entryOfKey (tupleKind (bW P w)))∧(xs.map (·.1)).Nodup
 |.set S n=>h.SetOf (intKind P w) a S n
 |.ins C dx fs=>H dx=some (.own a)∧fs.length≤1000∧dx≠a∧h.get? a=some (JB C dx)∧
  ∃mA,h.Ns1 dx mA∧(∀f,cS (fs.lookup f) (mA f))∧LB mA (fs.map (·.1))
 |.own _=>∃o,h.get? a=some o
 |.xd fs=>∃mA,h.Ns1 a mA∧∀f,cS (fs.lookup f) (mA f)
 |.rng lo hi=>∃t u v,h.get? a=some {cls:=.type "range",data:=.fields #[.int lo t,.int hi u,.int 1 v]}
 |.frz o u=>h.get? a=some o∧aY H h a u
 |.tbl ps=>h.get? a=some {cls:=.none,data:=.fields ps}
 |.met f x=>h.get? a=some (MP (.ref f) (.ref x))
 |.ext φ=>φ h∧(∃o,h.get? a=some o)∧∀h1 h2:Heap,φ h1→(∀o,h1.get? a=some o→h2.get? a=some o)→φ h2
def HOk (H:Hp)(h:Heap):Prop:=∀a o,H a=some o→aY P w H h a o
end
section
variable {P:Gd}{w:GH}{H H':Hp}{h h':Heap}{a:Addr}{o:HO}
theorem aY.lt (x:aY P w H h a o):a<h.objs.size:=by
 cases o with
 |lst xs=>obtain⟨_,_,_,_,e⟩:=x;exact FM e
 |tup xs=>obtain⟨_,_,_,p⟩:=x;exact p.lt
 |dK kvs=>obtain⟨_,_,_,_,o,_,_,e,_⟩:=x;exact FM e
 |dT kvs=>obtain⟨_,_,_,_,o,_,_,e,_⟩:=x;exact FM e
 |set S n=>obtain⟨o,_,_,_,e,_⟩:=x;exact FM e
 |ins C dx fs=>obtain⟨_,_,_,e,_⟩:=x;exact FM e
 |own y=>obtain⟨_,e⟩:=x;exact FM e
 |xd fs=>obtain⟨_,⟨_,_,_,e,_⟩,_⟩:=x;exact FM e
 |rng lo hi=>obtain⟨_,_,_,e⟩:=x;exact FM e
 |frz ob u=>obtain⟨e,_⟩:=x;exact FM e
 |tbl ps=>exact FM (show h.get? a=some _ from x)
 |met f y=>exact FM (show h.get? a=some _ from x)
 |ext φ=>obtain⟨_,⟨_,e⟩,_⟩:=x;exact FM e
theorem Paired.mapP {α β:Type}{F G:α→β→Prop}:∀{l₁:List α}{l₂:List β},Paired F l₁ l₂→(∀a b,F a b→G a b)→Paired G l₁ l₂
 |_,_,.nil,_=>.nil
 |_,_,.cons r t,f=>.cons (f _ _ r) (Paired.mapP t f)
theorem aY.stay (x:aY P w H h a o)(k:∀b u,(b=a∨H b=some (.own a))→h.get? b=some u→h'.get? b=some u)
  (ho:∀b,H b=some (.own a)→H' b=some (.own a))(ht:∀b xs,H b=some (.tup xs)→H' b=some (.tup xs)):aY P w H' h' a o:=by
 induction o with
 |lst xs=>obtain⟨z,its,n,r,e⟩:=x;exact⟨z,its,n,r,k _ _ (.inl rfl) e⟩
 |tup xs=>obtain⟨z,its,r,ob,e,c⟩:=x;exact⟨z,its,r,ob,k _ _ (.inl rfl) e,c⟩
 |dK kvs=>obtain⟨z,y,vs,r,ob,es,ep,e,c⟩:=x;exact⟨z,y,vs,r,ob,es,ep,k _ _ (.inl rfl) e,c⟩
 |dT kvs=>
  obtain⟨z,y,xs,r,ob,es,ep,e,c⟩:=x
  exact⟨z,y,xs,Paired.mapP r fun p q z=>⟨z.1,ht _ _ z.2.1,z.2.2⟩,ob,es,ep,k _ _ (.inl rfl) e,c⟩
 |set S n=>obtain⟨ob,es,ep,t,e,c⟩:=x;exact⟨ob,es,ep,t,k _ _ (.inl rfl) e,c⟩
 |ins C dx fs=>
  obtain⟨d,z,ne,e,mA,⟨od,es,ep,e2,c⟩,r⟩:=x
  exact⟨ho _ d,z,ne,k _ _ (.inl rfl) e,mA,⟨od,es,ep,k _ _ (.inr d) e2,c⟩,r⟩
 |own y=>obtain⟨ob,e⟩:=x;exact⟨ob,k _ _ (.inl rfl) e⟩
 |xd fs=>obtain⟨mA,⟨od,es,ep,e,c⟩,r⟩:=x;exact⟨mA,⟨od,es,ep,k _ _ (.inl rfl) e,c⟩,r⟩
 |rng lo hi=>obtain⟨t,u,v,e⟩:=x;exact⟨t,u,v,k _ _ (.inl rfl) e⟩
 |frz ob u ih=>obtain⟨e,q⟩:=x;exact⟨k _ _ (.inl rfl) e,ih q⟩
 |tbl ps=>
  have e:h.get? a=some {cls:=.none,data:=.fields ps}:=x
  show h'.get? a=some {cls:=.none,data:=.fields ps}
  exact k a _ (.inl rfl) e
 |met f y=>
  have e:h.get? a=some (MP (.ref f) (.ref y)):=x
  show h'.get? a=some (MP (.ref f) (.ref y))
  exact k a _ (.inl rfl) e
 |ext φ=>obtain⟨p,⟨o,e⟩,st⟩:=x;exact⟨st _ _ p fun o q=>k _ _ (.inl rfl) q,⟨o,k _ _ (.inl rfl) e⟩,st⟩
theorem HOk.lt (x:HOk P w H h)(e:H a=some o):a<h.objs.size:=(x a o e).lt
theorem HOk.fresh (x:HOk P w H h)(e:h.objs.size≤a):H a=none:=by
 cases q:H a with
 |none=>rfl
 |some u=>exact absurd (Ge (x.lt q) e) (GP _)
theorem HOk.kept (x:HOk P w H h)(k:∀b u,h.get? b=some u→h'.get? b=some u):HOk P w H h':=fun a o e=>
 (x a o e).stay (fun b u _ q=>k b u q) (fun _ q=>q) fun _ _ q=>q
theorem HOk.laid (x:HOk P w H h)(k:∀b u,h.get? b=some u→h'.get? b=some u)(hp:h.objs.size≤a)(new:aY P w (upd H a o) h' a o):HOk P w (upd H a o) h':=fun b u e=>by
 have hn:=x.fresh hp
 by_cases hb:b=a
 ·subst hb;rw[aj]at e;cases e;exact new
 ·rw[al hb]at e
  exact(x b u e).stay (fun c v _ q=>k c v q) (fun c q=>by rw[al (aq q hn)];exact q) fun c xs q=>by rw[al (aq q hn)];exact q
end
def Rd (H:Hp)(a:Addr)(u:HO):Prop:=H a=some u∨∃o,H a=some (.frz o u)
theorem Rd.ok {P:Gd}{w:GH}{H:Hp}{h:Heap}{a:Addr}{u:HO}(r:Rd H a u)(x:HOk P w H h):aY P w H h a u:=by
 rcases r with r|⟨o,r⟩
 ·exact x a u r
 ·obtain⟨_,q⟩:=x a _ r
  exact q
def Mut:Option HO→Prop
 |some (.lst _)=>True
 |some (.dK _)=>True
 |some (.dT _)=>True
 |some (.set _ _)=>True
 |some (.ins _ _ _)=>True
 |some (.ext _)=>True
 |_=>False
section
variable {P:Gd}{w:GH}{H:Hp}{h h':Heap}{x e:Addr}{o':HO}
theorem HOk.write (ok:HOk P w H h)(mu:Mut (H x))(he:e=x∨H e=some (.own x))(k:∀b u,b≠e→h.get? b=some u→h'.get? b=some u)(heo:∃u,h'.get? e=some u)
  (new:aY P w (upd H x o') h' x o'):HOk P w (upd H x o') h':=fun b u q=>by
 have nown:∀c y,H c=some (.own y)→c≠x:=fun c y r z=>by subst z;rw[r]at mu;exact mu
 have ntup:∀c xs,H c=some (.tup xs)→c≠x:=fun c xs r z=>by subst z;rw[r]at mu;exact mu
 by_cases hb:b=x
 ·subst hb;rw[aj]at q;cases q;exact new
 ·rw[al hb]at q
  by_cases hbe:b=e
  ·have q':H b=some (.own x):=by
    rcases he with z|z
    ·exact absurd (hbe.trans z) hb
    ·rw[hbe];exact z
   rw[q]at q';cases q'
   obtain⟨v,hv⟩:=heo
   exact⟨v,by rw[hbe];exact hv⟩
  ·refine(ok b u q).stay (fun c v hc r=>k c v ?_ r) (fun c r=>by rw[al (nown c b r)];exact r) fun c xs r=>by rw[al (ntup c xs r)];exact r
   rcases hc with rfl|hc
   ·exact hbe
   ·rintro rfl
    rcases he with z|z
    ·exact nown c b hc z
    ·rw[hc]at z;cases z;exact hb rfl
end
structure Un (fs ex:List Addr)(H H':Hp)(h h':Heap):Prop where
 keep:∀b o,h.get? b=some o→H b=none→b∉fs→b∉ex→h'.get? b=some o
 slot:∀b o,h.get? b=some o→H b=none→b∈fs→b∉ex→∃sl,h'.get? b=some {o with slots:=sl}
 free:∀b o,h.get? b=some o→H b=none→b∉ex→H' b=none
 there:∀b o,h.get? b=some o→b∉ex→∃o',h'.get? b=some o'
 tups:∀b xs,H b=some (.tup xs)→H' b=some (.tup xs)
 frzs:∀b o u,H b=some (.frz o u)→H' b=some (.frz o u)
 tbls:∀b ps,H b=some (.tbl ps)→∃more,H' b=some (.tbl (ps++more))
section
variable {fs fs' ex ex':List Addr}{H H1 H2:Hp}{h h1 h2 h':Heap}{a x e:Addr}{o:HO}
theorem Un.any (u:Un fs ex H H1 h h1){b:Addr}{ob:Obj}(q:h.get? b=some ob)(n:H b=none)(hx:b∉ex):∃sl,h1.get? b=some {ob with slots:=sl}:=by
 by_cases hb:b∈fs
 ·exact u.slot b ob q n hb hx
 ·exact⟨ob.slots,u.keep b ob q n hb hx⟩
theorem Un.kept (k:∀b u,h.get? b=some u→h'.get? b=some u):Un fs ex H H h h':=
 ⟨fun b ob q _ _ _=>k b ob q,fun b ob q _ _ _=>⟨ob.slots,k b ob q⟩,fun _ _ _ n _=>n,fun b ob q _=>⟨ob,k b ob q⟩,fun _ _ q=>q,fun _ _ _ q=>q,fun _ ps q=>⟨#[],by rw[q];simp⟩⟩
theorem Un.refl:Un fs ex H H h h:=Un.kept fun _ _ q=>q
theorem Un.laid (k:∀b u,h.get? b=some u→h'.get? b=some u)(hp:h.objs.size≤a)(hn:H a=none):Un fs ex H (upd H a o) h h' where
 keep:=fun b u q _ _ _=>k b u q
 slot:=fun b u q _ _ _=>⟨u.slots,k b u q⟩
 free:=fun b u q n _=>by rw[al (Gf (Ge (FM q) hp))];exact n
 there:=fun b u q _=>⟨u,k b u q⟩
 tups:=fun b xs q=>by rw[al (aq q hn)];exact q
 frzs:=fun b u xs q=>by rw[al (aq q hn)];exact q
 tbls:=fun b ps q=>⟨#[],by rw[al (aq q hn),q];simp⟩
theorem Un.write (mu:Mut (H x))(he:e=x∨H e=some (.own x))(k:∀b u,b≠e→h.get? b=some u→h'.get? b=some u)(heo:∃u,h'.get? e=some u):Un fs ex H (upd H x o) h h':=by
 have hx:∀b,H b=none→b≠x:=fun b n z=>by subst z;rw[n]at mu;exact mu
 have hb:∀b,H b=none→b≠e:=fun b n z=>by
  subst z
  rcases he with r|r
  ·exact hx b n r
  ·rw[n]at r;cases r
 have hm:∀b u,H b=some u→¬Mut (some u)→b≠x:=fun b u q nm z=>by subst z;rw[q]at mu;exact nm mu
 refine⟨fun b u q n _ _=>k b u (hb b n) q,fun b u q n _ _=>⟨u.slots,k b u (hb b n) q⟩,fun b u q n _=>by rw[al (hx b n)];exact n,fun b u q _=>?_,
  fun b xs q=>by rw[al (hm b _ q fun z=>z)];exact q,fun b u xs q=>by rw[al (hm b _ q fun z=>z)];exact q,fun b ps q=>⟨#[],by rw[al (hm b _ q fun z=>z),q];simp⟩⟩
 by_cases hbe:b=e
 ·subst hbe;exact heo
 ·exact⟨u,k b u hbe q⟩
end
def trk (h:Heap)(H:Hp):List Addr:=(Kr h.objs.size).filter fun a=>(H a).isSome
def fY (h:Heap)(H:Hp):Heap:=W.hideAll h (trk h H)
theorem rC (h:Heap)(H:Hp):(fY h H).objs.size=h.objs.size:=W.hideAll_size _ _
theorem vF {h:Heap}{H:Hp}{b:Addr}{o:Obj}(e:h.get? b=some o)(n:H b=none):(fY h H).get? b=some o:=
 LW _ e fun hm=>by
  have q:(H b).isSome=true:=(Nk.mp hm).2
  rw[n]at q;simp at q
theorem wG {h:Heap}{H:Hp}{b:Addr}{o:Obj}(e:(fY h H).get? b=some o):h.get? b=some o∧H b=none:=by
 have e':h.get? b=some o:=W.of_hideAll (trk h H) e
 refine⟨e',?_⟩
 cases q:H b with
 |none=>rfl
 |some x=>
  have hm:b∈trk h H:=Nk.mpr ⟨JX.mpr (FM e'),by simp[q]⟩
  have z:(fY h H).get? b=none:=Kl (trk h H) hm
  rw[z]at e;cases e
def xf (g h:Heap)(L:Addr):List (Addr×Obj):=(Kr h.objs.size).filterMap fun a=>if a=L∨(g.get? a).isSome=true then none else(h.get? a).map fun o=>(a,o)
def bR (g h:Heap)(L d:Addr):List (Addr×Obj):=(xf g h L).filter fun p=>decide (p.1≠d)
structure Mod (K:pz)(mg:Str→Option tx)(base:Heap):Prop where
 kin:K.In base
 glob:base.Ns mainGlobals mg
 blt:∃mb,base.Ns builtinsNs mb∧∀x:Str,x≠"__name__"→mb x=bootBuiltins x
 nolimit:base.NoLimit
set_option genInjectivity false in
set_option genSizeOf false in
structure Cx where
 prog:Gd
 w:GH
 K:pz
 mg:Str→Option tx
 base:Heap
 A:GC
 N:List Str
 s₀:FI
 H₀:Hp
 env:Env
 outer:List Env
 stack:List Env
 ex:List Addr
 fn:Str→Bool
 calm:Bool
 pn:List (Addr×Obj)
 xe:tx→FI→Prop
def frs (l:List Env):List Addr:=l.filterMap (·.frame)
abbrev Cx.fs (X:Cx):List Addr:=frs X.outer
def Vis (sc:Scope)(x:Str):Prop:=sc.names.lookup x=some .local∨sc.names.lookup x=some .cell∨sc.names.lookup x=some .free
def Loc (sc:Scope)(x:Str):Prop:=sc.names.lookup x=some .local∨sc.names.lookup x=some .cell
def AH (env:Env)(h:Heap)(m:Str→Option tx)(x:Str)(u:tx):Prop:=
 (env.kindOf x=some .local∧m x=some u)∨((env.kindOf x=some .cell∨env.kindOf x=some .free)∧∃c,env.cells.lookup x=some c∧h.IsCell c (some u))
set_option genInjectivity false in
set_option genSizeOf false in
structure Cx.Ok (X:Cx):Prop where
 mod:Mod X.K X.mg X.base
 kind:X.env.scope.kind=.function
 glob:X.env.globals=mainGlobals
 blt:X.env.builtins=builtinsNs
 above:X.s₀.heap.objs.size≤X.env.locals
 inj:∀x y c,X.env.cells.lookup x=some c→X.env.cells.lookup y=some c→x=y
 has:∀x,(X.env.kindOf x=some .cell∨X.env.kindOf x=some .free)→∃c,X.env.cells.lookup x=some c
 cab:∀x c,X.fn x=true→X.env.cells.lookup x=some c→X.s₀.heap.objs.size≤c
 hd:X.calm=true→X.A.handled=none
 frames:X.A.frames=some X.stack
 stk:X.stack=X.outer∨(X.stack=X.env::X.outer∧X.env.frame=some X.env.locals)
 exf:∀b∈X.ex,b≠X.env.locals∧∀x c,X.env.cells.lookup x=some c→c≠b
 bs:∀b o,X.base.get? b=some o→X.s₀.heap.get? b=some o∧X.H₀ b=none
 bsz:X.base.objs.size≤X.s₀.heap.objs.size
 noex:∀b o,X.base.get? b=some o→b∉X.ex
 exfs:∀b∈X.ex,b∉X.fs
 funs:X.s₀.heap.FunFrames X.base X.outer
 frf:∀b∈X.fs,X.H₀ b=none
structure Inv (X:Cx)(pins:List (Addr×Obj))(σ:List (Option V))(H:Hp)(s:FI):Prop where
 ok:X.Ok
 os:s.os=X.s₀.os
 bare:Kj s.gens
 base:Un X.fs X.ex X.H₀ H X.s₀.heap s.heap
 loc:∃m,s.heap.Ns X.env.locals m∧∀(i:Nat)(x:Str)(v:V),X.N[i]?=some x→σ[i]?=some (some v)→Vis X.env.scope x→∃u,aO v u∧AH X.env s.heap m x u
 cell:∀x c,X.env.cells.lookup x=some c→∃v,s.heap.IsCell c v
 free:H X.env.locals=none
 freeC:∀x c,X.env.cells.lookup x=some c→H c=none
 pin:∀p∈X.pn++pins,s.heap.get? p.1=some p.2∧H p.1=none∧p.1≠X.env.locals∧p.1∉X.fs∧∀v,p.2.data≠.cell v
 hok:HOk X.prog X.w H s.heap
 len:σ.length=X.N.length
section
variable {X:Cx}{pins:List (Addr×Obj)}{σ:List (Option V)}{H H':Hp}{s:FI}{h':Heap}
theorem Cx.Ok.nofr (ok:X.Ok){b:Addr}{o:Obj}(e:X.base.get? b=some o):b∉X.fs:=fun hb=>by
 have:=(ok.funs.mem hb).1
 rw[e]at this;cases this
theorem Inv.bs (I:Inv X pins σ H s):∀b o,X.base.get? b=some o→s.heap.get? b=some o∧H b=none:=fun b o e=>
 ⟨I.base.keep b o (I.ok.bs b o e).1 (I.ok.bs b o e).2 (I.ok.nofr e) (I.ok.noex b o e),I.base.free b o (I.ok.bs b o e).1 (I.ok.bs b o e).2 (I.ok.noex b o e)⟩
theorem Inv.bk (I:Inv X pins σ H s):∀b o,X.base.get? b=some o→s.heap.get? b=some o:=fun b o e=>(I.bs b o e).1
theorem Inv.mod (I:Inv X pins σ H s):Mod X.K X.mg X.base:=I.ok.mod
theorem Inv.kIn (I:Inv X pins σ H s):X.K.In s.heap:=I.ok.mod.kin.keeps I.bk
theorem Inv.lt (I:Inv X pins σ H s):X.env.locals<s.heap.objs.size:=let ⟨_,hn,_⟩:=I.loc;hn.lt
theorem Inv.sz (I:Inv X pins σ H s):X.s₀.heap.objs.size≤s.heap.objs.size:=Gk I.ok.above (HK I.lt)
theorem Inv.nofs (I:Inv X pins σ H s){a:Addr}(h:s.heap.objs.size≤a):a∉X.fs:=fun hb=>by
 obtain⟨_,o,ho,_⟩:=I.ok.funs.mem hb
 exact absurd (Ge (FM ho) (Gk I.sz h)) (GP _)
theorem Inv.cne (I:Inv X pins σ H s):∀x c,X.env.cells.lookup x=some c→c≠X.env.locals:=fun x c e z=>by
 obtain⟨v,o,ho,hd⟩:=I.cell x c e
 obtain⟨m,⟨o',es,ep,ho',hd',_⟩,_⟩:=I.loc
 rw[z,ho']at ho;cases ho;rw[hd']at hd;cases hd
theorem Inv.funs (I:Inv X pins σ H s):s.heap.FunFrames X.base X.outer:=by
 have all:∀(l:List Env),(∀b∈frs l,b∈X.fs)→X.s₀.heap.FunFrames X.base l→s.heap.FunFrames X.base l:=by
  intro l
  induction l with
  |nil=>intro _ _;trivial
  |cons env r ih=>
   intro hs hl
   obtain⟨hk,⟨L,o,hf,hn,ho,hd⟩,hr⟩:=hl
   have hL:L∈X.fs:=hs L (by unfold frs;rw[HD,hf];exact Gu)
   obtain⟨sl,e⟩:=I.base.slot L o ho (I.ok.frf L hL) hL fun z=>I.ok.exfs L z hL
   exact⟨hk,⟨L,_,hf,hn,e,hd⟩,ih (fun b hb=>hs b (by unfold frs;rw[HD,hf];exact GF _ hb)) hr⟩
 exact all X.outer (fun _ hb=>hb) I.ok.funs
theorem Inv.stack (I:Inv X pins σ H s):s.heap.FunFrames X.base X.stack:=by
 rcases I.ok.stk with e|⟨e,hf⟩
 ·rw[e];exact I.funs
 ·rw[e]
  obtain⟨m,hn,_⟩:=I.loc
  refine .cons (by rw[I.ok.kind];decide) hf hn ?_ I.funs
  exact Heap.get?_none_of_le (Gk I.ok.bsz I.ok.above)
theorem Inv.stkSub (I:Inv X pins σ H s):∀b∈frs X.stack,b∈X.env.locals::X.fs:=fun b hb=>by
 rcases I.ok.stk with e|⟨e,hf⟩
 ·rw[e]at hb;exact GF _ hb
 ·rw[e]at hb
  unfold frs at hb
  rw[HD,hf]at hb
  exact hb
theorem Inv.stkFree (I:Inv X pins σ H s):∀b∈frs X.stack,H b=none:=fun b hb=>by
 rcases Gh.mp (I.stkSub b hb)with e|hb
 ·rw[e];exact I.free
 ·obtain⟨_,o,ho,_⟩:=I.ok.funs.mem hb
  exact I.base.free b o ho (I.ok.frf b hb) fun z=>I.ok.exfs b z hb
theorem Inv.step {g':Array JA}{t':Nat}{d':Drawn}{ch:List Addr}(I:Inv X pins σ H s)
  (hch:∀b∈ch,(b∈X.ex∨X.s₀.heap.objs.size≤b)∧b≠X.env.locals∧(∀x c,X.env.cells.lookup x=some c→c≠b)∧∀p∈X.pn++pins,p.1≠b)
  (keep:∀b o,b≠X.env.locals→b∉X.fs→b∉ch→s.heap.get? b=some o→H b=none→h'.get? b=some o)
  (slot:∀b o,b≠X.env.locals→b∈X.fs→b∉ch→s.heap.get? b=some o→H b=none→∃sl,h'.get? b=some {o with slots:=sl})(free:∀b o,b∉ch→s.heap.get? b=some o→H b=none→H' b=none)
  (there:∀b o,b∉ch→s.heap.get? b=some o→∃o',h'.get? b=some o')
  (tups:∀b xs,H b=some (.tup xs)→H' b=some (.tup xs))(frzs:∀b o u,H b=some (.frz o u)→H' b=some (.frz o u))(tbls:∀b ps,H b=some (.tbl ps)→∃more,H' b=some (.tbl (ps++more)))
  (ns:∀m,s.heap.Ns X.env.locals m→h'.Ns X.env.locals m)(hok:HOk X.prog X.w H' h')(hg:Kj g'):
  Inv X pins σ H' {s with heap:=h',gens:=g',drawn:=d',toks:=t'}:=by
 have neL:∀b o,X.s₀.heap.get? b=some o→b≠X.env.locals:=fun b o e=>Gf (Ge (FM e) I.ok.above)
 have neC:∀b o,X.s₀.heap.get? b=some o→b∉X.ex→b∉ch:=fun b o e hx hb=>by
  rcases(hch b hb).1 with z|z
  ·exact hx z
  ·exact absurd (Ge (FM e) z) (GP _)
 have cellK:∀x c,X.env.cells.lookup x=some c→∀v,s.heap.IsCell c v→h'.IsCell c v:=fun x c e v ⟨o,ho,hd⟩=>by
  have nch:c∉ch:=fun z=>(hch c z).2.2.1 x c e rfl
  by_cases hc:c∈X.fs
  ·obtain⟨sl,q⟩:=slot c o (I.cne x c e) hc nch ho (I.freeC x c e)
   exact⟨_,q,hd⟩
  ·exact⟨o,keep c o (I.cne x c e) hc nch ho (I.freeC x c e),hd⟩
 refine⟨I.ok,I.os,hg,⟨fun b o e n hb hx=>?_,fun b o e n hb hx=>?_,fun b o e n hx=>?_,fun b o e hx=>?_,fun b xs e=>tups b xs (I.base.tups b xs e),fun b o xs e=>frzs b o xs (I.base.frzs b o xs e),fun b ps e=>?_⟩,?_,fun x c e=>?_,?_,fun x c e=>?_,fun p hp=>?_,hok,I.len⟩
 ·exact keep b o (neL b o e) hb (neC b o e hx) (I.base.keep b o e n hb hx) (I.base.free b o e n hx)
 ·obtain⟨sl,e1⟩:=I.base.slot b o e n hb hx
  obtain⟨sl',e2⟩:=slot b _ (neL b o e) hb (neC b o e hx) e1 (I.base.free b o e n hx)
  exact⟨sl',e2⟩
 ·obtain⟨o',e1⟩:=I.base.there b o e hx
  exact free b o' (neC b o e hx) e1 (I.base.free b o e n hx)
 ·obtain⟨o',e1⟩:=I.base.there b o e hx
  exact there b o' (neC b o e hx) e1
 ·obtain⟨m1,e1⟩:=I.base.tbls b ps e
  obtain⟨m2,e2⟩:=tbls b _ e1
  exact⟨m1++m2,by rw[e2,Array.append_assoc]⟩
 ·obtain⟨m,hn,hl⟩:=I.loc
  refine⟨m,ns m hn,fun i x v e1 e2 e3=>?_⟩
  obtain⟨u,r,l⟩:=hl i x v e1 e2 e3
  refine⟨u,r,?_⟩
  rcases l with l|⟨k,c,e,z⟩
  ·exact .inl l
  ·exact .inr ⟨k,c,e,cellK x c e _ z⟩
 ·obtain⟨v,z⟩:=I.cell x c e
  exact⟨v,cellK x c e v z⟩
 ·obtain⟨m,⟨o,_,_,ho,_⟩,_⟩:=I.loc
  exact free _ o (fun z=>(hch _ z).2.1 rfl) ho I.free
 ·obtain⟨v,o,ho,hd⟩:=I.cell x c e
  exact free c o (fun z=>(hch c z).2.2.1 x c e rfl) ho (I.freeC x c e)
 ·obtain⟨e,n,ne,nf,d⟩:=I.pin p hp
  have nch:p.1∉ch:=fun z=>(hch p.1 z).2.2.2 p hp rfl
  exact⟨keep p.1 p.2 ne nf nch e n,free p.1 p.2 nch e n,ne,nf,d⟩
theorem Inv.un {t':Nat}(I:Inv X pins σ H s)(u:Un X.fs [] H H' s.heap h')(hok:HOk X.prog X.w H' h'):Inv X pins σ H' {s with heap:=h',toks:=t'}:=by
 obtain⟨m,⟨o,es,ep,ho,r⟩,_⟩:=id I.loc
 obtain⟨sl,hL⟩:=u.any ho I.free (by simp)
 exact I.step (g':=s.gens) (d':=s.drawn) (ch:=[]) (fun _ z=>nomatch z) (fun b o _ hb _ e n=>u.keep b o e n hb (by simp)) (fun b o _ hb _ e n=>u.slot b o e n hb (by simp)) (fun b o _ e n=>u.free b o e n (by simp)) (fun b o _ e=>u.there b o e (by simp)) u.tups u.frzs u.tbls (fun m' hm=>by
  obtain⟨o',es',ep',ho',r'⟩:=hm
  rw[ho]at ho';cases ho'
  exact⟨_,es',ep',hL,r'⟩) hok I.bare
theorem Inv.call {g':Array JA}{t':Nat}{d':Drawn}{ch:List Addr}(I:Inv X pins σ H s)(u:Un (frs X.stack) ch H H' s.heap h')(hok:HOk X.prog X.w H' h')(hg:Kj g')
  (hch:∀b∈ch,(b∈X.ex∨X.s₀.heap.objs.size≤b)∧b≠X.env.locals∧(∀x c,X.env.cells.lookup x=some c→c≠b)∧∀p∈X.pn++pins,p.1≠b):
  Inv X pins σ H' {s with heap:=h',gens:=g',drawn:=d',toks:=t'}:=by
 obtain⟨m,⟨o,es,ep,ho,r⟩,_⟩:=id I.loc
 obtain⟨sl,hL⟩:=u.any ho I.free fun z=>(hch _ z).2.1 rfl
 exact I.step (ch:=ch) hch (fun b o hL hb hc e n=>u.keep b o e n (fun z=>(Gh.mp (I.stkSub b z)).elim hL hb) hc) (fun b o _ _ hc e n=>u.any e n hc) (fun b o hc e n=>u.free b o e n hc) (fun b o hc e=>u.there b o e hc) u.tups u.frzs u.tbls (fun m' hm=>by
  obtain⟨o',es',ep',ho',r'⟩:=hm
  rw[ho]at ho';cases ho'
  exact⟨_,es',ep',hL,r'⟩) hok hg
theorem Inv.turned {t':Nat}{it:Addr}(I:Inv X pins σ H s)(k:∀b o,b≠it→s.heap.get? b=some o→h'.get? b=some o)(hn:H it=none)(hL:it≠X.env.locals)
  (h1:it∈X.ex∨X.s₀.heap.objs.size≤it)(h2:∀x c,X.env.cells.lookup x=some c→c≠it)(h3:∀p∈X.pn++pins,p.1≠it):Inv X pins σ H {s with heap:=h',toks:=t'}:=by
 have nit:∀b u,H b=some u→b≠it:=fun b u e z=>by rw[z,hn]at e;cases e
 refine I.step (g':=s.gens) (d':=s.drawn) (ch:=[it]) (fun b hb=>?_) (fun b o _ _ hc e _=>k b o (fun z=>hc (by simp[z])) e) (fun b o _ _ hc e _=>⟨o.slots,k b o (fun z=>hc (by simp[z])) e⟩) (fun _ _ _ _ n=>n)
  (fun b o hc e=>⟨o,k b o (fun z=>hc (by simp[z])) e⟩) (fun _ _ e=>e) (fun _ _ _ e=>e) (fun b ps e=>⟨#[],by rw[e];simp⟩) (fun m hm=>?_) (fun b u e=>?_) I.bare
 ·have e:b=it:=by simpa using hb
  subst e
  exact⟨h1,hL,h2,h3⟩
 ·obtain⟨o,es,ep,ho,r⟩:=hm
  exact⟨o,es,ep,k _ o (Gt hL) ho,r⟩
 ·refine(I.hok b u e).stay (fun c v hc q=>k c v ?_ q) (fun _ q=>q) fun _ _ q=>q
  rcases hc with z|z
  ·rw[z];exact nit b u e
  ·exact nit c _ z
theorem Inv.tok (I:Inv X pins σ H s)(t:Nat):Inv X pins σ H {s with toks:=t}:=I.un (h':=s.heap) (t':=t) Un.refl I.hok
theorem Inv.kept {t':Nat}(I:Inv X pins σ H s)(k:∀b u,s.heap.get? b=some u→h'.get? b=some u):Inv X pins σ H {s with heap:=h',toks:=t'}:=I.un (Un.kept k) (I.hok.kept k)
theorem Inv.laid {a:Addr}{o:HO}{t':Nat}(I:Inv X pins σ H s)(k:∀b u,s.heap.get? b=some u→h'.get? b=some u)(hp:s.heap.objs.size≤a)(new:aY X.prog X.w (upd H a o) h' a o):
 Inv X pins σ (upd H a o) {s with heap:=h',toks:=t'}:=I.un (Un.laid k hp (I.hok.fresh hp)) (I.hok.laid k hp new)
theorem Inv.write {x e:Addr}{o:HO}{t':Nat}(I:Inv X pins σ H s)(mu:Mut (H x))(he:e=x∨H e=some (.own x))(k:∀b u,b≠e→s.heap.get? b=some u→h'.get? b=some u)(heo:∃u,h'.get? e=some u)
 (new:aY X.prog X.w (upd H x o) h' x o):Inv X pins σ (upd H x o) {s with heap:=h',toks:=t'}:=I.un (Un.write mu he k heo) (I.hok.write mu he k heo new)
theorem Inv.pins_of {pins':List (Addr×Obj)}(I:Inv X pins σ H s)(h:∀p∈pins',s.heap.get? p.1=some p.2∧H p.1=none∧p.1≠X.env.locals∧p.1∉X.fs∧∀v,p.2.data≠.cell v):Inv X pins' σ H s:=
 ⟨I.ok,I.os,I.bare,I.base,I.loc,I.cell,I.free,I.freeC,fun p hp=>(Gs.mp hp).elim (fun z=>I.pin p (Hz _ z)) (h p),I.hok,I.len⟩
theorem nI {N:List Str}(hN:N.Nodup){i j:Nat}{x:Str}(a:N[i]?=some x)(b:N[j]?=some x):i=j:=by
 obtain⟨h1,e1⟩:=FN.mp a
 obtain⟨h2,e2⟩:=FN.mp b
 exact(MZ hN).mp (e1.trans e2.symm)
theorem lZ {M:Model}{A:GC}{E:tx→FI→Prop}{i:Nat}{x:Str}{v:V}{u:tx}{Q:Unit→FI→Prop}(I:Inv X pins σ H s)(hN:X.N.Nodup)(hi:X.N[i]?=some x)(hx:Loc X.env.scope x)(r:aO v u)
  (h:∀s',Inv X pins (σ.set i (some v)) H s'→(∃a,HU a s.heap s'.heap∧(a=X.env.locals∨X.env.cells.lookup x=some a))→Q () s')(hf:X.fn x=true∨X.env.scope.names.lookup x=some .local:=by first|exact .inl rfl|exact .inr rfl|assumption):wpAny M A (storeName X.env x u) Q E s:=by
 obtain⟨m,hn,hl⟩:=id I.loc
 have hcls:(X.env.scope.kind==.class||(X.env.scope.kind==.module&&X.env.locals !=X.env.globals))=false:=by rw[I.ok.kind];rfl
 have hiσ:i<σ.length:=by rw[I.len];exact(FN.mp hi).1
 have cne:=I.cne
 have tracked:∀{a:Addr}{h':Heap},(∃o,s.heap.get? a=some o∧H a=none)→HU a s.heap h'→HOk X.prog X.w H h':=fun{a h'} ha hs b ob e=>by
  obtain⟨_,_,hfree⟩:=ha
  refine(I.hok b ob e).stay (fun c w' hc q=>(hs.2 c ?_).trans q) (fun _ q=>q) fun _ _ q=>q
  rintro rfl
  rcases hc with rfl|hc
  ·rw[hfree]at e;cases e
  ·rw[hfree]at hc;cases hc
 rcases hx with hk|hk
 ·refine wpAny_storeName_local hk hn (fun h' hn' hs=>?_) hcls
  obtain⟨oL,_,_,hoL,_⟩:=id hn
  refine h _ ⟨I.ok,I.os,I.bare,⟨fun b o e n hb hx=>?_,fun b o e n hb hx=>?_,I.base.free,fun b o e hx=>?_,I.base.tups,I.base.frzs,I.base.tbls⟩,⟨_,hn',fun j y v' e1 e2 e3=>?_⟩,fun y c e=>?_,I.free,I.freeC,fun p hp=>?_,tracked ⟨oL,hoL,I.free⟩ hs,by simpa using I.len⟩ ⟨_,hs,.inl rfl⟩
  ·exact(hs.2 b (Gf (Ge (FM e) I.ok.above))).trans (I.base.keep b o e n hb hx)
  ·obtain⟨sl,e1⟩:=I.base.slot b o e n hb hx
   exact⟨sl,(hs.2 b (Gf (Ge (FM e) I.ok.above))).trans e1⟩
  ·obtain⟨o',e1⟩:=I.base.there b o e hx
   exact⟨o',(hs.2 b (Gf (Ge (FM e) I.ok.above))).trans e1⟩
  ·by_cases hj:j=i
   ·subst hj
    rw[hi]at e1;cases e1
    rw[LH hiσ]at e2
    cases e2
    exact⟨u,r,.inl ⟨hk,by simp⟩⟩
   ·rw[Me (Gt hj)]at e2
    obtain⟨u',r',q⟩:=hl j y v' e1 e2 e3
    refine⟨u',r',?_⟩
    rcases q with⟨k,e⟩|⟨k,c,e,z⟩
    ·refine .inl ⟨k,?_⟩
     have:y≠x:=fun e=>hj (nI hN e1 (e▸hi))
     simp[this,e]
    ·exact .inr ⟨k,c,e,z.sameBut hs (cne y c e)⟩
  ·obtain⟨w',z⟩:=I.cell y c e
   exact⟨w',z.sameBut hs (cne y c e)⟩
  ·obtain⟨e,n,ne,nf,d⟩:=I.pin p hp
   exact⟨(hs.2 p.1 ne).trans e,n,ne,nf,d⟩
 ·have hfn:X.fn x=true:=by
   rcases hf with z|z
   ·exact z
   ·rw[z]at hk;cases hk
  obtain⟨c,hc⟩:=I.ok.has x (.inl hk)
  obtain⟨w',z⟩:=I.cell x c hc
  refine wpAny_storeName_cell I.ok.kind hk hc z (fun h' hc' hs=>?_)
  obtain⟨oc,hoc,hocd⟩:=id z
  refine h {s with heap:=h'} ⟨I.ok,I.os,I.bare,⟨fun b o e n hb hx=>?_,fun b o e n hb hx=>?_,I.base.free,fun b o e hx=>?_,I.base.tups,I.base.frzs,I.base.tbls⟩,⟨m,hn.sameBut hs (Gt (cne x c hc)),fun j y v' e1 e2 e3=>?_⟩,fun y c' e=>?_,I.free,I.freeC,fun p hp=>?_,tracked ⟨oc,hoc,I.freeC x c hc⟩ hs,by simpa using I.len⟩ ⟨c,hs,.inr hc⟩
  ·exact(hs.2 b (Gf (Ge (FM e) (I.ok.cab x c hfn hc)))).trans (I.base.keep b o e n hb hx)
  ·obtain⟨sl,e1⟩:=I.base.slot b o e n hb hx
   exact⟨sl,(hs.2 b (Gf (Ge (FM e) (I.ok.cab x c hfn hc)))).trans e1⟩
  ·obtain⟨o',e1⟩:=I.base.there b o e hx
   exact⟨o',(hs.2 b (Gf (Ge (FM e) (I.ok.cab x c hfn hc)))).trans e1⟩
  ·by_cases hj:j=i
   ·subst hj
    rw[hi]at e1;cases e1
    rw[LH hiσ]at e2
    cases e2
    exact⟨u,r,.inr ⟨.inl hk,c,hc,hc'⟩⟩
   ·rw[Me (Gt hj)]at e2
    obtain⟨u',r',q⟩:=hl j y v' e1 e2 e3
    refine⟨u',r',?_⟩
    rcases q with q|⟨k,c',e,z'⟩
    ·exact .inl q
    ·refine .inr ⟨k,c',e,z'.sameBut hs ?_⟩
     rintro rfl
     exact hj (nI hN e1 (I.ok.inj _ _ _ e hc▸hi))
  ·by_cases hcc:c'=c
   ·subst hcc;exact⟨_,hc'⟩
   ·obtain⟨w2,z2⟩:=I.cell y c' e
    exact⟨w2,z2.sameBut hs hcc⟩
  ·obtain⟨e,n,ne,nf,d⟩:=I.pin p hp
   refine⟨(hs.2 p.1 ?_).trans e,n,ne,nf,d⟩
   intro q
   rw[q,hoc]at e
   have q':oc=p.2:=FY e
   exact d w' (by rw[←q'];exact hocd)
theorem fZ {M:Model}{A:GC}{E:tx→FI→Prop}{i:Nat}{x:Str}{v:V}{u:tx}{Q:Unit→FI→Prop}(I:Inv X pins σ H s)(hN:X.N.Nodup)(hi:X.N[i]?=some x)(hx:Loc X.env.scope x)(r:aO v u)
  (h:∀s',Inv X pins (σ.set i (some v)) H s'→Q () s')(hf:X.fn x=true∨X.env.scope.names.lookup x=some .local:=by first|exact .inl rfl|exact .inr rfl|assumption):wpAny M A (storeName X.env x u) Q E s:=
 lZ I hN hi hx r (fun s' I' _=>h s' I') hf
theorem Inv.call' {s':FI}{ch:List Addr}(I:Inv X pins σ H s)(ho:s'.os=s.os)(u:Un (frs X.stack) ch H H' s.heap s'.heap)(hok:HOk X.prog X.w H' s'.heap)(hg:Kj s'.gens)
  (hch:∀b∈ch,(b∈X.ex∨X.s₀.heap.objs.size≤b)∧b≠X.env.locals∧(∀x c,X.env.cells.lookup x=some c→c≠b)∧∀p∈X.pn++pins,p.1≠b):Inv X pins σ H' s':=by
 obtain⟨h',g',d',t',o'⟩:=s'
 have e:o'=s.os:=ho
 subst e
 exact I.call (g':=g') (t':=t') (d':=d') u hok hg hch
end
abbrev XK:=tx→Option Addr→Hp→Prop
abbrev St:=List (Option V)
abbrev VK:=V→Hp→Prop
abbrev TE:=St→Hp→VK→Prop
abbrev TT:=St→Hp→(Bool→Hp→Prop)→Prop
abbrev TA:=St→Hp→(List V→Hp→Prop)→Prop
structure eZ where
 nx:St→Hp→Prop
 rt:VK
 bk:St→Hp→Prop:=fun _ _=>False
 ct:St→Hp→Prop:=fun _ _=>False
abbrev TS:=eZ→St→Hp→Prop
def EP (X:Cx)(pins:List (Addr×Obj))(σ:St)(Q:VK)(u:tx)(s':FI):Prop:=∃v H',Inv X pins σ H' s'∧aO v u∧Q v H'
def TP (X:Cx)(pins:List (Addr×Obj))(σ:St)(Q:Bool→Hp→Prop)(b:Bool)(s':FI):Prop:=∃H',Inv X pins σ H' s'∧Q b H'
def AP (X:Cx)(pins:List (Addr×Obj))(σ:St)(Q:List V→Hp→Prop)(us:List tx)(s':FI):Prop:=∃vs H',Inv X pins σ H' s'∧aJ vs us∧Q vs H'
def SP (X:Cx)(pins:List (Addr×Obj))(D:eZ)(f:Flow)(s':FI):Prop:=
 match f with
 |.next=>∃σ' H',Inv X pins σ' H' s'∧D.nx σ' H'
 |.brk=>∃σ' H',Inv X pins σ' H' s'∧D.bk σ' H'
 |.cont=>∃σ' H',Inv X pins σ' H' s'∧D.ct σ' H'
 |.ret u=>∃v σ' H',Inv X pins σ' H' s'∧aO v u∧D.rt v H'
def PE (X:Cx)(e:Expr)(t:TE):Prop:=
 ∀(pins:List (Addr×Obj))(s:FI)(σ:St)(H:Hp)(Q:VK),Inv X pins σ H s→t σ H Q→wpAny (model X.prog X.w) X.A (eval e X.env) (EP X pins σ Q) X.xe s
def PT (X:Cx)(e:Expr)(t:TT):Prop:=
 ∀(pins:List (Addr×Obj))(s:FI)(σ:St)(H:Hp)(Q:Bool→Hp→Prop),Inv X pins σ H s→t σ H Q→wpAny (model X.prog X.w) X.A (isTrue e X.env (eval e X.env)) (TP X pins σ Q) X.xe s
def PW (X:Cx)(e:Expr)(t:TT):Prop:=
 ∀(whole:Sem tx)(pins:List (Addr×Obj))(s:FI)(σ:St)(H:Hp)(Q:Bool→Hp→Prop),Inv X pins σ H s→t σ H Q→wpAny (model X.prog X.w) X.A (isTrue e X.env whole) (TP X pins σ Q) X.xe s
theorem PW.pt {X:Cx}{e:Expr}{t:TT}(h:PW X e t):PT X e t:=h _
def PA (X:Cx)(es:List Expr)(t:TA):Prop:=
 ∀(pos:Pos)(pins:List (Addr×Obj))(s:FI)(σ:St)(H:Hp)(Q:List V→Hp→Prop),Inv X pins σ H s→t σ H Q→wpAny (model X.prog X.w) X.A (spliced (backTo pos (starEach es X.env))) (AP X pins σ Q) X.xe s
def PS (X:Cx)(st:Stmt)(t:TS):Prop:=
 ∀(pins:List (Addr×Obj))(s:FI)(σ:St)(H:Hp)(D:eZ),Inv X pins σ H s→t D σ H→wpAny (model X.prog X.w) X.A (exec st X.env) (SP X pins D) X.xe s
def PSs (X:Cx)(st:List Stmt)(t:TS):Prop:=
 ∀(pins:List (Addr×Obj))(s:FI)(σ:St)(H:Hp)(D:eZ),Inv X pins σ H s→t D σ H→wpAny (model X.prog X.w) X.A (execs st X.env) (SP X pins D) X.xe s
theorem thn {α:Type}{t:Sem α}{Q Q':α→FI→Prop}{M:Model}{A:GC}{E:tx→FI→Prop}{s:FI}(h:wpAny M A t Q E s)(hQ:∀a s,Q a s→Q' a s):wpAny M A t Q' E s:=Gj h hQ fun _ _ x=>x
section
variable {X:Cx}
def ER (i:Nat):TE:=fun σ H Q=>∃v,σ[i]?=some (some v)∧Q v H
def tC (v:V):TE:=fun _ H Q=>Q v H
theorem zR {i:Nat}{x:Str}{pos:Pos}(hN:X.N[i]?=some x)(hv:Vis X.env.scope x)(hd:(x==("__debug__":Str))=false:=by decide)(hcd:(x==("__classdict__":Str))=false:=by decide):PE X (.Name x pos) (ER i):=by
 intro pins s σ H Q I h
 obtain⟨v,e,h⟩:=h
 obtain⟨m,hn,hl⟩:=I.loc
 obtain⟨u,r,l⟩:=hl i x v hN e hv
 have fin:EP X pins σ Q u s:=⟨v,H,I,r,h⟩
 rcases l with⟨hk,hm⟩|⟨hk,c,hc,hcell⟩
 ·exact NO (wpAny_loadName_local I.ok.kind hk hn hm fin) hd
 ·rcases hk with hk|hk
  ·exact NO (wpAny_loadName_cell I.ok.kind hk hc hcell fin) hd
  ·exact NO (wpAny_loadName_free I.ok.kind hk hc hcell fin hcd) hd
theorem zm {i j pos}:PE X (.Constant (.int i) j pos) (tC (.int i)):=fun _ _ _ H _ I h=>wpAny_Constant_int ⟨.int i,H,I.tok _,⟨_,rfl⟩,h⟩
theorem Cq {b j pos}:PE X (.Constant (.bool b) j pos) (tC (.bl b)):=fun _ _ _ H _ I h=>Constant_bool ⟨.bl b,H,I,rfl,h⟩
theorem yJ {j pos}:PE X (.Constant .none j pos) (tC .non):=fun _ _ _ H _ I h=>Constant_none ⟨.non,H,I,rfl,h⟩
theorem yc {x j pos}:PE X (.Constant (.str x) j pos) (tC (.str x)):=fun _ _ _ H _ I h=>Calls.Constant_str ⟨.str x,H,I.tok _,⟨_,rfl⟩,h⟩
def Gl (X:Cx)(x:Str):Prop:=X.env.kindOf x=some .globalImplicit
theorem oW {E:tx→FI→Prop}{pins:List (Addr×Obj)}{s:FI}{σ:St}{H:Hp}{x:Str}{u:tx}{pos:Pos}{Q:tx→FI→Prop}(I:Inv X pins σ H s)(hg:Gl X x)(hm:X.mg x=some u)(h:Q u s)
  (hd:(x==("__debug__":Str))=false:=by decide):wpAny (model X.prog X.w) X.A (eval (.Name x pos) X.env) Q E s:=
 Jf I.ok.kind hg (Lq (by rw[I.ok.glob];exact I.mod.glob.keeps I.bk) hm h) hd
theorem dB {E:tx→FI→Prop}{pins:List (Addr×Obj)}{s:FI}{σ:St}{H:Hp}{x:Str}{u:tx}{pos:Pos}{Q:tx→FI→Prop}(I:Inv X pins σ H s)(hg:Gl X x)(hm:X.mg x=none)(hv:bootBuiltins x=some u)(h:Q u s)
  (hn:x≠"__name__":=by decide)(hd:(x==("__debug__":Str))=false:=by decide):wpAny (model X.prog X.w) X.A (eval (.Name x pos) X.env) Q E s:=by
 obtain⟨mb,h1,h2⟩:=I.mod.blt
 exact Jf I.ok.kind hg (Calls.loadGlobal_builtin (by rw[I.ok.glob];exact I.mod.glob.keeps I.bk) hm (by rw[I.ok.blt];exact h1.keeps I.bk) ((h2 x hn).trans hv) h) hd
theorem wK {x:Str}{v:V}{u:tx}{pos:Pos}(hg:Gl X x)(hm:X.mg x=none)(hv:bootBuiltins x=some u)(r:aO v u)(hn:x≠"__name__":=by decide)(hd:(x==("__debug__":Str))=false:=by decide):PE X (.Name x pos) (tC v):=
 fun _ _ _ H _ I h=>dB I hg hm hv ⟨v,H,I,r,h⟩ hn hd
variable {a b:Expr}{ta tb:TE}{pos:Pos}
variable {tA tB':TT}{bR:List Expr}
def eW (t:TT):TT:=fun σ H Q=>t σ H fun c H1=>Q (!c) H1
theorem wU (ha:PT X a tA):PW X (.BoolOp .And [a] pos) tA:=by
 intro wh pins s σ H Q I h
 refine isTrue_and (thn (ha pins s σ H Q I h) fun c s1 e=>?_)
 cases c with
 |true=>exact isTrue_and_nil e
 |false=>exact e
theorem zL (ha:PT X a tA):PW X (.BoolOp .Or [a] pos) tA:=by
 intro wh pins s σ H Q I h
 refine isTrue_or (thn (ha pins s σ H Q I h) fun c s1 e=>?_)
 cases c with
 |false=>exact isTrue_or_nil e
 |true=>exact e
theorem Ap (ha:PT X a tA):PT X (.UnaryOp .Not a pos) (eW tA):=by
 intro pins s σ H Q I h
 exact isTrue_not (ha pins s σ H (fun c H1=>Q (!c) H1) I h)
theorem yi {op}{t:TE}(h:PE X a t):PE X (.BoolOp op [a] pos) t:=fun pins s σ H Q I hw=>BoolOp_one (h pins s σ H Q I hw)
end
def SqL (K:pz)(H:Hp)(a:Addr)(xs:List V):Prop:=
 Rd H a (.lst xs)∨
  ∃(o:Obj)(its:Array tx)(n:Nat),K.lookup a=some o∧o.cls=.type "list"∧o.dict=none∧o.data=.seq its n∧its.size≤sizeLine∧aJ xs its.toList
def SqT (K:pz)(H:Hp)(a:Addr)(xs:List V):Prop:=
 Rd H a (.tup xs)∨
  ∃(o:Obj)(its:Array tx)(n:Nat),K.lookup a=some o∧o.cls=.type "tuple"∧o.data=.seq its n∧its.size≤sizeLine∧aJ xs its.toList
def EI:tx→Option V
 |.none=>some .non
 |.bool b=>some (.bl b)
 |.int i _=>some (.int i)
 |.str x _=>some (.str x)
 |.bytes b _=>some (.byt b)
 |.float b _=>some (.flt b)
 |.ref a=>some (.ref a)
 |.type n=>some (.ty n)
 |_=>none
theorem aO.abs {x:V}{u:tx}(r:aO x u):EI u=some x:=by
 cases x with
 |non=>cases r;rfl
 |bl _=>cases r;rfl
 |int _=>obtain⟨t,rfl⟩:=r;rfl
 |str _=>obtain⟨t,rfl⟩:=r;rfl
 |byt _=>obtain⟨t,rfl⟩:=r;rfl
 |flt _=>obtain⟨t,rfl⟩:=r;rfl
 |ref _=>cases r;rfl
 |ty _=>cases r;rfl
theorem aO.inj {x y:V}{u:tx}(r:aO x u)(q:aO y u):x=y:=FY (r.abs.symm.trans q.abs)
theorem aJ.inj:∀{xs ys:List V}{us:List tx},aJ xs us→aJ ys us→xs=ys
 |_,_,_,.nil,.nil=>rfl
 |_,_,_,.cons r t,.cons r' t'=>by rw[r.inj r',aJ.inj t t']
section
variable {X:Cx}{pins:List (Addr×Obj)}{σ:St}{H:Hp}{s:FI}{a:Addr}{xs ys:List V}
theorem SqL.of {K:pz}(h:H a=some (.lst xs)):SqL K H a xs:=.inl (.inl h)
theorem SqT.of {K:pz}(h:H a=some (.tup xs)):SqT K H a xs:=.inl (.inl h)
theorem Inv.list (I:Inv X pins σ H s)(h:SqL X.K H a xs):∃its:List tx,aJ xs its∧PlainL s.heap a its.toArray∧xs.length≤sizeLine:=by
 rcases h with h|⟨o,its,n,hk,hc,hd,hs,hz,r⟩
 ·obtain⟨z,its,n,r,e⟩:=h.ok I.hok
  exact⟨its,r,⟨_,n,e,rfl,rfl,rfl⟩,z⟩
 ·refine⟨its.toList,r,⟨o,n,I.kIn a o hk,hc,hd,by simpa using hs⟩,?_⟩
  have e:=r.length
  simp only[HW]at e
  omega
theorem Inv.tuple (I:Inv X pins σ H s)(h:SqT X.K H a xs):∃its:List tx,aJ xs its∧KF s.heap a its.toArray∧xs.length≤sizeLine:=by
 rcases h with h|⟨o,its,n,hk,hc,hs,hz,r⟩
 ·obtain⟨z,its,r,p⟩:=h.ok I.hok
  exact⟨its,r,p,z⟩
 ·refine⟨its.toList,r,⟨o,I.kIn a o hk,hc,n,by simpa using hs⟩,?_⟩
  have e:=r.length
  simp only[HW]at e
  omega
theorem Inv.list_inj (I:Inv X pins σ H s)(h:SqL X.K H a xs)(h':SqL X.K H a ys):xs=ys:=by
 obtain⟨its,r,⟨o,n,e,_,_,d⟩,_⟩:=I.list h
 obtain⟨its',r',⟨o',n',e',_,_,d'⟩,_⟩:=I.list h'
 rw[e]at e';cases e'
 rw[d]at d'
 injection d' with d1 _
 have:its=its':=by simpa using congrArg NI d1
 subst this
 exact r.inj r'
theorem Inv.tuple_inj (I:Inv X pins σ H s)(h:SqT X.K H a xs)(h':SqT X.K H a ys):xs=ys:=by
 obtain⟨its,r,⟨o,e,_,n,d⟩,_⟩:=I.tuple h
 obtain⟨its',r',⟨o',e',_,n',d'⟩,_⟩:=I.tuple h'
 rw[e]at e';cases e'
 rw[d]at d'
 injection d' with d1 _
 have:its=its':=by simpa using congrArg NI d1
 subst this
 exact r.inj r'
end
abbrev Cx.wish (X:Cx)(E:tx→FI→Prop):Cx:={X with xe:=E}
abbrev Cx.nox (X:Cx):Cx:=X.wish fun _ _=>False
theorem Cx.Ok.wish {X:Cx}(ok:X.Ok)(E:tx→FI→Prop):(X.wish E).Ok:=
 ⟨ok.mod,ok.kind,ok.glob,ok.blt,ok.above,ok.inj,ok.has,ok.cab,ok.hd,ok.frames,ok.stk,ok.exf,ok.bs,ok.bsz,ok.noex,ok.exfs,ok.funs,ok.frf⟩
theorem Cx.Ok.unwish {X:Cx}{E:tx→FI→Prop}(ok:(X.wish E).Ok):X.Ok:=
 ⟨ok.mod,ok.kind,ok.glob,ok.blt,ok.above,ok.inj,ok.has,ok.cab,ok.hd,ok.frames,ok.stk,ok.exf,ok.bs,ok.bsz,ok.noex,ok.exfs,ok.funs,ok.frf⟩
section
variable {X:Cx}{pins:List (Addr×Obj)}{σ:St}{H:Hp}{s:FI}{E:tx→FI→Prop}
theorem Inv.wish (I:Inv X pins σ H s)(E:tx→FI→Prop):Inv (X.wish E) pins σ H s:=⟨I.ok.wish E,I.os,I.bare,I.base,I.loc,I.cell,I.free,I.freeC,I.pin,I.hok,I.len⟩
theorem Inv.unwish (I:Inv (X.wish E) pins σ H s):Inv X pins σ H s:=⟨I.ok.unwish,I.os,I.bare,I.base,I.loc,I.cell,I.free,I.freeC,I.pin,I.hok,I.len⟩
theorem SP.unwish {D:eZ}{f:Flow}{s':FI}(h:SP (X.wish E) pins D f s'):SP X pins D f s':=by
 cases f with
 |next=>obtain⟨σ',H',I,q⟩:=h;exact⟨σ',H',I.unwish,q⟩
 |brk=>obtain⟨σ',H',I,q⟩:=h;exact⟨σ',H',I.unwish,q⟩
 |cont=>obtain⟨σ',H',I,q⟩:=h;exact⟨σ',H',I.unwish,q⟩
 |ret u=>obtain⟨v,σ',H',I,r,q⟩:=h;exact⟨v,σ',H',I.unwish,r,q⟩
theorem PSs.nox {st:List Stmt}{t:TS}(h:PSs X.nox st t):PSs X st t:=fun pins s σ H D I hw=>
 Gj (h pins s σ H D (I.wish _) hw) (fun _ _ q=>q.unwish) fun _ _ z=>Gm z
end
section
variable {X:Cx}{st:Stmt}{bR:List Stmt}{t u:TS}{e:Expr}{te:TE}{pos:Pos}
def ba:TS:=fun D σ H=>D.nx σ H
def ax (t u:TS):TS:=fun D σ H=>t {D with nx:=u D} σ H
theorem xn:PSs X [] ba:=fun _ _ σ H _ I h=>Jt ⟨σ,H,I,h⟩
theorem tw (h1:PS X st t)(h2:PSs X bR u):PSs X (st::bR) (ax t u):=by
 intro pins s σ H D I h
 refine JS (thn (h1 pins s σ H {D with nx:=u D} I h) fun f s1 q=>?_)
 cases f with
 |next=>
  obtain⟨σ',H',I',q⟩:=q
  exact h2 pins s1 σ' H' D I' q
 |ret v=>exact q
 |brk=>exact q
 |cont=>exact q
theorem wL (h1:PS X st t):PSs X [st] t:=by
 intro pins s σ H D I h
 refine JS (thn (h1 pins s σ H D I h) fun f s1 q=>?_)
 cases f with
 |next=>exact Jt q
 |ret v=>exact q
 |brk=>exact q
 |cont=>exact q
theorem Inv.quiet {pins:List (Addr×Obj)}{σ:St}{H:Hp}{s:FI}(I:Inv X pins σ H s):interactive X.env=false:=by simp[interactive,I.ok.kind]
def bO (te:TE):TS:=fun D σ H=>te σ H fun _ H1=>D.nx σ H1
theorem wQ (he:PE X e te)(hs:swapsWith e none pos.line X.env=pure false:=by rfl):PS X (.Expr e pos) (bO te):=by
 intro pins s σ H D I h
 exact wpAny_Expr_any (thn (he pins s σ H _ I h) fun v s1 ⟨x,H1,I1,r1,q1⟩=>⟨σ,H1,I1,q1⟩) I.quiet hs
def aH (te:TE):TS:=fun D σ H=>te σ H D.rt
theorem yD (he:PE X e te):PS X (.Return (some e) pos) (aH te):=by
 intro pins s σ H D I h
 exact NN (thn (he pins s σ H _ I h) fun v s1 ⟨x,H1,I1,r1,q1⟩=>⟨x,σ,H1,I1,r1,q1⟩)
def cX:TS:=fun _ _ _=>False
theorem uf:PS X st cX:=fun _ _ _ _ _ _ h=>h.elim
end
abbrev TG:=V→St→Hp→(St→Hp→Prop)→Prop
abbrev TGs:=List V→St→Hp→(St→Hp→Prop)→Prop
def PG (X:Cx)(target:Expr)(t:TG):Prop:=
 ∀(pins:List (Addr×Obj))(s:FI)(σ:St)(H:Hp)(v:V)(u:tx)(Q:St→Hp→Prop),Inv X pins σ H s→aO v u→t v σ H Q→
  wpAny (model X.prog X.w) X.A (assign target X.env u) (fun _ s'=>∃σ' H',Inv X pins σ' H' s'∧Q σ' H') X.xe s
def PGs (X:Cx)(ts:List Expr)(t:TGs):Prop:=
 ∀(pins:List (Addr×Obj))(s:FI)(σ:St)(H:Hp)(vs:List V)(us:List tx)(Q:St→Hp→Prop),Inv X pins σ H s→aJ vs us→t vs σ H Q→
  wpAny (model X.prog X.w) X.A (assignInOrder ((assignEach ts X.env).map (·.2)) us) (fun _ s'=>∃σ' H',Inv X pins σ' H' s'∧Q σ' H') X.xe s
abbrev uO:=V→V→V→Hp→(Hp→Prop)→Prop
def qH (X:Cx)(t:uO):Prop:=
 ∀(pins:List (Addr×Obj))(s:FI)(σ:St)(H:Hp)(o i v:V)(ov iv u:tx)(Q:Hp→Prop),Inv X pins σ H s→aO o ov→aO i iv→aO v u→t o i v H Q→
  wpAny (model X.prog X.w) X.A (setItem ov iv u) (fun _ s'=>∃H',Inv X pins σ H' s'∧Q H') X.xe s
section
variable {X:Cx}{pos:Pos}
def aw (i:Nat):TG:=fun v σ H Q=>Q (σ.set i (some v)) H
theorem gK {i:Nat}{x:Str}(hN:X.N.Nodup)(hi:X.N[i]?=some x)(hx:Loc X.env.scope x)(hf:X.fn x=true∨X.env.scope.names.lookup x=some .local:=by first|exact .inl rfl|exact .inr rfl|assumption):PG X (.Name x pos) (aw i):=by
 intro pins s σ H v u Q I r h
 exact KO (fZ I hN hi hx r (fun s' I'=>⟨_,H,I',h⟩) hf)
def jJ:TGs:=fun vs σ H Q=>vs=[]∧Q σ H
def dI (t:TG)(u:TGs):TGs:=fun vs σ H Q=>∃v r,vs=v::r∧t v σ H fun σ' H'=>u r σ' H' Q
theorem pe:PGs X [] jJ:=by
 intro pins s σ H vs us Q I r h
 obtain⟨e,h⟩:=h
 subst e
 cases r
 exact assignInOrder_nil ⟨σ,H,I,h⟩
theorem hJ {e:Expr}{es:List Expr}{t:TG}{u:TGs}(h1:PG X e t)(h2:PGs X es u)
  (hs:(assignEach (e::es) X.env).map (·.2)=assign e X.env::(assignEach es X.env).map (·.2):=by rfl):PGs X (e::es) (dI t u):=by
 intro pins s σ H vs us Q I r h
 obtain⟨v,vr,e1,h⟩:=h
 subst e1
 cases r with
 |cons r rr=>
  rw[hs]
  refine assignInOrder_cons (thn (h1 pins s σ H _ _ _ I r h) fun _ s1 ⟨σ1,H1,I1,q1⟩=>?_)
  exact h2 pins s1 σ1 H1 _ _ Q I1 rr q1
def jE (K:pz)(n:Nat)(t:TGs):TG:=fun v σ H Q=>∃a xs,v=.ref a∧SqT K H a xs∧xs.length=n∧t xs σ H Q
theorem sB {es:List Expr}{k:Nat}{t:TGs}{n:Nat}(hc:X.calm=true)(h:PGs X es t)
  (hn:(assignEach es X.env).length=n:=by rfl)(hst:(assignEach es X.env).findIdx? (·.1)=none:=by rfl):PG X (.Tuple es k pos) (jE X.K n t):=by
 intro pins s σ H v u Q I r hw
 obtain⟨a,xs,e1,hq,hl,hw⟩:=hw
 subst e1
 cases r
 obtain⟨its,rv,ht,hz⟩:=I.tuple hq
 refine assign_Tuple_tuple (I.ok.hd hc) ht (by simp[hn,←hl,rv.length]) hst fun h' hx=>?_
 have I1:Inv X pins σ H {s with heap:=h'}:=I.kept (t':=s.toks) fun b o e=>hx b o (Gf (FM e)) e
 exact h pins _ σ H xs _ Q I1 (by simpa using rv) hw
def uV (to ti:TE)(t:uO):TG:=fun v σ H Q=>to σ H fun o H1=>ti σ H1 fun i H2=>t o i v H2 fun H3=>Q σ H3
theorem Aa {o i:Expr}{to ti:TE}{t:uO}(ho:PE X o to)(hi:PE X i ti)(hs:qH X t)
  (ha:∀v,assign (.Subscript o i pos) X.env v=(do
   let ov←holding [v] (eval o X.env)
   let iv←holding [v,ov] (eval i X.env)
   standAt pos
   holding [v,ov,iv] (setItem ov iv v)
   release [v,ov,iv] []):=by intro _;rfl):PG X (.Subscript o i pos) (uV to ti t):=by
 intro pins s σ H v u Q I r h
 rw[ha]
 refine ah (Hf (thn (ho pins s σ H _ I h) fun ov s1 ⟨x,H1,I1,r1,q1⟩=>?_))
 refine ah (Hf (thn (hi pins s1 σ H1 _ I1 q1) fun iv s2 ⟨y,H2,I2,r2,q2⟩=>?_))
 refine ah (Kz (ah (Hf (thn (hs pins s2 σ H2 x y v ov iv u _ I2 r1 r2 r q2) fun _ s3 ⟨H3,I3,q3⟩=>?_))))
 exact wpAny_release ⟨σ,H3,I3,q3⟩
def aB (te:TE)(g:TG):TS:=fun D σ H=>te σ H fun x H1=>g x σ H1 D.nx
theorem sK {tg e:Expr}{te:TE}{g:TG}(he:PE X e te)(hg:PG X tg g)(hs:swapsWithSole [tg] e pos.line X.env=pure false:=by rfl)(hw:swappedStores [tg] e X.env=pure none:=by rfl)
  (h1:(assignEach [tg] X.env).map (·.2)=[assign tg X.env]:=by rfl):PS X (.Assign [tg] e pos) (aB te g):=by
 intro pins s σ H D I h
 refine wpAny_Assign_stores (thn (he pins s σ H _ I h) fun v s1 ⟨x,H1,I1,r1,q1⟩=>?_) hs hw
 rw[h1]
 exact thn (hg pins s1 σ H1 x v _ I1 r1 q1) fun _ s2 q=>q
theorem zt {i:Nat}{x:Str}{e:Expr}{te:TE}{pos':Pos}(hN:X.N.Nodup)(hi:X.N[i]?=some x)(hx:Loc X.env.scope x)(he:PE X e te)(hs:swapsWith e (some (.Name x pos')) pos.line X.env=pure false:=by rfl)(hf:X.fn x=true∨X.env.scope.names.lookup x=some .local:=by first|exact .inl rfl|exact .inr rfl|assumption):
  PS X (.Assign [.Name x pos'] e pos) (aB te (aw i)):=by
 intro pins s σ H D I h
 refine wpAny_Assign_Name (thn (he pins s σ H _ I h) fun v s1 ⟨y,H1,I1,r1,q1⟩=>?_) hs
 exact fZ I1 hN hi hx r1 (fun s2 I2=>⟨_,H1,I2,q1⟩) hf
end
section
variable {X:Cx}{pos:Pos}
def fv (c:TT)(tb:TS):TS:=fun D σ H=>∃W:Nat→St→Hp→Prop,(∃m,W m σ H)∧∀m σ H,W m σ H→
 c σ H fun b H1=>if b=true then ∃N:St→Hp→Prop,(∀σ' H',N σ' H'→∃m',m'<m∧W m' σ' H')∧tb {D with nx:=N,ct:=N,bk:=D.nx} σ H1 else D.nx σ H1
theorem vn {c:Expr}{body:List Stmt}{tc:TT}{tb:TS}(hp:LC (model X.prog X.w) X.A X.env X.xe)(hc:PT X c tc)(hb:PSs X body tb):PS X (.While c body [] pos) (fv tc tb):=by
 intro pins s σ H D I h
 obtain⟨W,⟨m0,w0⟩,turn⟩:=h
 refine wpAny_While (codeAny_whileLoop (fun n s'=>∃σ' H',Inv X pins σ' H' s'∧W n σ' H') ?_ m0 ⟨σ,H,I,w0⟩)
 rintro n s1 ⟨σ1,H1,I1,w1⟩
 refine Io hp (thn (hc pins s1 σ1 H1 _ I1 (turn n σ1 H1 w1)) fun b s2 ⟨H2,I2,q2⟩=>?_)
 cases b with
 |true=>
  obtain⟨N,hN,q2⟩:=q2
  rw[if_pos rfl]
  refine Io hp (thn (hb pins s2 σ1 H2 _ I2 q2) fun f s3 q3=>?_)
  cases f with
  |next=>
   obtain⟨σ3,H3,I3,n3⟩:=q3
   obtain⟨m',hm,w3⟩:=hN σ3 H3 n3
   exact⟨m',hm,σ3,H3,I3,w3⟩
  |cont=>
   obtain⟨σ3,H3,I3,n3⟩:=q3
   obtain⟨m',hm,w3⟩:=hN σ3 H3 n3
   exact⟨m',hm,σ3,H3,I3,w3⟩
  |brk=>exact q3
  |ret v=>exact q3
 |false=>
  rw[if_neg FZ]
  exact Jt ⟨σ1,H2,I2,q2⟩
end
structure It where
 go:Nat→Hp→Prop
 yld:Nat→Hp→V→Hp→Prop
 stop:Nat→Hp→Prop
def iT (X:Cx)(pins:List (Addr×Obj))(H:Hp)(b:Addr):Prop:=
 H b=none∧b≠X.env.locals∧b∉X.fs∧(b∈X.ex∨X.s₀.heap.objs.size≤b)∧(∀x c,X.env.cells.lookup x=some c→c≠b)∧∀p∈X.pn++pins,p.1≠b
theorem Inv.fpOk {X:Cx}{pins:List (Addr×Obj)}{σ:St}{H H':Hp}{s:FI}{b:Addr}(I:Inv X pins σ H s)(hb:s.heap.objs.size≤b)(hn:H' b=none):iT X pins H' b:=by
 refine⟨hn,HJ (Ge I.lt hb),I.nofs hb,.inr (Gk I.sz hb),fun x c e z=>?_,fun p hp z=>?_⟩
 ·obtain⟨v,q⟩:=I.cell x c e
  exact absurd (Ge q.lt (by rw[z];exact hb)) (GP _)
 ·exact absurd (Ge (FM (I.pin p hp).1) (by rw[z];exact hb)) (GP _)
structure iK (P:Gd)(w:GH)(K:pz)(tg:Expr)(J:It)(fp:List Addr)(it:Addr)(tn:Nat→Heap→Prop):Prop where
 mem:it∈fp
 obj:∀i h,tn i h→∀b∈fp,∃o,h.get? b=some o∧∀v,o.data≠.cell v
 keep:∀i h h',tn i h→(∀b∈fp,∀o,h.get? b=some o→h'.get? b=some o)→tn i h'
 item:∀(X:Cx),X.prog=P→X.w=w→X.K=K→X.calm=true→∀(i:Nat)(pins:List (Addr×Obj))(s:FI)(σ:St)(H:Hp)(E:tx→FI→Prop),Inv X pins σ H s→(∀b∈fp,iT X pins H b)→tn i s.heap→J.go i H→
  wpAny (model P w) X.A (pyNext (.ref it)) (fun r s1=>∃u,r=some u∧
   wpAny (model P w) X.A (letOwnedTupleGo tg (.ref it) u) (fun _ s2=>∃x H',Inv X pins σ H' s2∧aO x u∧J.yld i H x H'∧tn (i+1) s2.heap∧∀b∈fp,H' b=none) E s1) E s
 done:∀(X:Cx),X.prog=P→X.w=w→X.K=K→X.calm=true→∀(i:Nat)(pins:List (Addr×Obj))(s:FI)(σ:St)(H:Hp)(E:tx→FI→Prop),Inv X pins σ H s→(∀b∈fp,iT X pins H b)→tn i s.heap→J.stop i H→
  wpAny (model P w) X.A (pyNext (.ref it)) (fun r s1=>r=none∧Inv X pins σ H s1) E s
 self:∀(A:GC)(i:Nat)(s:FI)(Q:tx→FI→Prop)(E:tx→FI→Prop),tn i s.heap→Q (.ref it) s→wpAny (model P w) A (pyIter (.ref it)) Q E s
abbrev TI:=St→Hp→(It→Hp→Prop)→Prop
def PIE (X:Cx)(pins:List (Addr×Obj))(σ:St)(tg:Expr)(R:It→Hp→Prop)(itv:tx)(s2:FI):Prop:=
 ∃(it:Addr)(fp:List Addr)(tn:Nat→Heap→Prop)(J:It)(H':Hp),itv=.ref it∧Inv X pins σ H' s2∧iK X.prog X.w X.K tg J fp it tn∧tn 0 s2.heap∧(∀b∈fp,iT X pins H' b)∧R J H'
def PI (X:Cx)(tg iter:Expr)(wi:TI):Prop:=
 ∀(pins:List (Addr×Obj))(s:FI)(σ:St)(H:Hp)(R:It→Hp→Prop),Inv X pins σ H s→wi σ H R→
  wpAny (model X.prog X.w) X.A (eval iter X.env) (fun v s1=>wpAny (model X.prog X.w) X.A (pyIter v) (PIE X pins σ tg R) X.xe s1) X.xe s
theorem iZ {M:Model}{A:GC}{E:tx→FI→Prop}{s:FI}{tg:Expr}{it:Addr}{u:tx}{o:Obj}{n:String}{vs:Array tx}{Q:Unit→FI→Prop}(ho:s.heap.get? it=some o)(hc:o.cls=.type n)(hd:o.data=.fields vs)
  (hn:["enumerate","zip","dict_itemiterator","dict_reverseitemiterator","odict_iterator","itertools.zip_longest","itertools.pairwise"].contains n=false)(hQ:Q () s):wpAny M A (letOwnedTupleGo tg (.ref it) u) Q E s:=by
 unfold letOwnedTupleGo
 cases tg<;>first
  |exact FK hQ
  |(cases u<;>first
   |exact FK hQ
   |(refine ah (wpAny_load ho ?_)
     rw[hc,hd]
     show wpAny M A (if (["enumerate","zip","dict_itemiterator","dict_reverseitemiterator","odict_iterator","itertools.zip_longest","itertools.pairwise"].contains n&&vs[0]? ==some (rawInt _))=true then _ else _) Q E s
     rw[if_neg (by intro h;rw[hn,Bool.false_and]at h;cases h)]
     exact FK hQ))
def Itl (K:pz)(a:Addr):It:=
 ⟨fun i H=>∃xs x,SqL K H a xs∧xs[i]?=some x,fun i H x H'=>H'=H∧∀xs,SqL K H a xs→xs[i]?=some x,fun i H=>∃xs,SqL K H a xs∧xs.length≤i⟩
def Itt (K:pz)(a:Addr):It:=
 ⟨fun i H=>∃xs x,SqT K H a xs∧xs[i]?=some x,fun i H x H'=>H'=H∧∀xs,SqT K H a xs→xs[i]?=some x,fun i H=>∃xs,SqT K H a xs∧xs.length≤i⟩
def Itr (lo:Int)(n:Nat):It:=⟨fun i _=>i<n,fun i H x H'=>H'=H∧x=.int (lo+i),fun i _=>n≤i⟩
theorem sP {P:Gd}{w:GH}{K:pz}{tg:Expr}(a it:Addr):iK P w K tg (Itl K a) [it] it (fun i h=>h.IsListIter it a i)where
 mem:=by simp
 obj:=fun i h st b hb=>by
  have e:b=it:=by simpa using hb
  subst e
  obtain⟨o,e,c,d⟩:=st
  exact⟨o,e,fun v z=>by rw[d]at z;cases z⟩
 keep:=fun i h h' st k=>st.at fun o e=>k it (by simp) o e
 item:=by
  intro X hP hw hK hc i pins s σ H E I hf st hg
  subst hP hw hK
  obtain⟨xs,x,hq,hx⟩:=hg
  obtain⟨its,rv,p,hz⟩:=I.list hq
  obtain⟨u,hu,ru⟩:=rv.get hx
  obtain⟨f0,f1,f2,f3,f4,f5⟩:=hf it (by simp)
  refine wpAny_pyNext_list_item st p.isList (x:=u) (by simpa using hu) fun h' st' sb=>?_
  have I1:Inv X pins σ H {s with heap:=h'}:=I.turned (t':=s.toks) (fun b o hb e=>(sb.2 b hb).trans e) f0 f1 f3 f4 f5
  obtain⟨o,e,c,d⟩:=id st'
  exact⟨u,rfl,iZ (s:={s with heap:=h'}) e c d (by decide) ⟨x,H,I1,ru,⟨rfl,fun ys hy=>by rw[I.list_inj hy hq];exact hx⟩,st',fun b hb=>(hf b hb).1⟩⟩
 done:=by
  intro X hP hw hK hc i pins s σ H E I hf st hg
  subst hP hw hK
  obtain⟨xs,hq,hx⟩:=hg
  obtain⟨its,rv,p,hz⟩:=I.list hq
  obtain⟨f0,f1,f2,f3,f4,f5⟩:=hf it (by simp)
  have hl:=rv.length
  exact wpAny_pyNext_list_end (I.ok.hd hc) st p.isList (by simp;omega) fun h' eb=>⟨rfl,I.turned (t':=s.toks) (fun b o hb e=>eb b o hb e) f0 f1 f3 f4 f5⟩
 self:=fun _ _ _ _ _ st h=>wpAny_pyIter_listiter st h
theorem qN {P:Gd}{w:GH}{K:pz}{tg:Expr}(a it:Addr):iK P w K tg (Itt K a) [it] it (fun i h=>h.IsTupleIter it a i)where
 mem:=by simp
 obj:=fun i h st b hb=>by
  have e:b=it:=by simpa using hb
  subst e
  obtain⟨o,e,c,d⟩:=st
  exact⟨o,e,fun v z=>by rw[d]at z;cases z⟩
 keep:=fun i h h' st k=>st.at fun o e=>k it (by simp) o e
 item:=by
  intro X hP hw hK hc i pins s σ H E I hf st hg
  subst hP hw hK
  obtain⟨xs,x,hq,hx⟩:=hg
  obtain⟨its,rv,p,hz⟩:=I.tuple hq
  obtain⟨u,hu,ru⟩:=rv.get hx
  obtain⟨f0,f1,f2,f3,f4,f5⟩:=hf it (by simp)
  refine wpAny_pyNext_tuple_item st (show s.heap.IsTuple a its.toArray from p) (x:=u) (by simpa using hu) fun h' st' sb=>?_
  have I1:Inv X pins σ H {s with heap:=h'}:=I.turned (t':=s.toks) (fun b o hb e=>(sb.2 b hb).trans e) f0 f1 f3 f4 f5
  obtain⟨o,e,c,d⟩:=id st'
  exact⟨u,rfl,iZ (s:={s with heap:=h'}) e c d (by decide) ⟨x,H,I1,ru,⟨rfl,fun ys hy=>by rw[I.tuple_inj hy hq];exact hx⟩,st',fun b hb=>(hf b hb).1⟩⟩
 done:=by
  intro X hP hw hK hc i pins s σ H E I hf st hg
  subst hP hw hK
  obtain⟨xs,hq,hx⟩:=hg
  obtain⟨its,rv,p,hz⟩:=I.tuple hq
  obtain⟨f0,f1,f2,f3,f4,f5⟩:=hf it (by simp)
  have hl:=rv.length
  exact wpAny_pyNext_tuple_end (I.ok.hd hc) st (show s.heap.IsTuple a its.toArray from p) (by simp;omega) fun h' eb=>⟨rfl,I.turned (t':=s.toks) (fun b o hb e=>eb b o hb e) f0 f1 f3 f4 f5⟩
 self:=fun _ _ _ _ _ st h=>wpAny_pyIter_tupleiter st h
theorem qu {P:Gd}{w:GH}{K:pz}{tg:Expr}(it:Addr)(lo:Int)(n:Nat):iK P w K tg (Itr lo n) [it] it (fun i h=>IsRangeIter h it (lo+(i:Nat)*1) ((n:Int)- (i:Nat)) 1)where
 mem:=by simp
 obj:=fun i h st b hb=>by
  have e:b=it:=by simpa using hb
  subst e
  exact⟨_,st,fun v z=>by
   have z':Mm _=Data.cell v:=z
   cases z'⟩
 keep:=fun i h h' st k=>k it (by simp) _ st
 item:=by
  intro X hP hw hK hc i pins s σ H E I hf st hg
  subst hP hw hK
  obtain⟨f0,f1,f2,f3,f4,f5⟩:=hf it (by simp)
  have W:=Walks.range (prog:=X.prog) (w:=X.w) (I.ok.hd hc) it lo 1 n
  refine W.item i s _ _ hg st fun v h' tk hv st' kk=>?_
  obtain⟨t,rfl⟩:=hv
  have I1:Inv X pins σ H {s with heap:=h',toks:=tk}:=I.turned (fun b o hb e=>kk b o (by simpa using hb) e) f0 f1 f3 f4 f5
  refine⟨_,rfl,iZ (s:={s with heap:=h',toks:=tk}) (n:="range_iterator") st' rfl rfl (by decide) ⟨.int (lo+i),H,I1,⟨t,?_⟩,⟨rfl,rfl⟩,st',fun b hb=>(hf b hb).1⟩⟩
  rw[Int.mul_one]
 done:=by
  intro X hP hw hK hc i pins s σ H E I hf st hg
  subst hP hw hK
  obtain⟨f0,f1,f2,f3,f4,f5⟩:=hf it (by simp)
  exact wpAny_pyNext_range_end (I.ok.hd hc) st (by have:n≤i:=hg;omega) fun h' eb=>⟨rfl,I.turned (t':=s.toks) (fun b o hb e=>eb b o hb e) f0 f1 f3 f4 f5⟩
 self:=fun _ _ _ _ _ st h=>wpAny_pyIter_rangeiter st h
section
variable {X:Cx}{tg:Expr}
theorem uM {pins:List (Addr×Obj)}{σ:St}{H:Hp}{s:FI}{R:It→Hp→Prop}{E:tx→FI→Prop}{lo hi:Int}{t u v:Tok}{tk:Nat}(I:Inv X pins σ H s)(h1: -(2^62)≤lo)(h2:lo<2^62)(h3: -(2^62)≤hi)(h4:hi<2^62)
  (q:R (Itr lo (hi- lo).toNat) H):wpAny (model X.prog X.w) X.A (pyIter (.ref s.heap.objs.size)) (PIE X pins σ tg R) E {s with heap:=s.heap.push {cls:=.type "range",data:=.fields #[.int lo t,.int hi u,.int 1 v]},toks:=tk}:=by
 refine wpAny_pyIter_range (IsRange.new ..) (small_one h1 h2 h3 h4) ?_
 have I1:Inv X pins σ H {s with heap:=s.heap.push {cls:=.type "range",data:=.fields #[.int lo t,.int hi u,.int 1 v]},toks:=tk}:=I.kept fun b o e=>cW _ e
 refine⟨(s.heap.push {cls:=.type "range",data:=.fields #[.int lo t,.int hi u,.int 1 v]}).objs.size,[(s.heap.push {cls:=.type "range",data:=.fields #[.int lo t,.int hi u,.int 1 v]}).objs.size],_,_,H,rfl,
  I1.kept (t':=tk) fun b o e=>cW _ e,qu _ lo (hi- lo).toNat,?_,fun b hb=>?_,q⟩
 ·have e1:lo+((0:Nat):Int)*1=lo:=by simp
  have e2:(((hi- lo).toNat:Nat):Int)- ((0:Nat):Int)=Og lo hi 1:=by rw[rangeSize_one];split<;>omega
  show IsRangeIter _ _ (lo+((0:Nat):Int)*1) ((((hi- lo).toNat:Nat):Int)- ((0:Nat):Int)) 1
  rw[e1,e2]
  exact FO _ rfl
 ·have e:b=(s.heap.push {cls:=.type "range",data:=.fields #[.int lo t,.int hi u,.int 1 v]}).objs.size:=by simpa using hb
  subst e
  exact I1.fpOk (gV _) (I1.hok.fresh (gV _))
def fN (ta:TA):TI:=fun σ H R=>ta σ H fun vs H1=>∃j:Int,vs=[.int j]∧ -(2^62)≤j∧j<2^62∧R (Itr 0 j.toNat) H1
theorem sd {a:Expr}{ta:TA}{p pos:Pos}(hg:Gl X "range")(hm:X.mg "range"=none)(ha:PA X [a] ta)(hs:starEach [a] X.env=[(false,eval a X.env)]:=by rfl):PI X tg (.Call (.Name "range" p) [a] [] pos) (fN ta):=by
 intro pins s σ H R I h
 refine Call_ (dB I hg hm boot_range (GB (thn (ha pos pins s σ H _ I h) fun us s1 ⟨vs,H1,I1,r1,q1⟩=>?_) hs rfl))
 obtain⟨j,e,q1,q2,q⟩:=q1
 subst e
 cases r1 with
 |cons r rr=>
  cases rr
  obtain⟨t,rfl⟩:=r
  exact call_range_1 (uM I1 (by omega) (by omega) q1 q2 (by simpa using q))
def ej (wi:TI)(g:TG)(tb:TS):TS:=fun D σ H=>wi σ H fun J H1=>∃W:Nat→Nat→St→Hp→Prop,(∃m,W 0 m σ H1)∧∀i m σ H,W i m σ H→
 (J.stop i H∧D.nx σ H)∨(J.go i H∧∃N:St→Hp→Prop,(∀σ' H',N σ' H'→∃m',m'<m∧W (i+1) m' σ' H')∧∀x H',J.yld i H x H'→g x σ H' fun σ2 H2=>tb {D with nx:=N,ct:=N,bk:=D.nx} σ2 H2)
def iO (fp:List Addr)(h:Heap):List (Addr×Obj):=fp.filterMap fun b=>(h.get? b).map fun o=>(b,o)
theorem fM {fp:List Addr}{h:Heap}{b:Addr}{o:Obj}(hb:b∈fp)(e:h.get? b=some o):(b,o)∈iO fp h:=MD.mpr ⟨b,hb,by rw[e];rfl⟩
theorem rE {fp:List Addr}{h:Heap}{p:Addr×Obj}(hp:p∈iO fp h):p.1∈fp∧h.get? p.1=some p.2:=by
 obtain⟨b,hb,e⟩:=MD.mp hp
 cases q:h.get? b with
 |none=>rw[q]at e;cases e
 |some o=>
  rw[q]at e
  have e':(b,o)=p:=FY e
  subst e'
  exact⟨hb,q⟩
theorem Inv.pinned {pins:List (Addr×Obj)}{σ:St}{H:Hp}{s:FI}{fp:List Addr}(I:Inv X pins σ H s)(hf:∀b∈fp,iT X pins H b)(ho:∀b∈fp,∃o,s.heap.get? b=some o∧∀v,o.data≠.cell v):Inv X (pins++iO fp s.heap) σ H s:=
 I.pins_of fun p hp=>(Gs.mp hp).elim (fun z=>I.pin p (Gz _ z)) fun z=>by
  obtain⟨hb,e⟩:=rE z
  obtain⟨f0,f1,f2,_⟩:=hf p.1 hb
  obtain⟨o,e',d⟩:=ho p.1 hb
  rw[e]at e';cases e'
  exact⟨e,f0,f1,f2,d⟩
theorem Inv.unpinned {pins pl:List (Addr×Obj)}{σ:St}{H:Hp}{s:FI}(I:Inv X (pins++pl) σ H s):Inv X pins σ H s:=I.pins_of fun p hp=>I.pin p (Gz _ (Hz _ hp))
theorem rV {iter:Expr}{body:List Stmt}{wi:TI}{g:TG}{tb:TS}{pos:Pos}(hp:LC (model X.prog X.w) X.A X.env X.xe)(hc:X.calm=true)(hi:PI X tg iter wi)(hg:PG X tg g)(hb:PSs X body tb)
  (hs:∀x,foldedSetIterable iter X.env x=pure x:=by intro _;rfl):PS X (.For tg iter body [] pos) (ej wi g tb):=by
 intro pins s σ H D I h
 refine wpAny_For (thn (hi pins s σ H _ I h) fun v s1 h1=>thn h1 fun itv s2 h2=>?_) hs
 obtain⟨it,fp,tn,J,H2,e,I2,T,st2,f2,W,⟨m0,w0⟩,turn⟩:=h2
 subst e
 have stat:∀{H':Hp},(∀b∈fp,H' b=none)→∀b∈fp,iT X pins H' b:=fun hn b hb=>⟨hn b hb,(f2 b hb).2⟩
 refine codeAny_forLoop_any (fun n s'=>∃i σ' H',Inv X pins σ' H' s'∧tn i s'.heap∧(∀b∈fp,H' b=none)∧W i n σ' H') ?_ m0 ⟨0,σ,H2,I2,st2,fun b hb=>(f2 b hb).1,w0⟩
 rintro n s3 ⟨i,σ3,H3,I3,st3,fr3,w3⟩
 rcases turn i n σ3 H3 w3 with⟨stop,qn⟩|⟨go,N,hN,step⟩
 ·refine Io hp (thn (T.done X rfl rfl rfl hc i pins s3 σ3 H3 X.xe I3 (stat fr3) st3 stop) fun r s4 ⟨hr,I4⟩=>?_)
  subst hr
  exact Jt ⟨σ3,H3,I4,qn⟩
 ·refine Io hp (thn (T.item X rfl rfl rfl hc i pins s3 σ3 H3 X.xe I3 (stat fr3) st3 go) fun r s4 ⟨u,hr,h4⟩=>?_)
  subst hr
  refine Io hp (thn h4 fun _ s5 ⟨x,H5,I5,r5,y5,st5,fr5⟩=>?_)
  have I5':=I5.pinned (stat fr5) (T.obj _ _ st5)
  refine Io hp (thn (hg _ s5 σ3 H5 x u _ I5' r5 (step x H5 y5)) fun _ s6 ⟨σ6,H6,I6,q6⟩=>?_)
  refine Io hp (thn (hb _ s6 σ6 H6 _ I6 q6) fun f s7 q7=>?_)
  have again:∀{σ7:St}{H7:Hp},Inv X (pins++iO fp s5.heap) σ7 H7 s7→N σ7 H7→∃m,m<n∧∃i σ' H',Inv X pins σ' H' s7∧tn i s7.heap∧(∀b∈fp,H' b=none)∧W i m σ' H':=fun{σ7 H7} I7 n7=>by
   obtain⟨m',hm,w7⟩:=hN σ7 H7 n7
   refine⟨m',hm,i+1,σ7,H7,I7.unpinned,T.keep _ _ _ st5 fun b hb o e=>(I7.pin (b,o) (Gz _ (Gz _ (fM hb e)))).1,fun b hb=>?_,w7⟩
   obtain⟨o,e,d⟩:=T.obj _ _ st5 b hb
   exact(I7.pin (b,o) (Gz _ (Gz _ (fM hb e)))).2.1
  cases f with
  |next=>obtain⟨σ7,H7,I7,n7⟩:=q7;exact again I7 n7
  |cont=>obtain⟨σ7,H7,I7,n7⟩:=q7;exact again I7 n7
  |brk=>obtain⟨σ7,H7,I7,q7⟩:=q7;exact⟨σ7,H7,I7.unpinned,q7⟩
  |ret v=>obtain⟨x7,σ7,H7,I7,r7,q7⟩:=q7;exact⟨x7,σ7,H7,I7.unpinned,r7,q7⟩
end
theorem eU {K:pz}{a:Addr}{xs:List V}{g:TG}{tb:TS}{D:eZ}{σ:St}{H:Hp}(Pv:Nat→St→Hp→Prop)(h0:Pv 0 σ H)(hl:∀i σ H,i≤xs.length→Pv i σ H→SqL K H a xs)
  (hs:∀i x σ H,xs[i]?=some x→Pv i σ H→g x σ H fun σ2 H2=>tb {D with nx:=Pv (i+1),ct:=Pv (i+1),bk:=D.nx} σ2 H2)(hd:∀σ H,Pv xs.length σ H→D.nx σ H):
  ∃W:Nat→Nat→St→Hp→Prop,(∃m,W 0 m σ H)∧∀i m σ H,W i m σ H→
   ((Itl K a).stop i H∧D.nx σ H)∨((Itl K a).go i H∧∃N:St→Hp→Prop,(∀σ' H',N σ' H'→∃m',m'<m∧W (i+1) m' σ' H')∧∀x H',(Itl K a).yld i H x H'→g x σ H' fun σ2 H2=>tb {D with nx:=N,ct:=N,bk:=D.nx} σ2 H2):=by
 refine⟨fun i m σ H=>m=xs.length- i∧i≤xs.length∧Pv i σ H,⟨xs.length,by simp,Gc _,h0⟩,?_⟩
 rintro i m σ H ⟨rfl,hi,p⟩
 have q:=hl i σ H hi p
 by_cases hlt:i<xs.length
 ·refine .inr ⟨⟨xs,xs[i],q,by simp[hlt]⟩,Pv (i+1),fun σ' H' p'=>⟨xs.length- (i+1),by omega,rfl,hlt,p'⟩,fun x H' y=>?_⟩
  obtain⟨e,y⟩:=y
  subst e
  exact hs i x σ _ (y xs q) p
 ·have e:i=xs.length:=by omega
  subst e
  exact .inl ⟨⟨xs,q,gV _⟩,hd σ H p⟩
theorem kJ {K:pz}{a:Addr}{xs:List V}{g:TG}{tb:TS}{D:eZ}{σ:St}{H:Hp}(Pv:Nat→St→Hp→Prop)(h0:Pv 0 σ H)(hl:∀i σ H,i≤xs.length→Pv i σ H→SqT K H a xs)
  (hs:∀i x σ H,xs[i]?=some x→Pv i σ H→g x σ H fun σ2 H2=>tb {D with nx:=Pv (i+1),ct:=Pv (i+1),bk:=D.nx} σ2 H2)(hd:∀σ H,Pv xs.length σ H→D.nx σ H):
  ∃W:Nat→Nat→St→Hp→Prop,(∃m,W 0 m σ H)∧∀i m σ H,W i m σ H→
   ((Itt K a).stop i H∧D.nx σ H)∨((Itt K a).go i H∧∃N:St→Hp→Prop,(∀σ' H',N σ' H'→∃m',m'<m∧W (i+1) m' σ' H')∧∀x H',(Itt K a).yld i H x H'→g x σ H' fun σ2 H2=>tb {D with nx:=N,ct:=N,bk:=D.nx} σ2 H2):=by
 refine⟨fun i m σ H=>m=xs.length- i∧i≤xs.length∧Pv i σ H,⟨xs.length,by simp,Gc _,h0⟩,?_⟩
 rintro i m σ H ⟨rfl,hi,p⟩
 have q:=hl i σ H hi p
 by_cases hlt:i<xs.length
 ·refine .inr ⟨⟨xs,xs[i],q,by simp[hlt]⟩,Pv (i+1),fun σ' H' p'=>⟨xs.length- (i+1),by omega,rfl,hlt,p'⟩,fun x H' y=>?_⟩
  obtain⟨e,y⟩:=y
  subst e
  exact hs i x σ _ (y xs q) p
 ·have e:i=xs.length:=by omega
  subst e
  exact .inl ⟨⟨xs,q,gV _⟩,hd σ H p⟩
theorem lN {lo:Int}{n:Nat}{g:TG}{tb:TS}{D:eZ}{σ:St}{H:Hp}(Pv:Nat→St→Hp→Prop)(h0:Pv 0 σ H)
  (hs:∀i σ H,i<n→Pv i σ H→g (.int (lo+i)) σ H fun σ2 H2=>tb {D with nx:=Pv (i+1),ct:=Pv (i+1),bk:=D.nx} σ2 H2)(hd:∀σ H,Pv n σ H→D.nx σ H):
  ∃W:Nat→Nat→St→Hp→Prop,(∃m,W 0 m σ H)∧∀i m σ H,W i m σ H→
   ((Itr lo n).stop i H∧D.nx σ H)∨((Itr lo n).go i H∧∃N:St→Hp→Prop,(∀σ' H',N σ' H'→∃m',m'<m∧W (i+1) m' σ' H')∧∀x H',(Itr lo n).yld i H x H'→g x σ H' fun σ2 H2=>tb {D with nx:=N,ct:=N,bk:=D.nx} σ2 H2):=by
 refine⟨fun i m σ H=>m=n- i∧i≤n∧Pv i σ H,⟨n,by simp,Gc _,h0⟩,?_⟩
 rintro i m σ H ⟨rfl,hi,p⟩
 by_cases hlt:i<n
 ·refine .inr ⟨hlt,Pv (i+1),fun σ' H' p'=>⟨n- (i+1),by omega,rfl,hlt,p'⟩,fun x H' y=>?_⟩
  obtain⟨e,y⟩:=y
  subst e y
  exact hs i σ _ hlt p
 ·have e:i=n:=by omega
  subst e
  exact .inl ⟨gV _,hd σ H p⟩
abbrev R2:=V→V→Hp→VK→Prop
def OpR (X:Cx)(f:tx→tx→Sem tx)(r:R2):Prop:=
 ∀(pins:List (Addr×Obj))(s:FI)(σ:St)(H:Hp)(x y:V)(v u:tx)(Q:VK),Inv X pins σ H s→aO x v→aO y u→r x y H Q→
  wpAny (model X.prog X.w) X.A (f v u) (EP X pins σ Q) X.xe s
def UnR (X:Cx)(f:tx→Sem tx)(r:V→Hp→VK→Prop):Prop:=
 ∀(pins:List (Addr×Obj))(s:FI)(σ:St)(H:Hp)(x:V)(v:tx)(Q:VK),Inv X pins σ H s→aO x v→r x H Q→
  wpAny (model X.prog X.w) X.A (f v) (EP X pins σ Q) X.xe s
def bH (X:Cx)(f:tx)(r:List V→Hp→VK→Prop):Prop:=
 ∀(pins:List (Addr×Obj))(s:FI)(σ:St)(H:Hp)(xs:List V)(us:List tx)(Q:VK),Inv X pins σ H s→aJ xs us→r xs H Q→
  wpAny (model X.prog X.w) X.A (call f us) (EP X pins σ Q) X.xe s
def Er (X:Cx)(r:V→Hp→(Bool→Hp→Prop)→Prop):Prop:=
 ∀(pins:List (Addr×Obj))(s:FI)(σ:St)(H:Hp)(x:V)(v:tx)(Q:Bool→Hp→Prop),Inv X pins σ H s→aO x v→r x H Q→
  wpAny (model X.prog X.w) X.A (truthy v) (TP X pins σ Q) X.xe s
def tOp (r:R2)(ta tb:TE):TE:=fun σ H Q=>ta σ H fun x H1=>tb σ H1 fun y H2=>r x y H2 Q
def tUn (r:V→Hp→VK→Prop)(ta:TE):TE:=fun σ H Q=>ta σ H fun x H1=>r x H1 Q
def rI (C:Int→Int→Prop)(g:Int→Int→V):R2:=fun x y H Q=>∃i j,x=.int i∧y=.int j∧C i j∧Q (g i j) H
def rI0 (g:Int→Int→V):R2:=fun x y H Q=>∃i j,x=.int i∧y=.int j∧Q (g i j) H
def rU (g:Int→V):V→Hp→VK→Prop:=fun x H Q=>∃i,x=.int i∧Q (g i) H
section
variable {X:Cx}{a b c:Expr}{ta tb tc:TE}{pos:Pos}
theorem vw (ha:PE X a ta)(hb:PE X b tb){pins:List (Addr×Obj)}{s:FI}{σ:St}{H:Hp}{R:V→V→Hp→Prop}(I:Inv X pins σ H s)
  (h:ta σ H fun x H1=>tb σ H1 fun y H2=>R x y H2){Q:tx→FI→Prop}{f:tx→tx→Sem tx}
  (hf:∀v u s2 x y H2,Inv X pins σ H2 s2→aO x v→aO y u→R x y H2→wpAny (model X.prog X.w) X.A (f v u) Q X.xe s2):
  wpAny (model X.prog X.w) X.A (eval a X.env) (fun v s₁=>wpAny (model X.prog X.w) X.A (eval b X.env) (fun u s₂=>wpAny (model X.prog X.w) X.A (f v u) Q X.xe s₂) X.xe s₁) X.xe s:=by
 refine thn (ha pins s σ H _ I h) fun v s1 ⟨x,H1,I1,r1,q1⟩=>?_
 refine thn (hb pins s1 σ H1 _ I1 q1) fun u s2 ⟨y,H2,I2,r2,q2⟩=>?_
 exact hf v u s2 x y H2 I2 r1 r2 q2
theorem BY {op:Operator}{r:R2}(ho:OpR X (binaryOp op) r)(ha:PE X a ta)(hb:PE X b tb):PE X (.BinOp a op b pos) (tOp r ta tb):=by
 intro pins s σ H Q I h
 exact wpAny_BinOp (vw ha hb I h fun v u s2 x y H2 I2 rx ry q=>ho pins s2 σ H2 x y v u Q I2 rx ry q)
theorem Cc {op:UnaryOp}{r:V→Hp→VK→Prop}(ho:UnR X (unaryOp op) r)(ha:PE X a ta):PE X (.UnaryOp op a pos) (tUn r ta):=by
 intro pins s σ H Q I h
 exact UnaryOp_ (thn (ha pins s σ H _ I h) fun v s1 ⟨x,H1,I1,r1,q1⟩=>ho pins s1 σ H1 x v Q I1 r1 q1)
theorem opI {f:tx→tx→Sem tx}{C:Int→Int→Prop}{g:Int→Int→Int}
  (rule:∀(i j:Int)(t u:Tok)(s:FI)(Q:tx→FI→Prop)(E:tx→FI→Prop),C i j→Q (.int (g i j) s.toks) {s with toks:=s.toks+1}→wpAny (model X.prog X.w) X.A (f (.int i t) (.int j u)) Q E s):
  OpR X f (rI C fun i j=>.int (g i j)):=by
 intro pins s σ H x y v u Q I rx ry h
 obtain⟨i,j,rfl,rfl,hc,q⟩:=h
 obtain⟨t,rfl⟩:=rx
 obtain⟨t',rfl⟩:=ry
 exact rule i j t t' s _ _ hc ⟨.int (g i j),H,I.tok _,⟨_,rfl⟩,q⟩
theorem yr {f:tx→tx→Sem tx}{g:Int→Int→Int}
  (rule:∀(i j:Int)(t u:Tok)(s:FI)(Q:tx→FI→Prop)(E:tx→FI→Prop),Q (.int (g i j) s.toks) {s with toks:=s.toks+1}→wpAny (model X.prog X.w) X.A (f (.int i t) (.int j u)) Q E s):
  OpR X f (rI0 fun i j=>.int (g i j)):=by
 intro pins s σ H x y v u Q I rx ry h
 obtain⟨i,j,rfl,rfl,q⟩:=h
 obtain⟨t,rfl⟩:=rx
 obtain⟨t',rfl⟩:=ry
 exact rule i j t t' s _ _ ⟨.int (g i j),H,I.tok _,⟨_,rfl⟩,q⟩
theorem tX {f:tx→tx→Sem tx}{g:Int→Int→Bool}
  (rule:∀(i j:Int)(t u:Tok)(s:FI)(Q:tx→FI→Prop)(E:tx→FI→Prop),Q (.bool (g i j)) s→wpAny (model X.prog X.w) X.A (f (.int i t) (.int j u)) Q E s):
  OpR X f (rI0 fun i j=>.bl (g i j)):=by
 intro pins s σ H x y v u Q I rx ry h
 obtain⟨i,j,rfl,rfl,q⟩:=h
 obtain⟨t,rfl⟩:=rx
 obtain⟨t',rfl⟩:=ry
 exact rule i j t t' s _ _ ⟨.bl (g i j),H,I,rfl,q⟩
def ya (i j:Int):Prop:=0≤j∧j≤1000000∧i.natAbs<2^64
theorem zk:OpR X (binaryOp .Add) (rI0 fun i j=>.int (i+j)):=yr fun _ _ _ _ _ _ _ q=>add_int q
theorem zK:OpR X (binaryOp .Sub) (rI0 fun i j=>.int (i- j)):=yr fun _ _ _ _ _ _ _ q=>sub_int q
theorem yA:OpR X (binaryOp .Mod) (rI (fun _ j=>0<j) fun i j=>.int (i%j)):=opI fun i j _ _ _ _ _ hc q=>by
 have h1:(0:Int)<j:=hc
 exact mod_int' (by omega) (by rw[Int.fmod_eq_emod_of_nonneg i (by omega)];exact q)
theorem zv:OpR X (binaryOp .Pow) (rI ya fun i j=>.int (i^j.toNat)):=opI fun _ _ _ _ _ _ _ hc q=>pow_int_small hc.1 hc.2.1 hc.2.2 q
theorem xS:OpR X (binaryOp .LShift) (rI ya fun i j=>.int (i*2^j.toNat)):=opI fun _ _ _ _ _ _ _ hc q=>lshift_int_small hc.1 hc.2.1 hc.2.2 q
theorem unI {f:tx→Sem tx}{g:Int→Int}
  (rule:∀(i:Int)(t:Tok)(s:FI)(Q:tx→FI→Prop)(E:tx→FI→Prop),Q (.int (g i) s.toks) {s with toks:=s.toks+1}→wpAny (model X.prog X.w) X.A (f (.int i t)) Q E s):
  UnR X f (rU fun i=>.int (g i)):=by
 intro pins s σ H x v Q I rx h
 obtain⟨i,rfl,q⟩:=h
 obtain⟨t,rfl⟩:=rx
 exact rule i t s _ _ ⟨.int (g i),H,I.tok _,⟨_,rfl⟩,q⟩
theorem yh:UnR X (unaryOp .USub) (rU fun i=>.int (-i)):=unI fun _ _ _ _ _ q=>neg_int q
end
def zV:V→V→Bool
 |.non,.non=>true|.non,.int _=>true|.int _,.non=>true|.non,.bl _=>true|.bl _,.non=>true|.non,.str _=>true|.str _,.non=>true
 |.int _,.int _=>true|.bl _,.bl _=>true|.str _,.str _=>true|.byt _,.byt _=>true
 |.int _,.str _=>true|.str _,.int _=>true|.bl _,.str _=>true|.str _,.bl _=>true
 |_,_=>false
def rEq:R2:=fun x y H Q=>zV x y=true∧Q (.bl (decide (x=y))) H
def rNe:R2:=fun x y H Q=>zV x y=true∧Q (.bl (!decide (x=y))) H
theorem oX {i j:Int}:decide (V.int i=V.int j)=(i==j):=by
 rw[Jd]
 simp
theorem rL {i j:Bool}:decide (V.bl i=V.bl j)=(i==j):=by
 rw[Jd]
 simp
theorem oQ {i j:Str}:decide (V.str i=V.str j)=(i==j):=by
 rw[Jd]
 simp
theorem oN {i j:Array UInt8}:decide (V.byt i=V.byt j)=(i.toList==j.toList):=by
 rw[Jd]
 cases i
 cases j
 simp
section
variable {X:Cx}{a b c:Expr}{ta tb tc:TE}{pos:Pos}
theorem bh {pins:List (Addr×Obj)}{σ:St}{H:Hp}{s:FI}{Q:VK}{k k':Bool}(I:Inv X pins σ H s)(q:Q (.bl k) H)(e:k=k'):EP X pins σ Q (.bool k') s:=by
 subst e
 exact⟨.bl k,H,I,rfl,q⟩
theorem BP:OpR X (compareOp .Eq) rEq:=by
 intro pins s σ H x y v u Q I rx ry h
 obtain⟨hs,q⟩:=h
 cases x with
 |non=>
  cases rx
  cases y with
  |non=>cases ry;exact PySem.EqNone.eq_none_none (bh I q (by simp))
  |bl j=>cases ry;exact PySem.EqNone.eq_none_bool (bh I q (by simp))
  |int j=>obtain⟨t',rfl⟩:=ry;exact PySem.EqNone.eq_none_int (bh I q (by simp))
  |str j=>obtain⟨t',rfl⟩:=ry;exact PySem.EqNone.eq_none_str (bh I q (by simp))
  |_=>exact absurd (show false=true from hs) FZ
 |bl i=>
  cases rx
  cases y with
  |non=>cases ry;exact PySem.EqNone.eq_bool_none (bh I q (by simp))
  |bl j=>cases ry;exact eq_bool (bh I q rL)
  |str j=>obtain⟨t',rfl⟩:=ry;exact Oc (bh I q (by simp))
  |_=>exact absurd (show false=true from hs) FZ
 |int i=>
  obtain⟨t,rfl⟩:=rx
  cases y with
  |non=>cases ry;exact PySem.EqNone.eq_int_none (bh I q (by simp))
  |int j=>obtain⟨t',rfl⟩:=ry;exact eq_int (bh I q oX)
  |str j=>obtain⟨t',rfl⟩:=ry;exact Ob (bh I q (by simp))
  |_=>exact absurd (show false=true from hs) FZ
 |str i=>
  obtain⟨t,rfl⟩:=rx
  cases y with
  |non=>cases ry;exact PySem.EqNone.eq_str_none (bh I q (by simp))
  |bl j=>cases ry;exact Oa (bh I q (by simp))
  |int j=>obtain⟨t',rfl⟩:=ry;exact NZ (bh I q (by simp))
  |str j=>obtain⟨t',rfl⟩:=ry;exact eq_str (bh I q oQ)
  |_=>exact absurd (show false=true from hs) FZ
 |byt i=>
  obtain⟨t,rfl⟩:=rx
  cases y with
  |byt j=>obtain⟨t',rfl⟩:=ry;exact W.eq_bytes (bh I q oN)
  |_=>exact absurd (show false=true from hs) FZ
 |_=>cases y<;>exact absurd (show false=true from hs) FZ
theorem Dy:OpR X (compareOp .NotEq) rNe:=by
 intro pins s σ H x y v u Q I rx ry h
 obtain⟨hs,q⟩:=h
 cases x with
 |non=>
  cases rx
  cases y with
  |non=>cases ry;exact PySem.EqNone.ne_none_none (bh I q (by simp))
  |bl j=>cases ry;exact PySem.EqNone.ne_none_bool (bh I q (by simp))
  |int j=>obtain⟨t',rfl⟩:=ry;exact PySem.EqNone.ne_none_int (bh I q (by simp))
  |str j=>obtain⟨t',rfl⟩:=ry;exact PySem.EqNone.ne_none_str (bh I q (by simp))
  |_=>exact absurd (show false=true from hs) FZ
 |bl i=>
  cases rx
  cases y with
  |non=>cases ry;exact PySem.EqNone.ne_bool_none (bh I q (by simp))
  |bl j=>cases ry;exact ne_bool (bh I q (congrArg not rL))
  |str j=>obtain⟨t',rfl⟩:=ry;exact NY (bh I q (by simp))
  |_=>exact absurd (show false=true from hs) FZ
 |int i=>
  obtain⟨t,rfl⟩:=rx
  cases y with
  |non=>cases ry;exact PySem.EqNone.ne_int_none (bh I q (by simp))
  |int j=>obtain⟨t',rfl⟩:=ry;exact ne_int (bh I q (congrArg not oX))
  |str j=>obtain⟨t',rfl⟩:=ry;exact NX (bh I q (by simp))
  |_=>exact absurd (show false=true from hs) FZ
 |str i=>
  obtain⟨t,rfl⟩:=rx
  cases y with
  |non=>cases ry;exact PySem.EqNone.ne_str_none (bh I q (by simp))
  |bl j=>cases ry;exact NW (bh I q (by simp))
  |int j=>obtain⟨t',rfl⟩:=ry;exact NV (bh I q (by simp))
  |str j=>obtain⟨t',rfl⟩:=ry;exact ne_str (bh I q (congrArg not oQ))
  |_=>exact absurd (show false=true from hs) FZ
 |byt i=>
  obtain⟨t,rfl⟩:=rx
  cases y with
  |byt j=>obtain⟨t',rfl⟩:=ry;exact W.ne_bytes (bh I q (congrArg not oN))
  |_=>exact absurd (show false=true from hs) FZ
 |_=>cases y<;>exact absurd (show false=true from hs) FZ
theorem Ci:OpR X (compareOp .Lt) (rI0 fun i j=>.bl (decide (i<j))):=tX fun _ _ _ _ _ _ _ q=>lt_int q
theorem Dh:OpR X (compareOp .LtE) (rI0 fun i j=>.bl (decide (i≤j))):=tX fun _ _ _ _ _ _ _ q=>le_int q
theorem Dw:OpR X (compareOp .Gt) (rI0 fun i j=>.bl (decide (j<i))):=tX fun _ _ _ _ _ _ _ q=>gt_int q
theorem xR:OpR X (compareOp .Is) (fun x y H Q=>y=.non∧Q (.bl (decide (x=.non))) H):=by
 intro pins s σ H x y v u Q I rx ry h
 obtain⟨rfl,q⟩:=h
 cases ry
 refine is_none_gen (bh I q ?_)
 cases x<;>first
  |(cases rx;rfl)
  |(obtain⟨t,rfl⟩:=rx;rfl)
theorem OpR.or {f:tx→tx→Sem tx}{r r':R2}(h:OpR X f r)(h':OpR X f r'):OpR X f (fun x y H Q=>r x y H Q∨r' x y H Q):=by
 intro pins s σ H x y v u Q I rx ry q
 rcases q with q|q
 ·exact h pins s σ H x y v u Q I rx ry q
 ·exact h' pins s σ H x y v u Q I rx ry q
theorem jN (b:Expr){op:MS}(h:op≠.In:=by decide)(h2:op≠.NotIn:=by decide):behindInMarks op b=false:=by
 have e1:(op==CmpOp.In)=false:=by cases op<;>first|rfl|exact absurd rfl h
 have e2:(op==CmpOp.NotIn)=false:=by cases op<;>first|rfl|exact absurd rfl h2
 cases b<;>simp[behindInMarks,e1,e2]
theorem wR {op:MS}{r:R2}(ho:OpR X (compareOp op) r)(ha:PE X a ta)(hb:PE X b tb)(hm:behindInMarks op b=false):PE X (.Compare a [op] [b] pos) (tOp r ta tb):=by
 intro pins s σ H Q I h
 exact wpAny_Compare1 (vw ha hb I h fun v u s2 x y H2 I2 rx ry q=>ho pins s2 σ H2 x y v u Q I2 rx ry q) hm
def yI (K:pz)(x:V)(H:Hp)(k:Bool):Prop:=
 match x with
 |.non=>k=false
 |.bl b=>k=b
 |.int i=>k=(i !=0)
 |.str y=>y.length≤sizeLine∧k=((y.length:Int) !=0)
 |.byt y=>y.size≤sizeLine∧k=((y.size:Int) !=0)
 |.ref p=>(∃xs,SqL K H p xs∧k= !xs.isEmpty)∨(∃xs,SqT K H p xs∧k= !xs.isEmpty)∨∃kvs,H p=some (.dK kvs)∧k= !kvs.isEmpty
 |_=>False
theorem qI {κ:Type}{kvs:List (κ×V)}{vs:List (κ×tx)}(r:KV kvs vs):(!vs.isEmpty)= !kvs.isEmpty:=by
 cases r<;>rfl
theorem jZ {xs:List V}{its:List tx}(r:aJ xs its):(!its.toArray.isEmpty)= !xs.isEmpty:=by
 cases r<;>simp
theorem gF:(sizeLine:Nat)<2^63:=by rw[HR];decide
theorem AI:Er X (fun x H Q=>∃k,yI X.K x H k∧Q k H):=by
 intro pins s σ H x v Q I rx h
 obtain⟨k,e,q⟩:=h
 have hl:=gF
 have hs:sizeLine=16777216:=HR
 cases x with
 |non=>
  cases rx
  have e':k=false:=e
  subst e'
  exact truthy_none ⟨H,I,q⟩
 |bl b=>
  cases rx
  have e':k=b:=e
  subst e'
  exact HZ ⟨H,I,q⟩
 |int i=>
  obtain⟨t,rfl⟩:=rx
  have e':k=(i !=0):=e
  subst e'
  exact PySem.P.truthy_int ⟨H,I,q⟩
 |str y=>
  obtain⟨t,rfl⟩:=rx
  obtain⟨hy,e'⟩:y.length≤sizeLine∧k=((y.length:Int) !=0):=e
  subst e'
  exact PySem.P.truthy_str (by omega) ⟨H,I.tok _,q⟩
 |byt y=>
  obtain⟨t,rfl⟩:=rx
  obtain⟨hy,e'⟩:y.size≤sizeLine∧k=((y.size:Int) !=0):=e
  subst e'
  exact W.truthy_bytes (by omega) ⟨H,I.tok _,q⟩
 |ref p=>
  cases rx
  have e':(∃xs,SqL X.K H p xs∧k= !xs.isEmpty)∨(∃xs,SqT X.K H p xs∧k= !xs.isEmpty)∨∃kvs,H p=some (.dK kvs)∧k= !kvs.isEmpty:=e
  rcases e' with⟨xs,hx,e'⟩|⟨xs,hx,e'⟩|⟨kvs,hx,e'⟩
  ·subst e'
   obtain⟨its,r,pl,hz⟩:=I.list hx
   have hlen:=r.length
   exact wpAny_truthy_list pl.isList (by simp only[FL];omega) ⟨H,I.tok _,by rw[jZ r];exact q⟩
  ·subst e'
   obtain⟨its,r,pl,hz⟩:=I.tuple hx
   have hlen:=r.length
   exact truthy_tuple pl (by simp only[FL];omega) ⟨H,I.tok _,by rw[jZ r];exact q⟩
  ·subst e'
   obtain⟨hz,hS,vs,r,m⟩:kvs.length≤sizeLine∧(p==sysModules)=false∧∃vs,KV kvs vs∧s.heap.DictOf (bW X.prog X.w) p vs:=I.hok p _ hx
   have hlen:kvs.length=vs.length:=Paired.length r
   exact wpAny_truthy_dict hS m (by omega) ⟨H,I.tok _,by rw[qI r];exact q⟩
 |_=>exact(show False from e).elim
theorem pW:OpR X (binaryOp .Add) (fun x y H Q=>∃i j,x=.str i∧y=.str j∧i.length+j.length≤sizeLine∧Q (.str (i++j)) H):=by
 intro pins s σ H x y v u Q I rx ry h
 obtain⟨i,j,rfl,rfl,hz,q⟩:=h
 obtain⟨t,rfl⟩:=rx
 obtain⟨t',rfl⟩:=ry
 exact add_str (fun t' tk=>⟨.str (i++j),H,I.tok _,⟨_,rfl⟩,q⟩) hz
theorem fK {x:V}{us:List tx}(r:aJ [x] us):∃u,us=[u]∧aO x u:=by
 cases r with
 |cons r1 r2=>cases r2;exact⟨_,rfl,r1⟩
theorem kE {x y:V}{us:List tx}(r:aJ [x,y] us):∃u w',us=[u,w']∧aO x u∧aO y w':=by
 cases r with
 |cons r1 r2=>
  cases r2 with
  |cons r3 r4=>cases r4;exact⟨_,_,rfl,r1,r3⟩
theorem qX (hc:X.calm=true):bH X (.builtin "max") (fun xs H Q=>∃i j,xs=[.int i,.int j]∧Q (.int (if j>i then j else i)) H):=by
 intro pins s σ H xs us Q I r h
 obtain⟨i,j,rfl,q⟩:=h
 obtain⟨u,w',rfl,⟨t,rfl⟩,⟨t',rfl⟩⟩:=kE r
 refine max_two_ints (I.ok.hd hc) fun h' tk k=>⟨_,H,I.kept k,?_,q⟩
 by_cases hj:j>i
 ·rw[if_pos hj,if_pos hj];exact⟨_,rfl⟩
 ·rw[if_neg hj,if_neg hj];exact⟨_,rfl⟩
theorem sJ (hc:X.calm=true):bH X (.builtin "min") (fun xs H Q=>∃i j,xs=[.int i,.int j]∧Q (.int (if j<i then j else i)) H):=by
 intro pins s σ H xs us Q I r h
 obtain⟨i,j,rfl,q⟩:=h
 obtain⟨u,w',rfl,⟨t,rfl⟩,⟨t',rfl⟩⟩:=kE r
 refine min_two_ints (I.ok.hd hc) fun h' tk k=>⟨_,H,I.kept k,?_,q⟩
 by_cases hj:j<i
 ·rw[if_pos hj,if_pos hj];exact⟨_,rfl⟩
 ·rw[if_neg hj,if_neg hj];exact⟨_,rfl⟩
def EV (K:pz)(x:V)(H:Hp)(n:Nat):Prop:=
 match x with
 |.str y=>y.length≤sizeLine∧n=y.length
 |.byt y=>y.size≤sizeLine∧n=y.size
 |.ref p=>(∃xs,SqL K H p xs∧n=xs.length)∨∃xs,SqT K H p xs∧n=xs.length
 |_=>False
theorem jy:bH X (.builtin "len") (fun xs H Q=>∃x n,xs=[x]∧EV X.K x H n∧Q (.int n) H):=by
 intro pins s σ H xs us Q I r h
 obtain⟨x,n,rfl,e,q⟩:=h
 obtain⟨u,rfl,rx⟩:=fK r
 have hl:=gF
 have hs:sizeLine=16777216:=HR
 cases x with
 |str y=>
  obtain⟨t,rfl⟩:=rx
  obtain⟨hy,e'⟩:y.length≤sizeLine∧n=y.length:=e
  subst e'
  exact len_str (by omega) ⟨.int _,H,I.tok _,⟨_,rfl⟩,q⟩
 |byt y=>
  obtain⟨t,rfl⟩:=rx
  obtain⟨hy,e'⟩:y.size≤sizeLine∧n=y.size:=e
  subst e'
  exact W.len_bytes (by omega) ⟨.int _,H,I.tok _,⟨_,rfl⟩,q⟩
 |ref p=>
  cases rx
  have e':(∃xs,SqL X.K H p xs∧n=xs.length)∨∃xs,SqT X.K H p xs∧n=xs.length:=e
  rcases e' with⟨xs,hx,e'⟩|⟨xs,hx,e'⟩
  ·subst e'
   obtain⟨its,r',pl,hz⟩:=I.list hx
   have hlen:=r'.length
   exact Calls.call_len_list pl.isList (by simp only[FL];omega) ⟨.int xs.length,H,I.tok _,⟨_,by simp only[FL];rw[hlen]⟩,q⟩
  ·subst e'
   obtain⟨its,r',pl,hz⟩:=I.tuple hx
   have hlen:=r'.length
   exact len_tuple pl (by simp only[FL];omega) ⟨.int xs.length,H,I.tok _,⟨_,by simp only[FL];rw[hlen]⟩,q⟩
 |_=>exact(show False from e).elim
end
structure jF (h:Heap)(x dx C:Addr)(mA:Str→Option tx):Prop where
 obj:h.get? x=some (JB C dx)
 ns:h.Ns1 dx mA
 ne:dx≠x
theorem sN {h:Heap}{dx:Addr}{mA:Str→Option tx}(n:h.Ns1 dx mA):∃od,h.get? dx=some od∧∀name,Nf name od=some (mA name):=by
 obtain⟨o,es,ep,ho,hd,hk,_,hm⟩:=n
 refine⟨o,ho,fun name=>?_⟩
 have e:=hm name
 unfold nsFind findBy at e
 rw[←Array.find?_toList]at e
 unfold Nf
 rw[hd]
 dsimp only
 split
 ·rename_i y q
  rw[q]at e
  exact congrArg some e
 ·rename_i q
  rw[q]at e
  have a:es.toList.any (·.refKey)=false:=by
   rw[List.any_eq_false]
   intro y hy
   obtain⟨z,t,hkey⟩:=hk y (Array.mem_toList_iff.mp hy)
   simp[DictEntry.refKey,hkey]
  have a':¬es.toList.any (·.refKey)=true:=by rw[a];exact FZ
  rw[if_neg a']
  exact congrArg some e
theorem jF.look {h:Heap}{x dx C:Addr}{mA:Str→Option tx}(I:jF h x dx C mA):∃od,W.InstAt h x (JB C dx) C (some od)∧∀name,Nf name od=some (mA name):=
 let ⟨od,ho,hl⟩:=sN I.ns
 ⟨od,⟨I.obj,rfl,rfl,ho⟩,hl⟩
section
variable {prog:Gd}{w:GH}{A:GC}{E:tx→FI→Prop}{s:FI}{K:pz}{x dx C f:Addr}{mA:Str→Option tx}{name:Str}{v:tx}
theorem xm {expr:Bool}{Q:tx→FI→Prop}(X:K.In s.heap)(I:jF s.heap x dx C mA)(hg:JZ K C name=true)(hh:Kp K C=true)
  (ha:GU K (.ref C) name=some none)(hv:mA name=some v)(hv':W.handedIn v=true)(h:Q v {s with toks:=s.toks+1}):
  wpAny (model prog w) A (getAttr (.ref x) name expr) Q E s:=by
 obtain⟨od,J,hl⟩:=I.look
 exact W.get_value X J (JH hg).1 (W.findObj_own hh ha rfl (by rw[hl,hv])) hv' h
theorem tE {pl:Sem Bool}{Q:tx×List tx→FI→Prop}(X:K.In s.heap)(I:jF s.heap x dx C mA)(hg:JZ K C name=true)
  (hf:GU K (.ref C) name=some (some (.ref f)))(ht:Jw K (.ref f)=true)(hv:mA name=none)(h:Q (.ref f,[.ref x]) s):
  wpAny (model prog w) A (getMethod (.ref x) name pl) Q E s:=by
 obtain⟨od,J,hl⟩:=I.look
 exact W.method_fn X J (JH hg).1 (JH hg).2 hf (beq_iff_eq.mp ht) (by show(Nf name od).map (·.isSome)=some false;rw[hl,hv];rfl) h
theorem xr {ns:List Str}{Q:Unit→FI→Prop}(X:K.In s.heap)(I:jF s.heap x dx C mA)
  (hs:GU K (.ref C) "__setattr__"=some (some (.builtin "object.__setattr__")))(hp:Lp K C=true)(ht:NQ K C name=some none)(hh:Kp K C=true)
  (hw:LB mA ns)(hsz:ns.length≤sizeLine)
  (h:∀h',jF h' x dx C (fun y=>if y=name then some v else mA y)→HU dx s.heap h'→Q () {s with heap:=h',toks:=s.toks+2}):
  wpAny (model prog w) A (setAttr (.ref x) name v) Q E s:=by
 obtain⟨od,J,hl⟩:=I.look
 refine W.set_plain X J hs (W.osa_open (s:={s with toks:=s.toks+1}) (r:=none) X J hp ht fun b=>?_)
 obtain⟨cd,hc,hd'⟩:=W.any_some hh
 have hx:s.heap.get? x=some ⟨.ref C,some dx,.plain,#[]⟩:=I.obj
 refine ah (FK (ah (ah (wpAny_loadPart hx (ah (W.Looks.here (s:={s with toks:=s.toks+1}) (W.looks_clsIn X hc) ?_))))))
 rw[hd']
 refine FK (a:=some dx) (ah (FK (ah ?_)))
 refine wpAny_nsSet1 (s:={s with toks:=s.toks+1}) I.ns fun h' hn2 hs2=>?_
 obtain⟨oD,esD,epD,hoD,hdD,hcD⟩:=hn2.count (PySem.Within.cons name v hw)
 refine ah (wpAny_lookBehind hoD (by rw[hdD];exact pastItsLine_dict (Gk hcD (by rw[HG];omega))) ?_)
 exact FK (h _ ⟨(hs2.2 _ (Gt I.ne)).trans I.obj,hn2,I.ne⟩ hs2)
theorem tJ {R:Lb→FI→Prop}{vs:List tx}{kw:List (Str×tx)}(X:K.In s.heap)(hm:Mv K C=true)
  (hi:GU K (.ref C) "__init__"=some (some (.ref f)))(hf:W.typeIn K (.ref f)=some (.type "function"))
  (h:codeAny (model prog w) (A.under (.builtin "type.__call__" ⟨.ref C::vs,kw⟩)) (.call (.ref f) ⟨.ref (s.heap.objs.size+1)::vs,kw⟩) (W.InitBack (s.heap.objs.size+1) R)
   {s with heap:=(s.heap.push Iz).push (JB C s.heap.objs.size)}):
  codeAny (model prog w) A (.call (.ref C) ⟨vs,kw⟩) R s:=by
 obtain⟨hh,g,d,t,os⟩:=s
 exact W.make_core (W.makes_of X hm) (W.looks_findIn X hi) (fun self=>W.bind_fn X self hf) (.inl rfl) h
end
def dP (f:Str)(v:V):List (Str×V)→List (Str×V)
 |[]=>[(f,v)]
 |(g,x)::r=>if g=f then(g,v)::r else(g,x)::dP f v r
theorem jv (f g:Str)(v:V):∀fs:List (Str×V),(dP f v fs).lookup g=if g=f then some v else fs.lookup g
 |[]=>by
  show HL g [(f,v)]=_
  by_cases h:g=f
  ·have hb:(g==f)=true:=beq_iff_eq.mpr h
   simp only[HL,hb,if_pos h]
  ·have hb:(g==f)=false:=beq_eq_false_iff_ne.mpr h
   simp only[HL,hb,if_neg h]
 |(k,x)::r=>by
  have ih:=jv f g v r
  rw[show dP f v ((k,x)::r)=(if k=f then(k,v)::r else(k,x)::dP f v r)from rfl]
  by_cases hk:k=f
  ·rw[if_pos hk]
   by_cases h:g=k
   ·have hb:(g==k)=true:=beq_iff_eq.mpr h
    simp only[HL,hb,if_pos (h.trans hk)]
   ·have hb:(g==k)=false:=beq_eq_false_iff_ne.mpr h
    simp only[HL,hb,if_neg (fun e:g=f=>h (e.trans hk.symm))]
  ·rw[if_neg hk]
   by_cases h:g=k
   ·have hb:(g==k)=true:=beq_iff_eq.mpr h
    simp only[HL,hb,if_neg (fun e:g=f=>hk (h.symm.trans e))]
   ·have hb:(g==k)=false:=beq_eq_false_iff_ne.mpr h
    simp only[HL,hb]
    exact ih
theorem iP (f:Str)(v:V):∀fs:List (Str×V),f∈(dP f v fs).map (·.1)∧∀g,g∈fs.map (·.1)→g∈(dP f v fs).map (·.1)
 |[]=>⟨by simp[dP],fun g h=>by simp at h⟩
 |(k,x)::r=>by
  obtain⟨i1,i2⟩:=iP f v r
  rw[show dP f v ((k,x)::r)=(if k=f then(k,v)::r else(k,x)::dP f v r)from rfl]
  by_cases hk:k=f
  ·rw[if_pos hk]
   subst hk
   exact⟨by simp,fun g h=>by simpa using h⟩
  ·rw[if_neg hk]
   refine⟨?_,fun g h=>?_⟩
   ·rw[Gw]
    exact GF _ i1
   ·rw[Gw]at h⊢
    rcases Gh.mp h with e|e
    ·exact Gh.mpr (.inl e)
    ·exact GF _ (i2 g e)
theorem jt (f:Str)(v:V):∀fs:List (Str×V),(dP f v fs).length≤fs.length+1
 |[]=>by simp[dP]
 |(k,x)::r=>by
  have ih:=jt f v r
  rw[show dP f v ((k,x)::r)=(if k=f then(k,v)::r else(k,x)::dP f v r)from rfl]
  by_cases hk:k=f
  ·rw[if_pos hk,HG,HG];omega
  ·rw[if_neg hk,HG,HG];omega
theorem cS.some_of {v:V}{o:Option tx}(r:cS (some v) o):∃u,o=some u∧aO v u:=by
 cases o with
 |none=>exact(show False from r).elim
 |some u=>exact⟨u,rfl,r⟩
theorem cS.none_of {o:Option tx}(r:cS none o):o=none:=by
 cases o with
 |none=>rfl
 |some u=>exact(show False from r).elim
theorem rF {v:V}{u:tx}(r:aO v u):W.handedIn u=true:=by
 cases v with
 |non=>cases (show u=HE from r);rfl
 |bl b=>cases (show u=HA b from r);rfl
 |int i=>obtain⟨t,e⟩:=(show ∃t,u=JJ i t from r);cases e;rfl
 |str x=>obtain⟨t,e⟩:=(show ∃t,u=Kf x t from r);cases e;rfl
 |byt b=>obtain⟨t,e⟩:=(show ∃t,u=NS b t from r);cases e;rfl
 |flt b=>obtain⟨t,e⟩:=(show ∃t,u=LY b t from r);cases e;rfl
 |ref a=>cases (show u=FT a from r);rfl
 |ty n=>cases (show u=JL n from r);rfl
section
variable {P:Gd}{w:GH}{H H':Hp}{h h':Heap}{a C dx:Addr}{fs fs':List (Str×V)}
theorem gP (hok:HOk P w H h)(e:H a=some (.ins C dx fs)):∃mA,jF h a dx C mA∧(∀f,cS (fs.lookup f) (mA f))∧LB mA (fs.map (·.1))∧fs.length≤1000∧H dx=some (.own a):=by
 obtain⟨d,z,ne,ob,mA,n,r,q⟩:=(show aY P w H h a (.ins C dx fs)from hok a _ e)
 exact⟨mA,⟨ob,n,ne⟩,r,q,z,d⟩
end
structure Cls (K:pz)(C:Addr):Prop where
 pg:JZ K C Nt=true
 hd:Kp K C=true
 po:Lp K C=true
 sa:GU K (.ref C) "__setattr__"=some (some (.builtin "object.__setattr__"))
theorem Cls.get {K:pz}{C:Addr}(c:Cls K C)(f:Str):JZ K C f=true:=c.pg
def cU (K:pz)(C:Addr)(f:Str):Prop:=GU K (.ref C) f=some none
theorem cU.taker {K:pz}{C:Addr}{f:Str}(n:cU K C f):NQ K C f=some none:=by
 unfold NQ
 rw[show GU K (.ref C) f=some none from n]
 rfl
structure eP (K:pz)(C:Addr)(m:Str)(f:Addr):Prop where
 at_:GU K (.ref C) m=some (some (.ref f))
 fn:Jw K (.ref f)=true
 kp:Ka K (.ref f)=true
section
variable {X:Cx}{pins:List (Addr×Obj)}{σ:St}{H:Hp}{s:FI}{a C dx:Addr}{fs:List (Str×V)}{f:Str}{v:V}{A:GC}{E:tx→FI→Prop}
theorem ke {b:Bool}{Q:tx→FI→Prop}(I:Inv X pins σ H s)(e:H a=some (.ins C dx fs))(c:Cls X.K C)(n:cU X.K C f)(l:fs.lookup f=some v)
  (h:∀u s',Inv X pins σ H s'→aO v u→Q u s'):wpAny (model X.prog X.w) A (getAttr (.ref a) f b) Q E s:=by
 obtain⟨mA,O,r,_,_,_⟩:=gP I.hok e
 obtain⟨u,hu,ru⟩:=cS.some_of (v:=v) (o:=mA f) (by rw[←l];exact r f)
 exact xm I.kIn O (c.get f) c.hd n hu (rF ru) (h u _ (I.tok _) ru)
theorem ka {m:Str}{g:Addr}{pl:Sem Bool}{Q:tx×List tx→FI→Prop}(I:Inv X pins σ H s)(e:H a=some (.ins C dx fs))(c:Cls X.K C)(k:eP X.K C m g)(l:fs.lookup m=none)
  (h:Q (.ref g,[.ref a]) s):wpAny (model X.prog X.w) A (getMethod (.ref a) m pl) Q E s:=by
 obtain⟨mA,O,r,_,_,_⟩:=gP I.hok e
 have hn:mA m=none:=cS.none_of (by rw[←l];exact r m)
 exact tE I.kIn O (c.get m) k.at_ k.fn hn h
theorem qp {y:V}{u:tx}{Q:Unit→FI→Prop}(I:Inv X pins σ H s)(e:H a=some (.ins C dx fs))(c:Cls X.K C)(n:cU X.K C f)(hl:fs.length<1000)(ry:aO y u)
  (h:∀s',Inv X pins σ (upd H a (.ins C dx (dP f y fs))) s'→Q () s'):wpAny (model X.prog X.w) A (setAttr (.ref a) f u) Q E s:=by
 obtain⟨mA,O,r,wi,_,ho⟩:=gP I.hok e
 have hz:(fs.map (·.1)).length≤sizeLine:=by rw[FH,HR];omega
 refine xr I.kIn O c.sa c.po n.taker c.hd wi hz fun h' O' sb=>h _ ?_
 have hd:∃o,h'.get? dx=some o:=let ⟨o,_,_,e',_⟩:=O'.ns;⟨o,e'⟩
 refine I.write (x:=a) (e:=dx) (by rw[e];exact HM) (.inr ho) (fun b q hb z=>(sb.2 b hb).trans z) hd ?_
 refine⟨by rw[al O.ne];exact ho,?_,O.ne,O'.obj,_,O'.ns,fun g=>?_,fun g hg=>?_⟩
 ·have:=jt f y fs;omega
 ·show cS ((dP f y fs).lookup g) (if g=f then some u else mA g)
  rw[jv]
  by_cases q:g=f
  ·rw[if_pos q,if_pos q];exact ry
  ·rw[if_neg q,if_neg q];exact r g
 ·by_cases q:g=f
  ·rw[q];exact(iP f y fs).1
  ·refine(iP f y fs).2 g (wi g fun z=>hg ?_)
   show(if g=f then some u else mA g)=none
   rw[if_neg q];exact z
theorem Inv.made (I:Inv X pins σ H s):Inv X pins σ (upd (upd H s.heap.objs.size (.own (s.heap.objs.size+1))) (s.heap.objs.size+1) (.ins C s.heap.objs.size []))
  {s with heap:=(s.heap.push Iz).push (JB C s.heap.objs.size)}:=by
 have e1:(s.heap.push Iz).get? s.heap.objs.size=some Iz:=FO s.heap rfl
 have e2:((s.heap.push Iz).push (JB C s.heap.objs.size)).get? (s.heap.objs.size+1)=some (JB C s.heap.objs.size):=by
  have:=FO (s.heap.push Iz) (o:=JB C s.heap.objs.size) rfl
  rwa [HB]at this
 have e3:(s.heap.push Iz).Ns s.heap.objs.size (fun _=>none):=⟨Iz,#[],_,e1,rfl,(fun e he=>absurd he (by simp)),fun _=>rfl⟩
 have I1:=I.laid (a:=s.heap.objs.size) (o:=.own (s.heap.objs.size+1)) (h':=s.heap.push Iz) (t':=s.toks) (fun b u q=>cW _ q) (gV _) ⟨_,e1⟩
 refine I1.laid (a:=s.heap.objs.size+1) (o:=.ins C s.heap.objs.size []) (t':=s.toks) (fun b u q=>cW _ q) (JR (HB _ _)) ?_
 have ne:s.heap.objs.size≠s.heap.objs.size+1:=Gf (Hb _)
 refine⟨by rw[al ne,aj],Gc _,ne,e2,fun _=>none,(Heap.Ns1.of_empty e3).at fun o q=>cW _ q,fun _=>HM,fun y hy=>absurd rfl hy⟩
theorem xi {prog:Gd}{w:GH}{env:Env}{e:Expr}{f:Str}{pos:Pos}{s:FI}{Q:tx→FI→Prop}(hb:attributeBase e f env (eval e env)=eval e env)
  (h:wpAny (model prog w) A (eval e env) (fun o s₁=>wpAny (model prog w) A (getAttr o f true) Q E s₁) E s):wpAny (model prog w) A (eval (.Attribute e f pos) env) Q E s:=
 Attribute_any_ h (by rw[arm_eval_Attribute,hb])
end
def gD (K:pz)(ta:TE)(f:Str):TE:=fun σ H Q=>ta σ H fun x H1=>∃a C dx fs v,x=.ref a∧H1 a=some (.ins C dx fs)∧Cls K C∧cU K C f∧fs.lookup f=some v∧Q v H1
def lf (K:pz)(ta tv:TE)(f:Str):TS:=fun D σ H=>tv σ H fun y H1=>ta σ H1 fun x H2=>∃a C dx fs,x=.ref a∧H2 a=some (.ins C dx fs)∧Cls K C∧cU K C f∧fs.length<1000∧
 D.nx σ (upd H2 a (.ins C dx (dP f y fs)))
section
variable {X:Cx}{o e value:Expr}{f:Str}{pos pos' tpos:Pos}{ta tv:TE}
theorem AA (he:PE X e ta)(hb:attributeBase e f X.env (eval e X.env)=eval e X.env):PE X (.Attribute e f pos) (gD X.K ta f):=by
 intro pins s σ H Q I h
 refine xi hb (thn (he pins s σ H _ I h) fun u s1 ⟨x,H1,I1,rx,a,C,dx,fs,v,ex,ea,c,n,l,q⟩=>?_)
 subst ex
 obtain rfl:u=FT a:=rx
 exact ke I1 ea c n l fun u' s2 I2 ru=>⟨v,H1,I2,ru,q⟩
theorem Al (ha:PE X o ta)(hv:PE X value tv)(hs:swapsWith value (some (.Attribute o f pos')) pos.line X.env=pure false):PS X (.Assign [.Attribute o f pos'] value pos) (lf X.K ta tv f):=by
 intro pins s σ H D I h
 refine plainObj_wpAny_Assign_Attribute (thn (hv pins s σ H _ I h) fun u s1 ⟨y,H1,I1,ry,q⟩=>thn (ha pins s1 σ H1 _ I1 q) fun ov s2 ⟨x,H2,I2,rx,a,C,dx,fs,ex,ea,c,n,l,q2⟩=>?_) hs
 subst ex
 obtain rfl:ov=FT a:=rx
 exact qp I2 ea c n l ry fun s3 I3=>⟨σ,_,I3,q2⟩
end
section
variable {X:Cx}{pins:List (Addr×Obj)}{σ:St}{H:Hp}{s:FI}{A:GC}{E:tx→FI→Prop}{Q:tx→FI→Prop}{c:tx}{b:Bool}
inductive eV (K:pz)(H:Hp):V→tx→Prop where
 |non:eV K H .non (.type "NoneType")
 |bl (x:Bool):eV K H (.bl x) (.type "bool")
 |int (i:Int):eV K H (.int i) (.type "int")
 |str (x:Str):eV K H (.str x) (.type "str")
 |flt (x:UInt64):eV K H (.flt x) (.type "float")
 |lst {a:Addr} {xs:List V} (e:H a=some (.lst xs)):eV K H (.ref a) (.type "list")
 |frz {a:Addr} {o:Obj} {xs:List V} (e:H a=some (.frz o (.lst xs))):eV K H (.ref a) (.type "list")
 |tup {a:Addr} {xs:List V} (e:H a=some (.tup xs)):eV K H (.ref a) (.type "tuple")
 |dK {a:Addr} {kvs:List (Key×V)} (e:H a=some (.dK kvs)):eV K H (.ref a) (.type "dict")
 |dT {a:Addr} {kvs:List (List Key×V)} (e:H a=some (.dT kvs)):eV K H (.ref a) (.type "dict")
 |ins {a C dx:Addr} {fs:List (Str×V)} (e:H a=some (.ins C dx fs)) (cl:Cls K C) (ha:GU K (.ref C) "__class__"=some (some (.builtin "object.__class__")))
  (hn:W.specialIn K (.builtin "object.__class__") "__get__"=some (some (.builtin "getset_descriptor.__get__"))) (htk:W.takesIn K (.builtin "object.__class__")=some true)
  (hm:W.mroIn K C (.type "object")=some true):eV K H (.ref a) (.ref C)
theorem sU {x:V}{u t:tx}(I:Inv X pins σ H s)(rx:aO x u)(ty:eV X.K H x t)(e:W.kitOne X.K t c=some b)(h:∀tk,Q (.bool b) {s with toks:=tk}):
  wpAny (model X.prog X.w) A (call (.builtin "isinstance") [u,c]) Q E s:=by
 cases ty with
 |non=>cases (show u=HE from rx);exact IG W.kitx_none I.kIn HM e (fun z=>nomatch z) h
 |bl y=>cases (show u=HA y from rx);exact IG W.kitx_bool I.kIn HM e (fun z=>nomatch z) h
 |int i=>obtain⟨t,q⟩:=(show ∃t,u=JJ i t from rx);cases q;exact IG W.kitx_int I.kIn HM e (fun z=>nomatch z) h
 |str y=>obtain⟨t,q⟩:=(show ∃t,u=Kf y t from rx);cases q;exact IG W.kitx_str I.kIn HM e (fun z=>nomatch z) h
 |flt y=>obtain⟨t,q⟩:=(show ∃t,u=LY y t from rx);cases q;exact IG W.kitx_float I.kIn HM e (fun z=>nomatch z) h
 | @lst a xs ea=>
   cases (show u=FT a from rx)
   obtain⟨_,_,n,_,h1⟩:=(show aY X.prog X.w H s.heap a (.lst xs)from I.hok a _ ea)
   exact IG W.kitx_list I.kIn ⟨_,h1,rfl⟩ e (fun z=>nomatch z) h
 | @frz a ob xs ea=>
   cases (show u=FT a from rx)
   obtain⟨_,_,_,n,_,h1⟩:=(show aY X.prog X.w H s.heap a (.frz ob (.lst xs))from I.hok a _ ea)
   exact IG W.kitx_list I.kIn ⟨_,h1,rfl⟩ e (fun z=>nomatch z) h
 | @tup a xs ea=>
   cases (show u=FT a from rx)
   obtain⟨_,_,_,p⟩:=(show aY X.prog X.w H s.heap a (.tup xs)from I.hok a _ ea)
   obtain⟨o,h1,h2,_⟩:=p
   exact IG W.kitx_tuple I.kIn ⟨o,h1,h2⟩ e (fun z=>nomatch z) h
 | @dK a kvs ea=>
   cases (show u=FT a from rx)
   obtain⟨_,_,vs,_,p⟩:=(show aY X.prog X.w H s.heap a (.dK kvs)from I.hok a _ ea)
   obtain⟨o,es,ep,h1,h2,_⟩:=p
   exact IG W.kitx_dict I.kIn ⟨o,h1,h2.1⟩ e (fun z=>nomatch z) h
 | @dT a kvs ea=>
   cases (show u=FT a from rx)
   obtain⟨_,_,xs,_,o,es,ep,h1,h2,_⟩:=(show aY X.prog X.w H s.heap a (.dT kvs)from I.hok a _ ea)
   exact IG W.kitx_dict I.kIn ⟨o,h1,h2.1⟩ e (fun z=>nomatch z) h
 | @ins a C dx fs ea cl ha hn htk hm=>
   cases (show u=FT a from rx)
   obtain⟨mA,O,_⟩:=gP I.hok ea
   obtain⟨od,J,_⟩:=O.look
   exact IG (W.kitx_own (cl.get _) cl.hd ha hn htk hm) I.kIn J e (fun z=>nomatch z) h
end
structure bn (k:Nat)(A:GC):Prop where
 hd:A.handled=none
 dp:A.depth+3*k+5<recursionLimit
 un:A.units+16*k+200<cLine
theorem bn.mono {j k:Nat}{A:GC}(r:bn k A)(h:j≤k):bn j A:=⟨r.hd,by have:=r.dp;omega,by have:=r.un;omega⟩
theorem bn.deeper {k:Nat}{A:GC}(r:bn (k+1) A)(env:Env):bn k (A.deeper env):=
 ⟨r.hd,by have:=r.dp;show A.depth+1+3*k+5<_;omega,by have:=r.un;show A.units+3+16*k+200<_;omega⟩
theorem pO {A:GC}{C:Addr}{us:List tx}{kw:List (Str×tx)}:(A.under (.builtin "type.__call__" ⟨.ref C::us,kw⟩)).depth=A.depth+1:=by
 first|rfl|simp[Lu,Code.weight,Code.isCreation,Code.isGuard,Code.isCaller,Code.frames,LL,guardIds]
theorem ql {A:GC}{C:Addr}{us:List tx}{kw:List (Str×tx)}:(A.under (.builtin "type.__call__" ⟨.ref C::us,kw⟩)).units=A.units+1:=by
 first|rfl|simp[Lu,Code.cUnits,Code.frames,LL]
theorem bn.make {k:Nat}{A:GC}(r:bn (k+1) A)(C:Addr)(us:List tx)(kw:List (Str×tx)):bn k (A.under (.builtin "type.__call__" ⟨.ref C::us,kw⟩)):=
 ⟨r.hd,by have:=r.dp;rw[pO];omega,by have:=r.un;rw[ql];omega⟩
theorem bn.depth {k:Nat}{A:GC}(r:bn k A):A.depth<recursionLimit:=by have:=r.dp;omega
def ak:TA:=fun _ H Q=>Q [] H
def af (ta:TE)(tr:TA):TA:=fun σ H Q=>ta σ H fun x H1=>tr σ H1 fun xs H2=>Q (x::xs) H2
section
variable {X:Cx}{e:Expr}{es:List Expr}{te:TE}{t:TA}{pos:Pos}
theorem zH:PA X [] ak:=fun _ _ _ _ H Q I h=>Jv ⟨[],H,I,.nil,h⟩
theorem xA (ha:PE X e te)(hr:PA X es t)(hs:starEach (e::es) X.env=(false,eval e X.env)::starEach es X.env:=by rfl):PA X (e::es) (af te t):=by
 intro pos pins s σ H Q I h
 rw[hs]
 show wpAny _ _ (spliced ((false,eval e X.env)::backTo pos (starEach es X.env))) _ _ s
 refine Jj (thn (ha pins s σ H _ I h) fun u s1 ⟨x,H1,I1,r1,q1⟩=>?_)
 exact thn (hr pos pins s1 σ H1 _ I1 q1) fun us s2 ⟨xs,H2,I2,r2,q2⟩=>⟨x::xs,H2,I2,.cons r1 r2,q2⟩
def bc (t:TA):TE:=fun σ H Q=>t σ H fun xs H1=>xs.length≤sizeLine∧∀p,H1 p=none→Q (.ref p) (upd H1 p (.tup xs))
def dg (t:TA):TE:=fun σ H Q=>t σ H fun xs H1=>xs.length≤sizeLine∧∀p,H1 p=none→Q (.ref p) (upd H1 p (.lst xs))
theorem yM {x1}(h:PA X es t):PE X (.Tuple es x1 pos) (bc t):=by
 intro pins s σ H Q I hq
 refine wpAny_Tuple_spliced (thn (h pos pins s σ H _ I hq) fun us s1 ⟨xs,H1,I1,r,z,q⟩=>⟨by rw[←r.length];exact z,?_⟩)
 have hf:H1 s1.heap.objs.size=none:=I1.hok.fresh (gV _)
 refine⟨.ref s1.heap.objs.size,upd H1 s1.heap.objs.size (.tup xs),I1.laid (t':=s1.toks) (fun b u e=>cW _ e) (gV _) ?_,rfl,q _ hf⟩
 exact⟨z,us,r,⟨_,FO _ rfl,rfl,_,rfl⟩⟩
theorem zS (h:PA X es t):PE X (.List es pos) (dg t):=by
 intro pins s σ H Q I hq
 refine wpAny_List_spliced (thn (h pos pins s σ H _ I hq) fun us s1 ⟨xs,H1,I1,r,z,q⟩=>⟨by rw[←r.length];exact z,?_⟩)
 have hf:H1 s1.heap.objs.size=none:=I1.hok.fresh (gV _)
 refine⟨.ref s1.heap.objs.size,upd H1 s1.heap.objs.size (.lst xs),I1.laid (t':=s1.toks) (fun b u e=>cW _ e) (gV _) ?_,rfl,q _ hf⟩
 exact⟨z,us,0,r,FO _ rfl⟩
end
abbrev Sp:=List V→Hp→VK→XK→Prop
abbrev CXT:=List Env→Hp→FI→XK→tx→FI→Prop
structure gB (P:Gd)(w:GH)(K:pz)(mg:Str→Option tx)(base:Heap)(A:GC)(outer:List Env)(s:FI)(H:Hp):Prop where
 frames:A.frames=some outer
 mod:Mod K mg base
 bs:∀b o,base.get? b=some o→s.heap.get? b=some o∧H b=none
 bsz:base.objs.size≤s.heap.objs.size
 funs:s.heap.FunFrames base outer
 frf:∀b∈frs outer,H b=none
 hok:HOk P w H s.heap
 bare:Kj s.gens
def CE (outer:List Env)(P:Gd)(w:GH)(H:Hp)(s:FI)(Q:VK)(u:tx)(s':FI):Prop:=
 ∃v H',s'.os=s.os∧Kj s'.gens∧Un (frs outer) [] H H' s.heap s'.heap∧HOk P w H' s'.heap∧aO v u∧Q v H'
def CR (CX:CXT)(outer:List Env)(P:Gd)(w:GH)(H:Hp)(s:FI)(Q:VK)(E:XK)(r:Lb)(s':FI):Prop:=
 match r with
 |.ok (.ret u)=>CE outer P w H s Q u s'
 |.ok _=>False
 |.error e=>CX outer H s E e s'
structure aM (P:Gd)(w:GH)(K:pz)(mg:Str→Option tx)(base:Heap)(CX:CXT)(k:Nat)(f:Addr)(fd:FX)(ps:List Str)(sp:Sp):Prop where
 len:∀vs H Q E,sp vs H Q E→vs.length=ps.length
 run:∀(A:GC)(outer:List Env)(s:FI)(H:Hp)(args:Args)(us:List tx)(vs:List V)(Q:VK)(E:XK),bn k A→gB P w K mg base A outer s H→MA s fd args (ps.zip us)→aJ vs us→sp vs H Q E→
  codeAny (model P w) A (.call (.ref f) args) (CR CX outer P w H s Q E) s
theorem gB.make {P:Gd}{w:GH}{K:pz}{mg:Str→Option tx}{base:Heap}{A:GC}{outer:List Env}{s:FI}{H:Hp}(e:gB P w K mg base A outer s H)(C:Addr)(us:List tx)(kw:List (Str×tx)):
 gB P w K mg base (A.under (.builtin "type.__call__" ⟨.ref C::us,kw⟩)) outer s H:=⟨by first|exact e.frames|(simpa[Lu,Code.envs,LL,pushEnvs]using e.frames),e.mod,e.bs,e.bsz,e.funs,e.frf,e.hok,e.bare⟩
section
variable {X:Cx}{pins:List (Addr×Obj)}{σ:St}{H:Hp}{s s':FI}
theorem Inv.env0 (I:Inv X pins σ H s):gB X.prog X.w X.K X.mg X.base X.A X.stack s H:=
 ⟨I.ok.frames,I.ok.mod,I.bs,Gk I.ok.bsz I.sz,I.stack,I.stkFree,I.hok,I.bare⟩
theorem Inv.after {Q:VK}{u:tx}(I:Inv X pins σ H s)(h:CE X.stack X.prog X.w H s Q u s'):EP X pins σ Q u s':=by
 obtain⟨v,H',os,bare,un,hok,r,q⟩:=h
 obtain⟨hh,g,d,t,os'⟩:=s'
 obtain rfl:os'=s.os:=os
 exact⟨v,H',I.call (h':=hh) (g':=g) (d':=d) (t':=t) (ch:=[]) un hok bare (fun b z=>absurd z (by simp)),r,q⟩
end
def bI (K:pz)(fd:FX)(ps:List Str)(ds:List tx):Prop:=
 ∀(s:FI)(us:List tx),K.In s.heap→(us++ds).length=ps.length→MA s fd ⟨us,[]⟩ (ps.zip (us++ds))
theorem bI.all {K:pz}{fd:FX}{ps:List Str}(h:∀us:List tx,us.length=ps.length→bindArgs fd ⟨us,[]⟩=pure (ps.zip us)):bI K fd ps []:=fun s us _ hl=>by
 rw[GW]at hl⊢
 exact .of_eq (h us hl)
section
variable {X:Cx}{CX:CXT}{k:Nat}{f C:Addr}{fd:FX}{ps:List Str}{sp:Sp}{dvs:List V}{ds:List tx}{E:XK}{x m:Str}{p pos apos:Pos}{e o:Expr}{es:List Expr}{ta:TE}{t:TA}
structure Mk (K:pz)(C f:Addr):Prop where
 makes:Mv K C=true
 init:GU K (.ref C) "__init__"=some (some (.ref f))
 fn:Jw K (.ref f)=true
 kp:Ka K (.ref C)=true
end
def PK (X:Cx)(kws:List Keyword)(t:TA):Prop:=
 ∀(pos:Pos)(pins:List (Addr×Obj))(s:FI)(σ:St)(H:Hp)(Q:List V→Hp→Prop),Inv X pins σ H s→t σ H Q→wpAny (model X.prog X.w) X.A (evalAll ((backToKw pos (keywordEach kws X.env)).map (·.2))) (AP X pins σ Q) X.xe s
structure aD (N P:List Str)(sc:Scope):Prop where
 kind:sc.kind=.function
 co:sc.isCoroutine=false
 gen:sc.isGenerator=false
 nd:N.Nodup
 pre:N.take P.length=P
 par:∀x∈P,sc.names.lookup x=some .local∨sc.names.lookup x=some .cell
 nofree:∀y∈sc.names,y.2≠.free
theorem lI {kindOf:Str→Option HX}{x:Str}:∀{binds:List (Str×tx)}{m:Str→Option tx},(∀v,(x,v)∉binds)→bindL kindOf binds m x=m x
 |[],_,_=>rfl
 |(n,v)::r,m,h=>by
  unfold bindL
  rw[lI fun w hw=>h w (GF _ hw)]
  split
  ·have:x≠n:=by rintro rfl;exact h v Gu
   simp[this]
  ·rfl
theorem lC {kindOf:Str→Option HX}{x:Str}:∀{binds:List (Str×tx)}{m:Str→Option tx},(∀v,(x,v)∉binds)→bindC kindOf binds m x=m x
 |[],_,_=>rfl
 |(n,v)::r,m,h=>by
  unfold bindC
  rw[lC fun w hw=>h w (GF _ hw)]
  split
  ·rfl
  ·have:x≠n:=by rintro rfl;exact h v Gu
   simp[this]
theorem lX {kindOf:Str→Option HX}{x:Str}{v:tx}:∀{P:List Str}{vs:List tx}{i:Nat}{m:Str→Option tx},P.Nodup→P[i]? =some x→vs[i]? =some v→kindOf x=some .local→
  bindL kindOf (P.zip vs) m x=some v
 |[],_,_,_,_,h,_,_=>by simp at h
 |_::_,[],_,_,_,_,h,_=>by simp at h
 |p::P,w::vs,0,m,nd,h1,h2,hk=>by
  simp at h1 h2;subst h1;subst h2
  show bindL kindOf ((p,w)::P.zip vs) m p=_
  unfold bindL
  rw[lI fun v hv=>(Hl.mp nd).1 (Ik hv).1,if_pos hk]
  simp
 |p::P,w::vs,i+1,m,nd,h1,h2,hk=>by
  show bindL kindOf ((p,w)::P.zip vs) m x=_
  unfold bindL
  exact lX (i:=i) (Hl.mp nd).2 (by simpa using h1) (by simpa using h2) hk
theorem lR {kindOf:Str→Option HX}{x:Str}{v:tx}:∀{P:List Str}{vs:List tx}{i:Nat}{m:Str→Option tx},P.Nodup→P[i]? =some x→vs[i]? =some v→kindOf x≠some .local→
  bindC kindOf (P.zip vs) m x=some v
 |[],_,_,_,_,h,_,_=>by simp at h
 |_::_,[],_,_,_,_,h,_=>by simp at h
 |p::P,w::vs,0,m,nd,h1,h2,hk=>by
  simp at h1 h2;subst h1;subst h2
  show bindC kindOf ((p,w)::P.zip vs) m p=_
  unfold bindC
  rw[lC fun v hv=>(Hl.mp nd).1 (Ik hv).1,if_neg hk]
  simp
 |p::P,w::vs,i+1,m,nd,h1,h2,hk=>by
  show bindC kindOf ((p,w)::P.zip vs) m x=_
  unfold bindC
  exact lR (i:=i) (Hl.mp nd).2 (by simpa using h1) (by simpa using h2) hk
def cJ (N:List Str)(vs:List V):St:=vs.map some++Li (N.length- vs.length) none
def fA (CX:CXT)(P:Gd)(w:GH)(K:pz)(mg:Str→Option tx)(base:Heap)(N:List Str)(qual:Str)(scope:Scope)(f:Addr)(cd:tx)(A:GC)(outer:List Env)(s:FI)(H:Hp)(E:XK):Cx where
 prog:=P
 w:=w
 K:=K
 mg:=mg
 base:=base
 A:=A.deeper (envOfC qual scope s.heap.objs.size f cd)
 N:=N
 s₀:=s
 H₀:=H
 env:=envOfC qual scope s.heap.objs.size f cd
 outer:=outer
 stack:=envOfC qual scope s.heap.objs.size f cd::outer
 ex:=[]
 calm:=true
 fn:=fun _=>true
 pn:=[]
 xe:=fun e s'=>wpAny (model P w) (A.deeper (envOfC qual scope s.heap.objs.size f cd)) (leaving (envOfC qual scope s.heap.objs.size f cd) e) (fun _ s''=>CX outer H s E e s'') (fun e' s''=>CX outer H s E e' s'') s'
theorem ow {sc:Scope}{n:Nat}{x:Str}(h:sc.names.lookup x=some .cell):∃c,(cellsFrom n sc.names []).lookup x=some c:=by
 have q:=KP sc.names n [] (.inl h)
 exact GO.mp q
theorem lS {CX:CXT}{P:Gd}{w:GH}{K:pz}{mg:Str→Option tx}{base:Heap}{N ps:List Str}{qual:Str}{scope:Scope}{f:Addr}{cd:tx}{A:GC}{outer:List Env}{s s1:FI}{H:Hp}{E:XK}{us:List tx}{vs:List V}
  (S:aD N ps scope)(hd:A.handled=none)(e0:gB P w K mg base A outer s H)(hl:vs.length=ps.length)(r:aJ vs us)
  (x:InCallC s s.heap.objs.size (bindL (envOfC qual scope s.heap.objs.size f cd).kindOf (ps.zip us) fun _=>none) (cellsFrom (s.heap.objs.size+1) scope.names []) (bindC (envOfC qual scope s.heap.objs.size f cd).kindOf (ps.zip us) fun _=>none) s1):
  Inv (fA CX P w K mg base N qual scope f cd A outer s H E) [] (cJ N vs) H s1:=by
 have hpl:ps.length≤N.length:=by have:=congrArg KL S.pre;rw[FJ]at this;omega
 obtain⟨h1,tk,rfl,hk⟩:=x.done
 have noA:∀b:Addr,b∉(fA CX P w K mg base N qual scope f cd A outer s H E).ex:=fun b z=>absurd (show b∈([]:List Addr)from z) (by simp)
 refine⟨⟨e0.mod,S.kind,rfl,rfl,gV _,fun y z c h1 h2=>?_,fun y hy=>?_,fun y c _ h=>?_,fun _=>hd,LG e0.frames,.inr ⟨rfl,rfl⟩,fun b z=>absurd z (noA b),e0.bs,e0.bsz,fun b _ _=>noA b,fun b z=>absurd z (noA b),e0.funs,e0.frf⟩,
  rfl,e0.bare,Un.kept hk,⟨_,x.toInCall.ns,fun i y v h1 h2 h3=>?_⟩,fun y c h=>⟨_,x.cell y c h⟩,e0.hok.fresh (gV _),fun y c h=>?_,fun p hp=>absurd (show p∈([]:List (Addr×Obj))from hp) (by simp),e0.hok.kept hk,?_⟩
 ·exact name_of_addr x.apart (Hj h1) (Hj h2)
 ·have hy:scope.names.lookup y=some .cell∨scope.names.lookup y=some .free:=hy
  rcases hy with hy|hy
  ·exact ow hy
  ·exact absurd rfl (S.nofree _ (Hj hy))
 ·exact HK (x.above y c (Hj h))
 ·have hi:i<vs.length:=by
   unfold cJ at h2
   by_cases hi:i<vs.length
   ·exact hi
   ·rw[HF (by simpa using hi)]at h2
    rw[Lw]at h2
    split at h2<;>cases h2
  have ha:vs[i]?=some v:=by
   unfold cJ at h2
   rw[Iq (by simpa using hi),GD]at h2
   cases e:vs[i]? with
   |none=>rw[e]at h2;cases h2
   |some a=>rw[e]at h2;cases h2;rfl
  obtain⟨u,hu,rv⟩:=r.get ha
  have hp:ps[i]?=some y:=by
   rw[←S.pre,Iy (by omega)];exact h1
  have ndP:ps.Nodup:=by rw[←S.pre];exact S.nd.sublist (MJ _ _)
  refine⟨u,rv,?_⟩
  rcases S.par y (Ga hp)with k|k
  ·exact .inl ⟨k,lX ndP hp hu k⟩
  ·obtain⟨c,e⟩:=ow (n:=s.heap.objs.size+1) k
   refine .inr ⟨.inl k,c,e,?_⟩
   have q:=x.cell y c e
   rw[lR ndP hp hu (by show scope.names.lookup y≠_;rw[k];decide)]at q
   exact q
 ·exact e0.hok.fresh (HK (x.above y c (Hj h)))
 ·unfold cJ
  show _=N.length
  rw[pv,FH,JN]
  omega
theorem Bx {CX:CXT}{P:Gd}{w:GH}{K:pz}{mg:Str→Option tx}{base:Heap}{k:Nat}{f:Addr}{name qual:Str}{params:Arguments}{body:List Stmt}{scope:Scope}{dV kV doc pm cdv ct oc:tx}{an od:Option Addr}
  {osl:Array (Option tx)}{N ps:List Str}{sp:Sp}(lk:K.lookup f=some ⟨oc,od,.func (IT name qual params body scope dV kV doc pm an cdv ct),osl⟩)(hcd:Ng K cdv qual=true)(S:aD N ps scope)
  (len:∀vs H Q E,sp vs H Q E→vs.length=ps.length)
  (hbody:∀(A:GC)(outer:List Env)(s:FI)(H:Hp)(vs:List V)(Q:VK)(E:XK),bn k (A.deeper (envOfC qual scope s.heap.objs.size f cdv))→sp vs H Q E→
   ∃t,PSs (fA CX P w K mg base N qual scope f cdv A outer s H E) body t∧t {nx:=fun _ H'=>Q .non H',rt:=Q} (cJ N vs) H):
  aM P w K mg base CX (k+1) f (IT name qual params body scope dV kV doc pm an cdv ct) ps sp:=by
 refine⟨len,fun A outer s H args us vs Q E hr e0 hb r hsp=>?_⟩
 have hl:=len _ _ _ _ hsp
 have KX:K.In s.heap:=e0.mod.kin.keeps fun b o e=>(e0.bs b o e).1
 have lim:s.heap.NoLimit:=e0.mod.nolimit.keeps fun b o e=>(e0.bs b o e).1
 have hkind:∀y∈ps.zip us,scope.names.lookup y.1=some .local∨(scope.names.lookup y.1=some .cell∧((cellsFrom (s.heap.objs.size+1) scope.names []).lookup y.1).isSome=true):=fun⟨n,v⟩ hy=>by
  rcases S.par n (Ik hy).1 with q|q
  ·exact .inl q
  ·exact .inr ⟨q,KP _ _ _ (.inl q)⟩
 refine IY hr.depth (KX _ _ lk) rfl S.co S.gen rfl (W.codeRec_of KX hcd) (hb _ _ _ _ ?_)
 refine LK S.kind hkind fun env he s1 x=>?_
 subst he
 refine⟨lim.keeps x.toInCall.keep,La ?_⟩
 obtain⟨t,ht,hq⟩:=hbody A outer s H vs Q E (hr.deeper _) hsp
 have I:Inv (fA CX P w K mg base N qual scope f cdv A outer s H E) [] (cJ N vs) H s1:=lS S hr.hd e0 hl r x
 refine Gj (ht [] s1 (cJ N vs) H _ I hq) (fun fl s' hs=>?_) fun e s' hs=>hs
 have fin:∀{σ':St}{H':Hp}{v:V}{u:tx},Inv (fA CX P w K mg base N qual scope f cdv A outer s H E) [] σ' H' s'→aO v u→Q v H'→CE outer P w H s Q u s':=
  fun{σ' H' v u} J rv q=>⟨v,H',J.os,J.bare,J.base,J.hok,rv,q⟩
 cases fl with
 |ret u=>
  obtain⟨v,σ',H',J,rv,q⟩:=hs
  exact fin J rv q
 |next=>
  obtain⟨σ',H',J,q⟩:=hs
  exact fin (v:=V.non) (u:=HE) J rfl q
 |brk=>
  obtain⟨_,_,_,q⟩:=hs
  exact Gm q
 |cont=>
  obtain⟨_,_,_,q⟩:=hs
  exact Gm q
section
variable {X:Cx}{x:Str}{p pos:Pos}{e:Expr}{es:List Expr}{t:TA}{id T:String}{r:List V→Hp→VK→Prop}
def tCB (r:List V→Hp→VK→Prop)(t:TA):TE:=fun σ H Q=>t σ H fun vs H1=>r vs H1 Q
theorem uP (hc:bH X (.builtin id) r)(hg:Gl X x)(hm:X.mg x=none)(hv:bootBuiltins x=some (.builtin id))(ha:PA X (e::es) t)(hn:x≠"__name__":=by decide)(hdb:(x==("__debug__":Str))=false:=by decide)
  (he:starEach (e::es) X.env=(false,eval e X.env)::starEach es X.env:=by rfl)(hpl:(backTo pos (starEach es X.env)).any (·.1)=false:=by rfl):PE X (.Call (.Name x p) (e::es) [] pos) (tCB r t):=by
 intro pins s σ H Q I h
 refine GL (dB I hg hm hv ?_ hn hdb)
 exact PyProof.Rows.callWith_builtin1 (thn (ha pos pins s σ H _ I h) fun us s1 ⟨vs,H1,I1,r1,q1⟩=>hc pins s1 σ H1 vs us Q I1 r1 q1) he hpl
theorem sf (hc:bH X (.type T) r)(hg:Gl X x)(hm:X.mg x=none)(hv:bootBuiltins x=some (.type T))(ha:PA X (e::es) t)(hn:x≠"__name__":=by decide)(hdb:(x==("__debug__":Str))=false:=by decide)
  (he:starEach (e::es) X.env=(false,eval e X.env)::starEach es X.env:=by rfl)(hpl:(backTo pos (starEach es X.env)).any (·.1)=false:=by rfl):PE X (.Call (.Name x p) (e::es) [] pos) (tCB r t):=by
 intro pins s σ H Q I h
 refine GL (dB I hg hm hv ?_ hn hdb)
 exact GB (thn (ha pos pins s σ H _ I h) fun us s1 ⟨vs,H1,I1,r1,q1⟩=>hc pins s1 σ H1 vs us Q I1 r1 q1) he hpl
end
end L2
namespace HT
open PySem PyProof.Rows
section
open PySem.SeqAt
open PySem.AutoSeq1 (wpAny_loadPart')
open PySem.MeetsSeq PySem.MeetsSeq2 PySem.MeetsSeq3
end
section
variable {prog:Gd}{w:GH}{A:GC}{E:tx→FI→Prop}{s:FI}
theorem xE {t b:Addr}{vs ws:List tx}{Q:tx→FI→Prop}(ht:KF s.heap t vs.toArray)(hb:KF s.heap b ws.toArray)(hv:vs≠[])
  (h1:ws=[]→Q (.ref t) s)(h2:ws≠[]→Q (.ref s.heap.objs.size) {s with heap:=s.heap.push {cls:=.type "tuple",data:=.seq (vs++ws).toArray}})
  (hsz:vs.length+ws.length≤sizeLine):wpAny (model prog w) A (binaryOp .Add (.ref t) (.ref b)) Q E s:=by
 obtain⟨⟨cls,dd,data,sl⟩,ho,hc,n,hd⟩:=id ht
 obtain⟨⟨cls2,dd2,data2,sl2⟩,ho2,hc2,n2,hd2⟩:=id hb
 simp only at hc hd hc2 hd2
 subst hc hd hc2 hd2
 have e:vs.toArray++ws.toArray=(vs++ws).toArray:=by simp
 by_cases hw:ws=[]
 ·exact MN ⟨_,ho,rfl⟩ ⟨_,ho2,rfl⟩ Lm Ms Jy Ju (Jl _ _)
   (tuple_addW1 t b vs.toArray ws.toArray n n2 dd dd2 sl sl2 (by simpa using hv) (by simp[hw])) ⟨ho,ho2,h1 hw⟩
 ·refine MN ⟨_,ho,rfl⟩ ⟨_,ho2,rfl⟩ Lm Ms Jy Ju (Jl _ _)
   (tuple_addW2 t b vs.toArray ws.toArray n n2 dd dd2 sl sl2 (by simpa using hv) (by simpa using hw) (by rw[FL,FL];exact hsz)) ⟨ho,ho2,?_⟩
  rw[e]
  exact h2 hw
def sIx (n d:Nat):Option Int→Nat
 |none=>d
 |some v=>if v<0 then(v+(n:Int)).toNat else min v.toNat n
theorem uY (n d:Nat):sIx n d none=d:=rfl
theorem xl (n d k:Nat):sIx n d (some (k:Int))=min k n:=by
 show(if (k:Int)<0 then((k:Int)+(n:Int)).toNat else min (k:Int).toNat n)=min k n
 rw[if_neg (by omega),Im]
theorem xN (n d:Nat)(hd:d≤n)(o:Option Int):sIx n d o≤n:=by
 cases o with
 |none=>exact hd
 |some v=>
  show(if v<0 then(v+(n:Int)).toNat else min v.toNat n)≤n
  by_cases hv:v<0
  ·rw[if_pos hv];omega
  ·rw[if_neg hv];exact KG _ _
theorem oZ (v:Int)(n d:Nat):(if v<0 then max (v+(n:Int)) 0 else min v (n:Int))=((sIx n d (some v):Nat):Int):=by
 show(if v<0 then max (v+(n:Int)) 0 else min v (n:Int))=(((if v<0 then(v+(n:Int)).toNat else min v.toNat n):Nat):Int)
 by_cases hv:v<0
 ·simp only[if_pos hv];omega
 ·simp only[if_neg hv];omega
theorem pS (lo hi:Option Int)(n:Nat):IP lo hi 1 (n:Int)=(((sIx n 0 lo:Nat):Int),((sIx n n hi:Nat):Int)):=by
 have h1:¬((1:Int)<0):=by omega
 unfold IP
 simp only[h1,if_false]
 refine Prod.ext ?_ ?_
 ·cases lo with
  |none=>rfl
  |some v=>exact oZ v n 0
 ·cases hi with
  |none=>rfl
  |some v=>exact oZ v n n
theorem pL (i j:Nat):Ih (i:Int) (j:Int) 1=j- i:=by
 unfold Ih
 have h1:(1:Int)>0:=by omega
 simp only[h1,if_true,Int.ediv_one]
 split<;>omega
theorem kr {v:tx}{o:Option Int}{Q:Option Int→FI→Prop}(p:Le v o)(h:Q o s):wpAny (model prog w) A (Oe v) Q E s:=by
 cases p with
 |none=>exact slicePart_none h
 |int i t=>exact slicePart_int h
theorem fW {sl:Addr}{vl vu:tx}{lo hi:Option Int}{n:Nat}{Q:Int×Int×Nat→FI→Prop}(hs:s.heap.IsSliceOf sl vl vu .none)(pl:Le vl lo)(pu:Le vu hi)
  (h:Q (((sIx n 0 lo:Nat):Int),1,sIx n n hi- sIx n 0 lo) s):wpAny (model prog w) A (Kc (.ref sl) (pure (n:Int))) Q E s:=by
 obtain⟨os,hos,hcs,hds⟩:=id hs
 unfold Kc Of
 refine ah (ah (Gx hos hds (x:=vl) rfl (ah (Gx hos hds (x:=vu) rfl (ah (Gx hos hds (x:=.none) rfl (FK ?_)))))))
 refine ah (slicePart_none ?_)
 show wpAny _ _ (if ((1:Int)==0)=true then _ else _) _ _ s
 rw[if_neg (by decide)]
 refine ah (kr pl (ah (kr pu (ah (FK ?_)))))
 show wpAny _ _ (match IP lo hi 1 (n:Int)with|(lo,hi)=>pure (lo,(1:Int),Ih lo hi 1)) _ _ s
 rw[pS lo hi n]
 show wpAny _ _ (pure (((sIx n 0 lo:Nat):Int),(1:Int),Ih ((sIx n 0 lo:Nat):Int) ((sIx n n hi:Nat):Int) 1)) _ _ s
 rw[pL]
 exact FK h
theorem uw (xs:Array tx)(i k:Nat):((Kr k).filterMap fun(m:Nat)=>xs[((i:Int)+(m:Int)*1).toNat]?).toArray=((xs.toList.drop i).take k).toArray:=by
 have e:(fun(m:Nat)=>xs[((i:Int)+(m:Int)*1).toNat]?)=fun m=>xs[i+m]?:=by
  funext m
  have:((i:Int)+(m:Int)*1).toNat=i+m:=by omega
  rw[this]
 rw[e]
 have:=pick_run xs i k
 rw[List.filterMap_map]at this
 have e2:((fun x=>xs[x]?)∘fun x=>i+x)=fun m=>xs[i+m]?:=rfl
 rw[e2]at this
 rw[this]
theorem jr {t sl:Addr}{items:Array tx}{vl vu:tx}{lo hi:Option Int}{Q:tx→FI→Prop}(ht:KF s.heap t items)(hs:s.heap.IsSliceOf sl vl vu .none)(pl:Le vl lo)(pu:Le vu hi)
  (hw:¬(sIx items.size 0 lo=0∧sIx items.size items.size hi=items.size))
  (h:Q (.ref s.heap.objs.size) {s with heap:=s.heap.push {cls:=.type "tuple",data:=.seq ((items.toList.drop (sIx items.size 0 lo)).take (sIx items.size items.size hi- sIx items.size 0 lo)).toArray}})
  (hsz:items.size≤sizeLine):wpAny (model prog w) A (getItem (.ref t) (.ref sl)) Q E s:=by
 have htake:sizeOk (.seq ((items.toList.drop (sIx items.size 0 lo)).take (sIx items.size items.size hi- sIx items.size 0 lo)).toArray):=by
  show((items.toList.drop (sIx items.size 0 lo)).take (sIx items.size items.size hi- sIx items.size 0 lo)).toArray.size≤sizeLine
  rw[FL,FJ,FS,HW]
  omega
 have hj:sIx items.size items.size hi≤items.size:=xN _ _ (gV _) hi
 obtain⟨os,hos,hcs,hds⟩:=id hs
 have hTs:s.TypeIs (.ref sl) "slice":=⟨os,hos,hcs⟩
 unfold getItem
 try with_reducible refine Hf ?_
 first|refine ah (FK ?_)|skip
 refine ah (NJ ht.typeIs (by decide) ?_)
 refine ah (GM (name:=Ho "__getitem__") ht.typeIs GQ
  (GN GQ ht.typeIs Nv ?_ (NE _ _)))
 show wpAny _ _ (Kb (.ref t)>>=_) _ _ s
 refine ah (tupleItemsOf_ ht ?_)
 refine ah (Jz hTs ?_)
 rw[if_pos (by decide)]
 refine ah (fW hs pl pu ?_)
 have hno:¬((((sIx items.size 0 lo:Nat):Int)==0&&(1:Int)==1&&(sIx items.size items.size hi- sIx items.size 0 lo)==items.size)=true):=by
  intro q
  rw[Hu,Hu]at q
  have q1:((sIx items.size 0 lo:Nat):Int)=0:=eq_of_beq q.1.1
  have q2:sIx items.size items.size hi- sIx items.size 0 lo=items.size:=eq_of_beq q.2
  exact hw ⟨by omega,by omega⟩
 show wpAny _ _ (if (((sIx items.size 0 lo:Nat):Int)==0&&(1:Int)==1&&(sIx items.size items.size hi- sIx items.size 0 lo)==items.size)=true then _ else _) _ _ s
 rw[if_neg hno,uw]
 first
  |exact ah (m:=Ij _) (Hn (FK ⟨_,rfl,FK h⟩) htake)
  |exact ah (m:=Ij _) (Hn (ah (FK (FK ⟨_,rfl,FK h⟩))) htake)
  |exact ah (ah (m:=Ij _) (Hn (FK (FK ⟨_,rfl,FK h⟩)) htake))
  |exact ah (ah (m:=Ij _) (Hn (FK ⟨_,rfl,FK h⟩) htake))
end
end HT
namespace L2
open PySem PySem.Spec PyProof.Rows
abbrev TO:=St→Hp→(Option Int→Hp→Prop)→Prop
def PO (X:Cx)(e:Option Expr)(t:TO):Prop:=
 ∀(pins:List (Addr×Obj))(s:FI)(σ:St)(H:Hp)(Q:Option Int→Hp→Prop),Inv X pins σ H s→t σ H Q→
  wpAny (model X.prog X.w) X.A (evalPart e X.env) (fun u s'=>∃o H',Inv X pins σ H' s'∧Le u o∧Q o H') X.xe s
def eD:TO:=fun _ H Q=>Q none H
def gl (t:TE):TO:=fun σ H Q=>t σ H fun x H1=>∃i,x=.int i∧Q (some i) H1
section
variable {X:Cx}{e:Expr}{te:TE}{lo hi:Option Expr}{tl th:TO}{pos p2:Pos}
theorem wH:PO X none eD:=by
 intro pins s σ H Q I h
 rw[evalPart_none]
 exact FK ⟨none,H,I,.none,h⟩
theorem xy (h:PE X e te):PO X (some e) (gl te):=by
 intro pins s σ H Q I hw
 rw[evalPart_some]
 refine thn (h pins s σ H _ I hw) fun u s1 ⟨x,H1,I1,r1,q1⟩=>?_
 obtain⟨i,rfl,q⟩:=q1
 obtain⟨t,rfl⟩:=r1
 exact⟨some i,H1,I1,.int i t,q⟩
def SlR (X:Cx)(r:V→Option Int→Option Int→Hp→VK→Prop):Prop:=
 ∀(pins:List (Addr×Obj))(s:FI)(σ:St)(H:Hp)(x:V)(v vl vu:tx)(lo hi:Option Int)(sl:Addr)(Q:VK),Inv X pins σ H s→aO x v→s.heap.IsSliceOf sl vl vu .none→Le vl lo→Le vu hi→r x lo hi H Q→
  ∃T id,typeLookup (.type T) "__getitem__"=pure (some (.builtin id))∧s.TypeIs v T∧wpAny (model X.prog X.w) X.A (getItem v (.ref sl)) (EP X pins σ Q) X.xe s
theorem SlR.or {r r':V→Option Int→Option Int→Hp→VK→Prop}(h:SlR X r)(h':SlR X r'):SlR X (fun x lo hi H Q=>r x lo hi H Q∨r' x lo hi H Q):=by
 intro pins s σ H x v vl vu lo hi sl Q I rx hs pl pu q
 rcases q with q|q
 ·exact h pins s σ H x v vl vu lo hi sl Q I rx hs pl pu q
 ·exact h' pins s σ H x v vl vu lo hi sl Q I rx hs pl pu q
def tSl (r:V→Option Int→Option Int→Hp→VK→Prop)(te:TE)(tl th:TO):TE:=fun σ H Q=>te σ H fun x H1=>tl σ H1 fun l H2=>th σ H2 fun u H3=>r x l u H3 Q
theorem tR {r:V→Option Int→Option Int→Hp→VK→Prop}(hr:SlR X r)(he:PE X e te)(hl:PO X lo tl)(hu:PO X hi th):PE X (.Subscript e (.Slice lo hi none p2) pos) (tSl r te tl th):=by
 intro pins s σ H Q I h
 refine Subscript_ (thn (he pins s σ H _ I h) fun v s1 ⟨x,H1,I1,r1,q1⟩=>?_)
 refine wpAny_Slice (thn (hl pins s1 σ H1 _ I1 q1) fun vl s2 ⟨l,H2,I2,pl,q2⟩=>thn (hu pins s2 σ H2 _ I2 q2) fun vu s3 ⟨u,H3,I3,pu,q3⟩=>?_)
 rw[evalPart_none]
 refine FK ?_
 have I4:Inv X pins σ H3 {s3 with heap:=s3.heap.push {cls:=.type "slice",data:=.fields #[vl,vu,.none]}}:=I3.kept (t':=s3.toks) fun b ob q=>cW _ q
 obtain⟨T,id,hT,ht,hg⟩:=hr pins {s3 with heap:=s3.heap.push {cls:=.type "slice",data:=.fields #[vl,vu,.none]}} σ H3 x v vl vu l u s3.heap.objs.size Q I4 r1 (ND ..) pl pu q3
 show wpAny (model X.prog X.w) X.A (subscriptTail e (.Slice lo hi none p2) v (.ref s3.heap.objs.size)) (EP X pins σ Q) X.xe {s3 with heap:=s3.heap.push {cls:=.type "slice",data:=.fields #[vl,vu,.none]}}
 exact tail_any (ops:=[.ref s3.heap.objs.size,v]) ht hT hg (by with_unfolding_all rfl)
def eA (xs:List V)(lo hi:Option Int):List V:=(xs.drop (HT.sIx xs.length 0 lo)).take (HT.sIx xs.length xs.length hi- HT.sIx xs.length 0 lo)
theorem jw (xs:List V)(lo hi:Option Int):(eA xs lo hi).length≤xs.length:=by
 unfold eA
 rw[FJ,FS]
 omega
def Ed (K:pz):V→Option Int→Option Int→Hp→VK→Prop:=fun x lo hi H Q=>∃a xs,x=.ref a∧SqT K H a xs∧
 ¬(HT.sIx xs.length 0 lo=0∧HT.sIx xs.length xs.length hi=xs.length)∧∀p,H p=none→Q (.ref p) (upd H p (.tup (eA xs lo hi)))
theorem Ay:SlR X (Ed X.K):=by
 intro pins s σ H x v vl vu lo hi sl Q I rx hs pl pu h
 obtain⟨a,xs,rfl,hx,hw,q⟩:=h
 cases rx
 obtain⟨its,r,ht,hz⟩:=I.tuple hx
 have hlen:its.toArray.size=xs.length:=by rw[FL];exact r.length.symm
 refine⟨"tuple",_,GQ.lookup,ht.typeIs,?_⟩
 refine HT.jr ht hs pl pu (by rw[hlen];exact hw) ?_ (by rw[hlen];exact hz)
 rw[hlen]
 refine⟨.ref s.heap.objs.size,_,I.laid (t':=s.toks) (o:=.tup (eA xs lo hi)) (fun b ob q=>cW _ q) (gV _) ?_,rfl,q _ (I.hok.fresh (gV _))⟩
 exact⟨Gk (jw xs lo hi) hz,_,(r.drop (HT.sIx xs.length 0 lo)).take (HT.sIx xs.length xs.length hi- HT.sIx xs.length 0 lo),MT _ _⟩
def DA (K:pz):R2:=fun x y H Q=>∃a b xs ys,x=.ref a∧y=.ref b∧SqT K H a xs∧SqT K H b ys∧xs≠[]∧xs.length+ys.length≤sizeLine∧
 (ys=[]→Q (.ref a) H)∧(ys≠[]→∀p,H p=none→Q (.ref p) (upd H p (.tup (xs++ys))))
theorem aJ.nil_iff {xs:List V}{us:List tx}(r:aJ xs us):us=[]↔xs=[]:=by
 cases r with
 |nil=>simp
 |cons _ _=>simp
theorem xa:OpR X (binaryOp .Add) (DA X.K):=by
 intro pins s σ H x y v u Q I rx ry h
 obtain⟨a,b,xs,ys,rfl,rfl,ha,hb,hx,hz,q1,q2⟩:=h
 cases rx
 cases ry
 obtain⟨its,r1,p1,_⟩:=I.tuple ha
 obtain⟨its2,r2,p2,_⟩:=I.tuple hb
 refine HT.xE p1 p2 (fun z=>hx (r1.nil_iff.mp z)) (fun z=>⟨.ref a,H,I,rfl,q1 (r2.nil_iff.mp z)⟩) (fun z=>?_) (by rw[←r1.length,←r2.length];exact hz)
 refine⟨.ref s.heap.objs.size,_,I.laid (t':=s.toks) (o:=.tup (xs++ys)) (fun b ob q=>cW _ q) (gV _) ?_,rfl,q2 (fun w=>z (r2.nil_iff.mpr w)) _ (I.hok.fresh (gV _))⟩
 exact⟨by rw[pv];exact hz,_,r1.append r2,MT _ _⟩
end
def ixN (n:Nat)(i:Int):Option Nat:=if 0≤i then(if i<n then some i.toNat else none)else if-(n:Int)≤i then some (i+n).toNat else none
def atI {α:Type}(xs:List α)(i:Int):Option α:=(ixN xs.length i).bind fun j=>xs[j]?
theorem oM {n:Nat}{i:Int}{j:Nat}(h:ixN n i=some j):seqIndex? i n=some j∧j<n∧ -(n:Int)≤i∧i<n:=by
 unfold ixN at h
 by_cases h0:0≤i
 ·rw[if_pos h0]at h
  by_cases h1:i<n
  ·rw[if_pos h1]at h
   have e:i.toNat=j:=FY h
   exact⟨by rw[Np h0 h1,e],by omega,by omega,h1⟩
  ·rw[if_neg h1]at h;cases h
 ·rw[if_neg h0]at h
  by_cases h1: -(n:Int)≤i
  ·rw[if_pos h1]at h
   have e:(i+n).toNat=j:=FY h
   exact⟨by rw[MM (by omega) h1,e],by omega,h1,by omega⟩
  ·rw[if_neg h1]at h;cases h
theorem jb {α:Type}{xs:List α}{i:Int}{v:α}(h:atI xs i=some v):∃j,seqIndex? i xs.length=some j∧xs[j]? =some v∧j<xs.length∧ -(xs.length:Int)≤i∧i<xs.length:=by
 unfold atI at h
 cases e:ixN xs.length i with
 |none=>rw[e]at h;cases h
 |some j=>
  rw[e]at h
  obtain⟨h1,h2,h3,h4⟩:=oM e
  exact⟨j,h1,h,h2,h3,h4⟩
theorem tK {α:Type}(xs:List α)(v:α):atI (xs++[v]) (-1)=some v:=by
 have hl:(xs++[v]).length=xs.length+1:=by simp
 have e:ixN (xs++[v]).length (-1)=some xs.length:=by
  unfold ixN
  rw[hl,if_neg (by decide),if_pos (by omega)]
  congr 1
  omega
 unfold atI
 rw[e]
 show(xs++[v])[xs.length]?=some v
 simp
def oK (b:Expr):Prop:=∀o i,subscripted b false o i=operate [o,i] (getItem o i)
def IxR (X:Cx)(r:R2):Prop:=
 ∀(value slice:Expr)(pins:List (Addr×Obj))(s:FI)(σ:St)(H:Hp)(x y:V)(v u:tx)(Q:VK),Inv X pins σ H s→aO x v→aO y u→r x y H Q→
  subscripted slice false v u=operate [v,u] (getItem v u)→wpAny (model X.prog X.w) X.A (subscriptTail value slice v u) (EP X pins σ Q) X.xe s
def MtR (X:Cx)(id:String)(r:V→List V→Hp→VK→Prop):Prop:=
 ∀(pins:List (Addr×Obj))(s:FI)(σ:St)(H:Hp)(x:V)(xs:List V)(v:tx)(us:List tx)(Q:VK),Inv X pins σ H s→aO x v→aJ xs us→r x xs H Q→
  wpAny (model X.prog X.w) X.A (call (.builtin id) (v::us)) (EP X pins σ Q) X.xe s
section
variable {X:Cx}{a b:Expr}{ta tb:TE}{pos:Pos}
theorem IxR.or {r r':R2}(h:IxR X r)(h':IxR X r'):IxR X (fun x y H Q=>r x y H Q∨r' x y H Q):=by
 intro value slice pins s σ H x y v u Q I rx ry q hs
 rcases q with q|q
 ·exact h value slice pins s σ H x y v u Q I rx ry q hs
 ·exact h' value slice pins s σ H x y v u Q I rx ry q hs
theorem Di {r:R2}(hr:IxR X r)(ha:PE X a ta)(hb:PE X b tb)(hs:oK b):PE X (.Subscript a b pos) (tOp r ta tb):=by
 intro pins s σ H Q I h
 exact Subscript_ (vw ha hb I h fun v u s2 x y H2 I2 rx ry q=>hr a b pins s2 σ H2 x y v u Q I2 rx ry q (hs _ _))
def yZ (K:pz):R2:=fun x y H Q=>∃p xs i v,x=.ref p∧y=.int i∧SqL K H p xs∧atI xs i=some v∧Q v H
def Au (K:pz):R2:=fun x y H Q=>∃p xs i v,x=.ref p∧y=.int i∧SqT K H p xs∧atI xs i=some v∧Q v H
def zJ:R2:=fun x y H Q=>∃z i c,x=.str z∧y=.int i∧z.length≤sizeLine∧atI z.cps.toList i=some c∧Q (.str ⟨#[c]⟩) H
theorem wO:IxR X (yZ X.K):=by
 intro value slice pins s σ H x y v u Q I rx ry h hs
 obtain⟨p,xs,i,z,rfl,rfl,hq,he,q⟩:=h
 cases rx
 obtain⟨t,rfl⟩:=ry
 obtain⟨its,r,pl,hz⟩:=I.list hq
 obtain⟨j,h1,h2,h3,h4,h5⟩:=jb he
 obtain⟨w,ew,rw'⟩:=r.get h2
 have hl:=r.length
 have hn:=gF
 have fin:EP X pins σ Q w s:=⟨z,H,I,rw',q⟩
 by_cases h0:0≤i
 ·have hj:i.toNat=j:=by
   rw[Np h0 h5]at h1
   exact FY h1
  exact item_listR pl.isList h0 (by omega) (by rw[hj];simpa using ew) fin hs
 ·have hj:(i+(its.toArray.size:Int)).toNat=j:=by
   rw[MM (by omega) h4]at h1
   rw[FL,←hl]
   exact FY h1
  exact MH (x:=w) pl.isList.typeIs slot_list_getitem.lookup
   (wpAny_getItem_list_neg (Q:=fun r s'=>r=w∧EP X pins σ Q r s') pl.isList (by omega) (by rw[FL]<;>omega) (by omega) (by rw[hj];simpa using ew) ⟨rfl,fin⟩) hs
theorem za:IxR X (Au X.K):=by
 intro value slice pins s σ H x y v u Q I rx ry h hs
 obtain⟨p,xs,i,z,rfl,rfl,hq,he,q⟩:=h
 cases rx
 obtain⟨t,rfl⟩:=ry
 obtain⟨its,r,pl,hz⟩:=I.tuple hq
 obtain⟨j,h1,h2,h3,h4,h5⟩:=jb he
 obtain⟨w,ew,rw'⟩:=r.get h2
 have hl:=r.length
 have hn:=gF
 have fin:EP X pins σ Q w s:=⟨z,H,I,rw',q⟩
 exact MH (x:=w) pl.typeIs slot_tuple_getitem.lookup
  (getItem_tuple (j:=j) (Q:=fun r s'=>r=w∧EP X pins σ Q r s') pl (by omega) (by omega) (by rw[FL,←hl];exact h1) (by simpa using ew) ⟨rfl,fin⟩) hs
theorem yq:IxR X zJ:=by
 intro value slice pins s σ H x y v u Q I rx ry h hs
 obtain⟨z,i,c,rfl,rfl,hz,he,q⟩:=h
 obtain⟨t,rfl⟩:=rx
 obtain⟨t',rfl⟩:=ry
 obtain⟨j,h1,h2,h3,h4,h5⟩:=jb he
 have hl:z.cps.toList.length=z.length:=by simp[Str.length]
 rw[hl]at h1 h4 h5
 have hn:=gF
 exact tail_any (NP s z t) slot_str_getitem.lookup (getItem_str (c:=c) (by
  have e1:decide (i< -(2^63:Int))=false:=decide_eq_false (by omega)
  have e2:decide (i≥2^63)=false:=decide_eq_false (by omega)
  rw[e1,e2,NG]) (by rw[h1];simpa using h2) ⟨.str ⟨#[c]⟩,H,I.tok _,⟨_,rfl⟩,q⟩) hs
def rIx (K:pz):R2:=fun x y H Q=>yZ K x y H Q∨Au K x y H Q∨zJ x y H Q
theorem yV:IxR X (rIx X.K):=wO.or (za.or yq)
theorem qx (its:List tx)(n j:Nat)(u:tx):GR (·.setIfInBounds j u) {cls:=.type "list",data:=.seq its.toArray n}={cls:=.type "list",data:=.seq (its.set j u).toArray n}:=by
 simp[GR]
theorem Inv.lst {pins:List (Addr×Obj)}{σ:St}{H:Hp}{s:FI}{p:Addr}{xs:List V}(I:Inv X pins σ H s)(h:H p=some (.lst xs)):
  ∃(its:List tx)(n:Nat),aJ xs its∧s.heap.get? p=some {cls:=.type "list",data:=.seq its.toArray n}∧xs.length≤sizeLine:=by
 obtain⟨z,its,n,r,e⟩:=I.hok p _ h
 exact⟨its,n,r,e,z⟩
theorem Inv.lstUpd {pins:List (Addr×Obj)}{σ:St}{H:Hp}{s:FI}{p:Addr}{xs ys:List V}{its its':List tx}{n n':Nat}{f:Obj→Obj}(I:Inv X pins σ H s)(h:H p=some (.lst xs))
  (ho:s.heap.get? p=some {cls:=.type "list",data:=.seq its.toArray n})(hf:f {cls:=.type "list",data:=.seq its.toArray n}={cls:=.type "list",data:=.seq its'.toArray n'})(r:aJ ys its')(hz:ys.length≤sizeLine)(t:Nat):
  Inv X pins σ (upd H p (.lst ys)) {s with heap:=s.heap.update p f,toks:=t}:=by
 have e:(s.heap.update p f).get? p=some {cls:=.type "list",data:=.seq its'.toArray n'}:=by
  rw[Gy f ho (by rw[hf]<;>rfl),hf]
 refine I.write (x:=p) (e:=p) (by rw[h];trivial) (.inl rfl) (fun b u hb q=>(Gq _ _ (Gt hb)).trans q) ⟨_,e⟩ ?_
 exact⟨hz,its',n',r,e⟩
def vL:V→V→V→Hp→(Hp→Prop)→Prop:=fun o i v H Q=>∃p xs k j,o=.ref p∧i=.int k∧H p=some (.lst xs)∧ixN xs.length k=some j∧Q (upd H p (.lst (xs.set j v)))
theorem tB:qH X vL:=by
 intro pins s σ H o i v ov iv u Q I ro ri rv h
 obtain⟨p,xs,k,j,rfl,rfl,hp,hj,q⟩:=h
 cases ro
 obtain⟨t,rfl⟩:=ri
 obtain⟨its,n,r,ho,hz⟩:=I.lst hp
 obtain⟨h1,h2,h3,h4⟩:=oM hj
 have hl:=r.length
 have hn:=gF
 have I':Inv X pins σ (upd H p (.lst (xs.set j v))) {s with heap:=s.heap.update p (GR (·.setIfInBounds j u))}:=
  I.lstUpd hp ho (qx its n j u) (r.set rv j) (by rw[List.length_set];exact hz) s.toks
 by_cases h0:0≤k
 ·have hk:k.toNat=j:=by
   rw[Np h0 h4]at h1
   exact FY h1
  exact W.ki_setAt ho h0 (by omega) (by rw[FL,←hl];exact h4) (by rw[hk];exact⟨_,I',q⟩)
 ·have hk:(k+(its.toArray.size:Int)).toNat=j:=by
   rw[MM (by omega) h3]at h1
   rw[FL,←hl]
   exact FY h1
  exact W.ki_setBack ho (by omega) (by rw[FL,←hl];exact h3) (by omega) (by rw[hk];exact⟨_,I',q⟩)
theorem nH (lo hi:Option Int)(n:Nat):(sliceBounds lo hi none n).1=((HT.sIx n 0 lo:Nat):Int)∧(sliceBounds lo hi none n).2.1=((HT.sIx n n hi:Nat):Int)∧(sliceBounds lo hi none n).2.2=1:=by
 refine⟨?_,?_,rfl⟩
 ·cases lo with
  |none=>simp[sliceBounds,HT.sIx]
  |some i=>
   simp only[sliceBounds,HT.sIx,MC,show(1:Int)>0 by decide,if_true]
   by_cases h:i<0
   ·simp only[h,if_true]<;>omega
   ·simp only[h,if_false]<;>omega
 ·cases hi with
  |none=>simp[sliceBounds,HT.sIx]
  |some i=>
   simp only[sliceBounds,HT.sIx,MC,show(1:Int)>0 by decide,if_true]
   by_cases h:i<0
   ·simp only[h,if_true]<;>omega
   ·simp only[h,if_false]<;>omega
theorem mn (its:List tx)(lo hi:Option Int):slicePick its.toArray lo hi none=((its.drop (HT.sIx its.length 0 lo)).take (HT.sIx its.length its.length hi- HT.sIx its.length 0 lo)).toArray:=by
 obtain⟨h1,h2,h3⟩:=nH lo hi its.toArray.size
 unfold slicePick
 rw[h1,h2,h3]
 simp only[sliceRange_one,pick_run,FL]<;>rfl
def yQ (K:pz):V→Option Int→Option Int→Hp→VK→Prop:=fun x lo hi H Q=>∃a xs,x=.ref a∧SqL K H a xs∧∀p,H p=none→Q (.ref p) (upd H p (.lst (eA xs lo hi)))
theorem wB:SlR X (yQ X.K):=by
 intro pins s σ H x v vl vu lo hi sl Q I rx hs pl pu h
 obtain⟨a,xs,rfl,hx,q⟩:=h
 cases rx
 obtain⟨its,r,ht,hz⟩:=I.list hx
 have hlen:=r.length
 refine⟨"list",_,slot_list_getitem.lookup,ht.isList.typeIs,?_⟩
 refine wpAny_getItem_list_slice ht.isList hs pl pu .none (by simp) ?_ (by rw[FL]<;>omega)
 rw[mn,←hlen]
 refine⟨.ref s.heap.objs.size,_,I.laid (t':=s.toks) (o:=.lst (eA xs lo hi)) (fun b ob q=>cW _ q) (gV _) ?_,rfl,q _ (I.hok.fresh (gV _))⟩
 exact⟨Gk (jw xs lo hi) hz,_,0,(r.drop (HT.sIx xs.length 0 lo)).take (HT.sIx xs.length xs.length hi- HT.sIx xs.length 0 lo),FO _ rfl⟩
theorem bH.or {f:tx}{r r':List V→Hp→VK→Prop}(h:bH X f r)(h':bH X f r'):bH X f (fun xs H Q=>r xs H Q∨r' xs H Q):=by
 intro pins s σ H xs us Q I rs q
 rcases q with q|q
 ·exact h pins s σ H xs us Q I rs q
 ·exact h' pins s σ H xs us Q I rs q
theorem oq:bH X (.type "list") (fun xs H Q=>∃p ys,xs=[.ref p]∧(SqL X.K H p ys∨SqT X.K H p ys)∧∀l,H l=none→Q (.ref l) (upd H l (.lst ys))):=by
 intro pins s σ H xs us Q I r h
 obtain⟨p,ys,rfl,hq,q⟩:=h
 obtain⟨u,rfl,rx⟩:=fK r
 cases rx
 have fin:∀(its:List tx),aJ ys its→ys.length≤sizeLine→∀(h':Heap)(c':Nat),(∀b o',s.heap.get? b=some o'→h'.get? b=some o')→
   h'.get? s.heap.objs.size=some {cls:=.type "list",dict:=none,data:=.seq its.toArray c',slots:=#[]}→EP X pins σ Q (.ref s.heap.objs.size) {s with heap:=h'}:=fun its r' hz h' c' kp e=>
  ⟨.ref s.heap.objs.size,_,I.laid (t':=s.toks) kp (gV _) (show aY X.prog X.w _ h' _ (.lst ys)from⟨hz,its,c',r',e⟩),rfl,q _ (I.hok.fresh (gV _))⟩
 rcases hq with hq|hq
 ·obtain⟨its,r',pl,hz⟩:=I.list hq
  have hlen:=r'.length
  obtain⟨o,ho,hc,n,hd⟩:=pl.isList
  exact call_list_seq p (.inl rfl) ho hc hd (fun h' c' kp e=>fin its r' hz h' c' kp e) (by simp only[FL]<;>omega)
 ·obtain⟨its,r',pl,hz⟩:=I.tuple hq
  have hlen:=r'.length
  obtain⟨o,ho,hc,n,hd⟩:=pl
  exact call_list_seq p (.inr rfl) ho hc hd (fun h' c' kp e=>fin its r' hz h' c' kp e) (by simp only[FL]<;>omega)
theorem mh:bH X (.type "tuple") (fun xs H Q=>∃p ys,xs=[.ref p]∧((SqL X.K H p ys∧∀l,H l=none→Q (.ref l) (upd H l (.tup ys)))∨(SqT X.K H p ys∧Q (.ref p) H))):=by
 intro pins s σ H xs us Q I r h
 obtain⟨p,ys,rfl,h⟩:=h
 obtain⟨u,rfl,rx⟩:=fK r
 cases rx
 rcases h with⟨hq,q⟩|⟨hq,q⟩
 ·obtain⟨its,r',pl,hz⟩:=I.list hq
  have hlen:=r'.length
  refine call_tuple_list pl.isList (fun h' kp=>?_) (by simp only[FL]<;>omega)
  have I1:Inv X pins σ H {s with heap:=h'}:=I.kept (t':=s.toks) kp
  have I2:Inv X pins σ (upd H h'.objs.size (.tup ys)) {s with heap:=h'.push {cls:=.type "tuple",data:=.seq its.toArray}}:=
   I1.laid (t':=s.toks) (fun b o e=>cW _ e) (gV _) (show aY X.prog X.w _ _ _ (.tup ys)from⟨hz,its,r',MT _ _⟩)
  exact⟨.ref h'.objs.size,_,I2,rfl,q _ (I1.hok.fresh (gV _))⟩
 ·obtain⟨its,r',pl,hz⟩:=I.tuple hq
  exact call_tuple_same pl ⟨.ref p,H,I,rfl,q⟩
def tyV (K:pz)(T:String)(x:V)(H:Hp):Prop:=match x with
 |.str _=>T="str"
 |.int _=>T="int"
 |.ref p=>(T="list"∧∃xs,SqL K H p xs)∨(T="tuple"∧∃o,K.lookup p=some o∧o.cls=.type "tuple"∧o.dict=none)∨
  (T="dict"∧((∃kvs,H p=some (.dK kvs))∨∃kvs,H p=some (.dT kvs)))∨(T="set"∧∃S n,H p=some (.set S n))
 |_=>False
theorem sC {pins:List (Addr×Obj)}{σ:St}{H:Hp}{s:FI}{T:String}{x:V}{v:tx}(I:Inv X pins σ H s)(r:aO x v)(ty:tyV X.K T x H):
  s.TypeIs v T∧∀a,v=.ref a→∃ob,s.heap.get? a=some ob∧ob.dict=none:=by
 cases x with
 |str z=>
  obtain⟨t,rfl⟩:=r
  cases (show T="str" from ty)
  exact⟨NP s z t,fun _ e=>nomatch e⟩
 |int i=>
  obtain⟨t,rfl⟩:=r
  cases (show T="int" from ty)
  exact⟨typeIs_int s i t,fun _ e=>nomatch e⟩
 |ref p=>
  cases r
  rcases ty with⟨rfl,xs,hq⟩|⟨rfl,o,hk,hc,hd⟩|⟨rfl,hk⟩|⟨rfl,S,n,hk⟩
  ·obtain⟨its,_,pl,_⟩:=I.list hq
   refine⟨pl.isList.typeIs,fun a e=>?_⟩
   cases e
   obtain⟨o,n,e,c,hd,_⟩:=pl
   exact⟨o,e,hd⟩
  ·refine⟨⟨o,I.kIn p o hk,hc⟩,fun a e=>?_⟩
   cases e
   exact⟨o,I.kIn _ o hk,hd⟩
  ·have z:∃o,s.heap.get? p=some o∧o.ExactDict:=by
    rcases hk with⟨kvs,hk⟩|⟨kvs,hk⟩
    ·obtain⟨_,_,_,_,o,_,_,e,ex,_⟩:=I.hok p _ hk
     exact⟨o,e,ex⟩
    ·obtain⟨_,_,_,_,o,_,_,e,ex,_⟩:=I.hok p _ hk
     exact⟨o,e,ex⟩
   obtain⟨o,e,ex⟩:=z
   refine⟨⟨o,e,ex.1⟩,fun a e2=>?_⟩
   cases e2
   exact⟨o,e,ex.2.1⟩
  ·obtain⟨o,_,_,_,e,ex,_⟩:=I.hok p _ hk
   refine⟨⟨o,e,ex.1⟩,fun a e2=>?_⟩
   cases e2
   exact⟨o,e,ex.2.1⟩
 |_=>exact Gm ty
def iM (K:pz)(T:String)(r:V→List V→Hp→VK→Prop)(to:TE):TE:=fun σ H Q=>to σ H fun x H1=>tyV K T x H1∧r x [] H1 Q
def tBM (K:pz)(T:String)(r:V→List V→Hp→VK→Prop)(to:TE)(t:TA):TE:=fun σ H Q=>to σ H fun x H1=>tyV K T x H1∧t σ H1 fun xs H2=>r x xs H2 Q
variable {o e:Expr}{es:List Expr}{to:TE}{t:TA}{name:Str}{apos cpos:Pos}{T id:String}{r:V→List V→Hp→VK→Prop}
theorem zy (pa:KQ T)(slot:Slot T name id)(hty:typeOf (.builtin id)=pure (.type "method_descriptor"))(hm:MtR X id r)(ho:PE X o to)
  (hbase:attributeBase o name X.env (eval o X.env)=eval o X.env:=by rfl)(hline:(apos.endLine==cpos.line)=true:=by rfl):PE X (.Call (.Attribute o name apos) [] [] cpos) (iM X.K T r to):=by
 intro pins s σ H Q I h
 refine wpAny_Call_method0_late hbase hline (thn (ho pins s σ H _ I h) fun v s1 ⟨x,H1,I1,r1,ty,q1⟩=>?_)
 obtain⟨h1,h2⟩:=sC I1 r1 ty
 exact⟨T,id,pa,slot,hty,h1,h2,Lt rfl (PySem.evalArgs_none (hm pins s1 σ H1 x [] v [] Q I1 r1 .nil q1))⟩
theorem DI (pa:KQ T)(slot:Slot T name id)(hty:typeOf (.builtin id)=pure (.type "method_descriptor"))(hm:MtR X id r)(ho:PE X o to)(ha:PA X (e::es) t)
  (hbase:attributeBase o name X.env (eval o X.env)=eval o X.env:=by rfl)
  (hfew:((backTo cpos (starEach (e::es) X.env)).all (fun x=> !x.1)&&(backToKw cpos (keywordEach [] X.env)).all (fun x=>x.1.isSome)
   &&decide ((e::es).length+([]:List Keyword).length+(if ([]:List Keyword).isEmpty then 0 else 1)<30))=true:=by rfl)
  (hline:(apos.endLine==cpos.line)=true:=by rfl)(hs:starEach (e::es) X.env=(false,eval e X.env)::starEach es X.env:=by rfl)(hplain:(backTo cpos (starEach es X.env)).any (·.1)=false:=by rfl):
  PE X (.Call (.Attribute o name apos) (e::es) [] cpos) (tBM X.K T r to t):=by
 intro pins s σ H Q I h
 refine wpAny_Call_method_late hbase hfew hline rfl (thn (ho pins s σ H _ I h) fun v s1 ⟨x,H1,I1,r1,ty,q1⟩=>?_)
 obtain⟨h1,h2⟩:=sC I1 r1 ty
 refine⟨T,id,pa,slot,hty,h1,h2,?_⟩
 have hA:=ha cpos pins s1 σ H1 _ I1 q1
 rw[hs]at hA⊢
 refine Lt (by show(false||(backTo cpos (starEach es X.env)).any (·.1))=false;rw[hplain]<;>rfl) (Calls.evalArgs_plain ?_)
 exact thn hA fun us s2 ⟨vs,H2,I2,r2,q2⟩=>hm pins s2 σ H2 x vs v us Q I2 r1 r2 q2
end
def MtM (X:Cx)(id:String)(r:V→List V→Hp→VK→Prop):Prop:=
 ∀(pins:List (Addr×Obj))(s:FI)(σ:St)(H:Hp)(x:V)(xs:List V)(v:tx)(us:List tx)(Q:VK),Inv X pins σ H s→aO x v→aJ xs us→r x xs H Q→
  wpAny (model X.prog X.w) X.A (call (.builtin id) (v::us)) (EP X pins σ Q) X.xe s
theorem aJ.one:∀{x:V}{us:List tx},aJ [x] us→∃u,us=[u]∧aO x u
 |_,_,.cons r .nil=>⟨_,rfl,r⟩
theorem aJ.zero:∀{us:List tx},aJ [] us→us=[]
 |_,.nil=>rfl
theorem aJ.dropLast {xs:List V}{us:List tx}(h:aJ xs us):aJ xs.dropLast us.dropLast:=by
 induction h with
 |nil=>exact .nil
 |cons r t ih=>
  cases t with
  |nil=>exact .nil
  |cons q t'=>exact .cons r ih
theorem aJ.reverse {xs:List V}{us:List tx}(h:aJ xs us):aJ xs.reverse us.reverse:=by
 induction h with
 |nil=>exact .nil
 |cons r t ih=>rw[IK,IK];exact aJ.append ih (.cons r .nil)
theorem qF {α:Type}(l:List α):l.eraseIdx (l.length- 1)=l.dropLast:=by
 induction l with
 |nil=>rfl
 |cons a r ih=>
  cases r with
  |nil=>rfl
  |cons b r=>
   have e:(a::b::r).length- 1=((b::r).length- 1)+1:=by
    have h1:(a::b::r).length=r.length+2:=rfl
    have h2:(b::r).length=r.length+1:=rfl
    omega
   rw[e,List.eraseIdx_cons_succ,ih]
   all_goals rfl
section
variable {X:Cx}{pins:List (Addr×Obj)}{σ:St}{H:Hp}{s:FI}{l b:Addr}{xs ys zs:List V}
theorem Inv.lset {its its':List tx}{n:Nat}{f:Array tx→Array tx}{t':Nat}(I:Inv X pins σ H s)(hH:H l=some (.lst xs))
  (e:s.heap.get? l=some {cls:=.type "list",data:=.seq its.toArray n})(hf:f its.toArray=its'.toArray)(hv:aJ ys its')(hz:ys.length≤sizeLine):
  Inv X pins σ (upd H l (.lst ys)) {s with heap:=s.heap.update l (GR f),toks:=t'}:=by
 have q:=PySem.IsL.update e f
 rw[hf]at q
 refine I.write (x:=l) (e:=l) (by rw[hH];exact trivial) (.inl rfl) (fun b' u hb hu=>(Gq s.heap (GR f) (Gt hb)).trans hu) ⟨_,q⟩ ?_
 exact⟨hz,its',_,hv,q⟩
theorem Inv.lnew {its:List tx}{t':Nat}(I:Inv X pins σ H s)(hv:aJ ys its)(hz:ys.length≤sizeLine):
  Inv X pins σ (upd H s.heap.objs.size (.lst ys)) {s with heap:=s.heap.push {cls:=.type "list",data:=.seq its.toArray},toks:=t'}:=
 I.laid (fun _ _ q=>cW _ q) (gV _) ⟨hz,its,0,hv,FO _ rfl⟩
theorem Inv.fresh (I:Inv X pins σ H s):H s.heap.objs.size=none:=I.hok.fresh (gV _)
theorem Inv.lstM (I:Inv X pins σ H s)(hH:H l=some (.lst xs)):xs.length≤sizeLine∧∃(its:List tx)(n:Nat),aJ xs its∧xs.length=its.length∧s.heap.get? l=some {cls:=.type "list",data:=.seq its.toArray n}:=by
 obtain⟨z,its,n,r,e⟩:=I.hok l _ hH
 exact⟨z,its,n,r,r.length,e⟩
end
section
variable {X:Cx}
def bE:V→List V→Hp→VK→Prop:=fun x vs H Q=>∃l xs y,x=.ref l∧vs=[y]∧H l=some (.lst xs)∧xs.length<sizeLine∧Q .non (upd H l (.lst (xs++[y])))
theorem bi:MtM X "list.append" bE:=by
 intro pins s σ H x vs v us Q I rx rv h
 obtain⟨l,xs,y,rfl,rfl,hH,hz,q⟩:=h
 cases rx
 obtain⟨u,rfl,ru⟩:=rv.one
 obtain⟨z,its,n,r,hl,e⟩:=I.lstM hH
 refine Mi FV ⟨_,e,rfl⟩ F.entry_list_append (F.args_list_append_2 _ _) (PySem.list_append l its.toArray n u (by rw[FL];omega)) ⟨e,?_⟩
 refine⟨.non,_,I.lset (its':=its++[u]) hH e (by simp) (r.append (.cons ru .nil)) ?_,rfl,q⟩
 rw[pv,LQ]
 omega
def kR:V→List V→Hp→VK→Prop:=fun x vs H Q=>∃l xs y,x=.ref l∧vs=[]∧H l=some (.lst xs)∧xs[xs.length- 1]?=some y∧Q y (upd H l (.lst xs.dropLast))
theorem nJ:MtM X "list.pop" kR:=by
 intro pins s σ H x vs v us Q I rx rv h
 obtain⟨l,xs,y,rfl,rfl,hH,hy,q⟩:=h
 cases rx
 have hus:=rv.zero
 subst hus
 obtain⟨z,its,n,r,hl,e⟩:=I.lstM hH
 obtain⟨u,hu,ru⟩:=r.get hy
 have hy':its.toArray[its.toArray.size- 1]?=some u:=by
  show its.toArray[its.length- 1]?=some u
  rw[←JK,←hl]
  exact hu
 refine Mi IU ⟨_,e,rfl⟩ F.entry_list_pop (F.args_list_pop_1 _) (MeetsSeq.list_pop_last l its.toArray n u hy' (by rw[FL];omega)) ⟨e,?_⟩
 refine⟨y,_,I.lset (its':=its.dropLast) hH e ?_ r.dropLast ?_,ru,q⟩
 ·show its.toArray.eraseIdxIfInBounds (its.toArray.size- 1)=its.dropLast.toArray
  rw[FL,List.eraseIdxIfInBounds_toArray,qF]
 ·rw[List.length_dropLast]
  omega
def zu:R2:=fun x y H Q=>∃l b xs zs,x=.ref l∧y=.ref b∧H l=some (.lst xs)∧H b=some (.lst zs)∧xs.length+zs.length≤sizeLine∧∀p,H p=none→Q (.ref p) (upd H p (.lst (xs++zs)))
theorem zh:OpR X (binaryOp .Add) zu:=by
 intro pins s σ H x y v u Q I rx ry h
 obtain⟨l,b,xs,zs,rfl,rfl,hH,hB,hz,q⟩:=h
 cases rx
 cases ry
 obtain⟨z,its,n,r,hl,e⟩:=I.lstM hH
 obtain⟨z2,its2,n2,r2,hl2,e2⟩:=I.lstM hB
 refine PySem.P.add_list e e2 ?_ (by rw[FL,FL];omega)
 have ea:its.toArray++its2.toArray=(its++its2).toArray:=by simp
 rw[ea]
 exact⟨.ref _,_,I.lnew (t':=s.toks) (r.append r2) (by rw[pv];omega),rfl,q _ I.fresh⟩
end
section
variable {prog:Gd}{w:GH}{A:GC}{E:tx→FI→Prop}{s:FI}
set_option maxRecDepth 100000 in
end
section
variable {κ:Type}[DecidableEq κ]
def bT (kvs:List (κ×V))(k:κ):Option V:=(kvs.find? fun kv=>decide (kv.1=k)).map (·.2)
def bZ (kvs:List (κ×V))(k:κ)(v:V):List (κ×V):=
 if (kvs.any fun kv=>decide (kv.1=k))=true then kvs.map (fun kv=>if kv.1=k then(kv.1,v)else kv)else kvs++[(k,v)]
theorem cF {p:κ×V}{r:List (κ×V)}{k:κ}(e:p.1=k):bT (p::r) k=some p.2:=by simp[bT,IB,e]
theorem cD {p:κ×V}{r:List (κ×V)}{k:κ}(e:¬p.1=k):bT (p::r) k=bT r k:=by simp[bT,IB,e]
theorem ii (k:κ):∀kvs:List (κ×V),(kvs.any fun kv=>decide (kv.1=k))=(bT kvs k).isSome
 |[]=>rfl
 |p::r=>by
  rw[Lz]
  by_cases e:p.1=k
  ·simp only[cF e,decide_eq_true e,Bool.true_or,Option.isSome_some]
  ·rw[cD e,decide_eq_false e,Bool.false_or];exact ii k r
theorem nB (k j:κ)(y:V):∀kvs:List (κ×V),bT (kvs.map fun kv=>if kv.1=k then(kv.1,y)else kv) j=(bT kvs j).map fun x=>if j=k then y else x
 |[]=>rfl
 |p::r=>by
  have ih:=nB k j y r
  rw[Gw]
  by_cases h:p.1=k
  ·rw[if_pos h]
   by_cases e:p.1=j
   ·rw[cF (p:=(p.1,y)) e,cF e,IX,if_pos (e.symm.trans h)]
   ·rw[cD (p:=(p.1,y)) e,cD e,ih]
  ·rw[if_neg h]
   by_cases e:p.1=j
   ·rw[cF (p:=p) e,cF e,IX,if_neg (fun z=>h (e.trans z))]
   ·rw[cD (p:=p) e,cD e,ih]
theorem lY (k j:κ)(y:V):∀kvs:List (κ×V),bT kvs k=none→bT (kvs++[(k,y)]) j=if j=k then some y else bT kvs j
 |[],_=>by
  by_cases e:k=j
  ·rw[if_pos e.symm];exact cF (p:=(k,y)) e
  ·rw[if_neg (fun z=>e z.symm)];exact cD (p:=(k,y)) e
 |p::r,hn=>by
  rw[List.cons_append]
  have hk:¬p.1=k:=fun z=>by rw[cF z]at hn;cases hn
  rw[cD hk]at hn
  have ih:=lY k j y r hn
  by_cases e:p.1=j
  ·rw[cF e,cF e,if_neg (fun z=>hk (e.trans z))]
  ·rw[cD e,cD e,ih]
theorem fX (kvs:List (κ×V))(k j:κ)(y:V):bT (bZ kvs k y) j=if j=k then some y else bT kvs j:=by
 unfold bZ
 by_cases a:(kvs.any fun kv=>decide (kv.1=k))=true
 ·rw[if_pos a,nB]
  rw[ii]at a
  by_cases e:j=k
  ·obtain⟨x,hx⟩:=GO.mp a
   rw[if_pos e,e,hx,IX,if_pos rfl]
  ·rw[if_neg e]
   cases bT kvs j with
   |none=>rfl
   |some x=>rw[IX,if_neg e]
 ·rw[if_neg a]
  refine lY k j y kvs ?_
  rw[ii]at a
  cases q:bT kvs k with
  |none=>rfl
  |some x=>rw[q]at a;exact(a rfl).elim
theorem dQ (kvs:List (κ×V))(k:κ)(v:V):(bZ kvs k v).length≤kvs.length+1:=by
 unfold bZ
 split
 ·rw[FH];omega
 ·rw[pv,HG,List.length_nil];omega
theorem cS.isSome_eq {o:Option V}{u:Option tx}(r:cS o u):o.isSome=u.isSome:=by
 cases o with
 |none=>cases u with
  |none=>rfl
  |some _=>exact(show False from r).elim
 |some _=>cases u with
  |none=>exact(show False from r).elim
  |some _=>rfl
theorem KV.val {kvs:List (κ×V)}{vs:List (κ×tx)}(r:KV kvs vs)(k:κ):cS (bT kvs k) (valueAt vs k):=by
 unfold KV at r
 induction r with
 |nil=>exact HM
 | @cons p q ps qs h t ih=>
   obtain⟨h1,h2⟩:=h
   by_cases e:p.1=k
   ·have e':q.1=k:=h1.symm.trans e
    have b:valueAt (q::qs) k=some q.2:=by simp[valueAt,IB,e']
    rw[cF e,b];exact h2
   ·have e':¬q.1=k:=fun z=>e (h1.trans z)
    have b:valueAt (q::qs) k=valueAt qs k:=by simp[valueAt,IB,e']
    rw[cD e,b];exact ih
theorem KV.any {kvs:List (κ×V)}{vs:List (κ×tx)}(r:KV kvs vs)(k:κ):(kvs.any fun kv=>decide (kv.1=k))=vs.any fun kv=>decide (kv.1=k):=by
 unfold KV at r
 induction r with
 |nil=>rfl
 |cons h t ih=>rw[Lz,Lz,ih,h.1]
theorem KV.repl {kvs:List (κ×V)}{vs:List (κ×tx)}(r:KV kvs vs)(k:κ){y:V}{u:tx}(ry:aO y u):
  KV (kvs.map fun kv=>if kv.1=k then(kv.1,y)else kv) (vs.map fun kv=>if kv.1=k then(kv.1,u)else kv):=by
 unfold KV at r⊢
 induction r with
 |nil=>exact .nil
 | @cons p q ps qs h t ih=>
   rw[Gw,Gw]
   refine .cons ?_ ih
   obtain⟨h1,h2⟩:=h
   by_cases e:p.1=k
   ·rw[if_pos e,if_pos (h1.symm.trans e)];exact⟨h1,ry⟩
   ·rw[if_neg e,if_neg (fun z=>e (h1.trans z))];exact⟨h1,h2⟩
theorem KV.put {kvs:List (κ×V)}{vs:List (κ×tx)}(r:KV kvs vs)(k:κ){y:V}{u:tx}(ry:aO y u):KV (bZ kvs k y) (stored vs k u):=by
 unfold bZ stored
 rw[r.any k]
 by_cases e:(vs.any fun kv=>decide (kv.1=k))=true
 ·rw[if_pos e,if_pos e];exact r.repl k ry
 ·rw[if_neg e,if_neg e];exact Paired.snoc r ⟨rfl,ry⟩
theorem KV.length {kvs:List (κ×V)}{vs:List (κ×tx)}(r:KV kvs vs):kvs.length=vs.length:=Paired.length r
end
theorem jf {P:Gd}{w:GH}{k:Key}{u:tx}(r:aO (kV k) u):(bW P w).is k u=true:=by
 cases k with
 |inl i=>obtain⟨t,e⟩:=(show ∃t,u=JJ i t from r);subst e;exact oI P w i t
 |inr x=>obtain⟨t,e⟩:=(show ∃t,u=Kf x t from r);subst e;exact oG P w x t
theorem kB {a b:Key}(e:kV a=kV b):a=b:=by
 cases a with
 |inl i=>cases b with
  |inl j=>have e':V.int i=V.int j:=e;injection e' with e';rw[e']
  |inr y=>exact nomatch (show V.int i=V.str y from e)
 |inr x=>cases b with
  |inl j=>exact nomatch (show V.str x=V.int j from e)
  |inr y=>have e':V.str x=V.str y:=e;injection e' with e';rw[e']
theorem gQ:∀{a b:List Key},a.map kV=b.map kV→a=b
 |[],[],_=>rfl
 |[],_::_,e=>by simp at e
 |_::_,[],e=>by simp at e
 |x::xs,y::ys,e=>by
  rw[Gw,Gw]at e
  injection e with e1 e2
  rw[kB e1,gQ e2]
theorem lU {P:Gd}{w:GH}:∀{ks:List Key}{us:List tx},aJ (ks.map kV) us→ItemsAre (bW P w) ks us
 |[],_,r=>by rw[Kw]at r;cases r;exact .nil
 |k::ks,_,r=>by
  rw[Gw]at r
  cases r with
  |cons h t=>exact .cons (jf h) (lU t)
abbrev KT (H:Hp):List (List Key×V)→List (List Key×Addr×tx)→Prop:=Paired fun p q=>p.1=q.1∧H q.2.1=some (.tup (p.1.map kV))∧aO p.2 q.2.2
theorem KT.val {H:Hp}{kvs:List (List Key×V)}{xs:List (List Key×Addr×tx)}(r:KT H kvs xs)(k:List Key):cS (bT kvs k) ((atKey xs k).map (·.2)):=by
 induction r with
 |nil=>exact HM
 | @cons p q ps qs h t ih=>
   obtain⟨h1,_,h2⟩:=h
   by_cases e:p.1=k
   ·have e':q.1=k:=h1.symm.trans e
    have b:atKey (q::qs) k=some q.2:=by simp[atKey,IB,e']
    rw[cF e,b];exact h2
   ·have e':¬q.1=k:=fun z=>e (h1.trans z)
    have b:atKey (q::qs) k=atKey qs k:=by simp[atKey,IB,e']
    rw[cD e,b];exact ih
theorem KT.repl {H:Hp}{kvs:List (List Key×V)}{xs:List (List Key×Addr×tx)}(r:KT H kvs xs)(k:List Key){y:V}{u:tx}(ry:aO y u):
  KT H (kvs.map fun kv=>if kv.1=k then(kv.1,y)else kv) (xs.map (putAt k u)):=by
 induction r with
 |nil=>exact .nil
 | @cons p q ps qs h t ih=>
   rw[Gw,Gw]
   refine .cons ?_ ih
   obtain⟨h1,h2,h3⟩:=h
   unfold putAt
   by_cases e:p.1=k
   ·rw[if_pos e,if_pos (h1.symm.trans e)];exact⟨h1,h2,ry⟩
   ·rw[if_neg e,if_neg (fun z=>e (h1.trans z))];exact⟨h1,h2,h3⟩
theorem KT.put {H:Hp}{kvs:List (List Key×V)}{xs:List (List Key×Addr×tx)}(r:KT H kvs xs)(k:List Key){b:Addr}{y:V}{u:tx}(hb:H b=some (.tup (k.map kV)))(ry:aO y u):
  KT H (bZ kvs k y) (storedH xs k b u):=by
 have e:(kvs.any fun kv=>decide (kv.1=k))=(atKey xs k).isSome:=by
  rw[ii,(r.val k).isSome_eq,Mn]
 unfold bZ storedH
 rw[e]
 by_cases q:(atKey xs k).isSome=true
 ·rw[if_pos q,if_pos q];exact r.repl k ry
 ·rw[if_neg q,if_neg q];exact Paired.snoc r ⟨rfl,hb,ry⟩
theorem KT.keeps {H H':Hp}{kvs:List (List Key×V)}{xs:List (List Key×Addr×tx)}(r:KT H kvs xs)(ht:∀b ys,H b=some (.tup ys)→H' b=some (.tup ys)):KT H' kvs xs:=
 Paired.mapP r fun _ _ z=>⟨z.1,ht _ _ z.2.1,z.2.2⟩
section
variable {P:Gd}{w:GH}{H:Hp}{h:Heap}{a:Addr}
theorem wj {u:HO}(ok:HOk P w H h)(e:Rd H a u):aY P w H h a u:=e.ok ok
theorem jg {kvs:List (Key×V)}(ok:HOk P w H h)(e:Rd H a (.dK kvs)):kvs.length≤sizeLine∧(a==sysModules)=false∧∃vs,KV kvs vs∧h.DictOf (bW P w) a vs:=
 show aY P w H h a (.dK kvs)from wj ok e
theorem wg {kvs:List (Key×V)}(ok:HOk P w H h)(e:H a=some (.dK kvs)):kvs.length≤sizeLine∧(a==sysModules)=false∧∃vs,KV kvs vs∧h.DictOf (bW P w) a vs:=jg ok (.inl e)
theorem gN {ks:List Key}(ok:HOk P w H h)(e:H a=some (.tup (ks.map kV))):(tupleKind (bW P w)).is h ks a:=by
 obtain⟨_,its,r,o,h1,h2,n,h3⟩:=(show aY P w H h a (.tup (ks.map kV))from ok a _ e)
 exact⟨o,its.toArray,n,h1,h2,h3,by simpa using lU r⟩
theorem jU {kvs:List (List Key×V)}(ok:HOk P w H h)(e:Rd H a (.dT kvs)):kvs.length≤sizeLine∧(a==sysModules)=false∧
  ∃xs,KT H kvs xs∧h.DictOfH (tupleKind (bW P w)) a xs:=by
 obtain⟨z,y,xs,r,o,es,ep,h1,h2,h3,h4,h5⟩:=(show aY P w H h a (.dT kvs)from wj ok e)
 refine⟨z,y,xs,r,o,es,ep,h1,h2,h3,h4,fun x hx=>?_,h5⟩
 have all:∀{l:List (List Key×V)}{m:List (List Key×Addr×tx)},KT H l m→∀x∈m,(tupleKind (bW P w)).is h x.1 x.2.1:=by
  intro l m q
  induction q with
  |nil=>intro x hx;exact nomatch hx
  | @cons p q ps qs hq t ih=>
    intro x hx
    rcases Gh.mp hx with e|hx
    ·subst e
     exact gN ok (by rw[←hq.1];exact hq.2.1)
    ·exact ih x hx
 exact all r x hx
theorem pY {kvs:List (List Key×V)}(ok:HOk P w H h)(e:H a=some (.dT kvs)):kvs.length≤sizeLine∧(a==sysModules)=false∧
 ∃xs,KT H kvs xs∧h.DictOfH (tupleKind (bW P w)) a xs:=jU ok (.inl e)
end
def eL (H:Hp)(a:Addr)(y:V)(r:Option V):Prop:=
 (∃kvs k,Rd H a (.dK kvs)∧y=kV k∧r=bT kvs k)∨∃kvs k b,Rd H a (.dT kvs)∧y=.ref b∧H b=some (.tup (k.map kV))∧r=bT kvs k
def lg (H:Hp)(a:Addr)(y v:V)(H':Hp):Prop:=
 (∃kvs k,H a=some (.dK kvs)∧y=kV k∧kvs.length<sizeLine∧H'=upd H a (.dK (bZ kvs k v)))∨
 ∃kvs k b,H a=some (.dT kvs)∧y=.ref b∧H b=some (.tup (k.map kV))∧kvs.length<sizeLine∧H'=upd H a (.dT (bZ kvs k v))
theorem eL.k {H:Hp}{a:Addr}{kvs:List (Key×V)}{k:Key}(e:H a=some (.dK kvs)):eL H a (kV k) (bT kvs k):=.inl ⟨kvs,k,.inl e,rfl,rfl⟩
theorem eL.t {H:Hp}{a b:Addr}{kvs:List (List Key×V)}{k:List Key}(e:H a=some (.dT kvs))(eb:H b=some (.tup (k.map kV))):eL H a (.ref b) (bT kvs k):=.inr ⟨kvs,k,b,.inl e,rfl,eb,rfl⟩
theorem lg.k {H:Hp}{a:Addr}{kvs:List (Key×V)}{k:Key}{v:V}(e:H a=some (.dK kvs))(hl:kvs.length<sizeLine):lg H a (kV k) v (upd H a (.dK (bZ kvs k v))):=.inl ⟨kvs,k,e,rfl,hl,rfl⟩
section
variable {X:Cx}{pins:List (Addr×Obj)}{σ:St}{H:Hp}{s:FI}{a:Addr}{y v:V}{u r:tx}{o:Option V}{A:GC}{E:tx→FI→Prop}
theorem Inv.big (I:Inv X pins σ H s):sysModules<s.heap.objs.size:=by
 have h:mainGlobals<s.heap.objs.size:=(I.mod.glob.keeps I.bk).lt
 exact Mb (by decide) h
theorem rJ {Q:tx→FI→Prop}(hu:A.units+1<cLine)(I:Inv X pins σ H s)(g:eL H a y (some v))(ry:aO y u)(h:∀w' s',Inv X pins σ H s'→aO v w'→Q w' s'):
  wpAny (model X.prog X.w) A (getItem (.ref a) u) Q E s:=by
 rcases g with⟨kvs,k,e,ey,l⟩|⟨kvs,k,b,e,ey,eb,l⟩
 ·subst ey
  obtain⟨z,hd,vs,rel,dd⟩:=jg I.hok e
  obtain⟨w',hw,rw'⟩:=cS.some_of (v:=v) (o:=valueAt vs k) (by rw[l];exact rel.val k)
  exact wpAny_getItem_of (jf ry) dd.mapOf hw (h w' _ (I.tok _) rw')
 ·subst ey
  cases (show u=FT b from ry)
  obtain⟨z,hd,xs,rel,dd⟩:=jU I.hok e
  obtain⟨w',hw,rw'⟩:=cS.some_of (v:=v) (o:=(atKey xs k).map (·.2)) (by rw[l];exact rel.val k)
  obtain⟨p,hp,hp2⟩:=Lr.mp hw
  refine wpAny_getItem_heap (IM hu) (gN I.hok eb) dd hp ?_
  rw[hp2]
  exact h w' _ (I.tok _) rw'
theorem xq {Q:tx→FI→Prop}(hu:A.units+1<cLine)(I:Inv X pins σ H s)(g:eL H a y o)(ry:aO y u)(h:∀s',Inv X pins σ H s'→Q (.bool (!o.isSome)) s'):
  wpAny (model X.prog X.w) A (compareOp .NotIn u (.ref a)) Q E s:=by
 rcases g with⟨kvs,k,e,ey,l⟩|⟨kvs,k,b,e,ey,eb,l⟩
 ·subst ey
  obtain⟨z,hd,vs,rel,dd⟩:=jg I.hok e
  refine wpAny_notIn_of (jf ry) hd dd.mapOf ?_
  rw[←(rel.val k).isSome_eq,←l]
  exact h _ (I.tok _)
 ·subst ey
  cases (show u=FT b from ry)
  obtain⟨z,hd,xs,rel,dd⟩:=jU I.hok e
  refine wpAny_notIn_heap (IM hu) (gN I.hok eb) hd dd ?_
  have q:=(rel.val k).isSome_eq
  rw[Mn]at q
  rw[←q,←l]
  exact h _ (I.tok _)
theorem jj {h':Heap}{t':Nat}{ob:HO}(I:Inv X pins σ H s)(mu:Mut (H a))(hs:HU a s.heap h')(he:∃q,h'.get? a=some q)(new:aY X.prog X.w (upd H a ob) h' a ob):
  Inv X pins σ (upd H a ob) {s with heap:=h',toks:=t'}:=
 I.write (x:=a) (e:=a) mu (.inl rfl) (fun b q hb z=>(hs.2 b hb).trans z) he new
theorem rc {P:Gd}{w:GH}{H':Hp}{h':Heap}{kvs:List (Key×V)}{vs:List (Key×tx)}(z:kvs.length≤sizeLine)(hd:(a==sysModules)=false)(rel:KV kvs vs)(dd:h'.DictOf (bW P w) a vs):
 aY P w H' h' a (.dK kvs):=⟨z,hd,vs,rel,dd⟩
theorem sL {H':Hp}{Q:Unit→FI→Prop}(hu:A.units+1<cLine)(I:Inv X pins σ H s)(g:lg H a y v H')(ry:aO y u)(rv:aO v r)(h:∀s',Inv X pins σ H' s'→Q () s'):
  wpAny (model X.prog X.w) A (setItem (.ref a) u r) Q E s:=by
 rcases g with⟨kvs,k,e,ey,l,eH⟩|⟨kvs,k,b,e,ey,eb,l,eH⟩
 ·subst ey eH
  obtain⟨z,hd,vs,rel,dd⟩:=wg I.hok e
  have hz:vs.length≤sizeLine:=by rw[←rel.length];exact z
  have hl:(bZ kvs k v).length≤sizeLine:=by have:=dQ kvs k v;omega
  refine wpAny_setItem_pairs (hsz:=hz) (jf ry) dd fun h' dd' hs=>h _ ?_
  have he:∃q,h'.get? a=some q:=let ⟨q,_,_,hq,_⟩:=dd';⟨q,hq⟩
  exact jj I (by rw[e];exact HM) hs he (rc hl hd (rel.put k rv) dd')
 ·subst ey eH
  cases (show u=FT b from ry)
  obtain⟨z,hd,xs,rel,dd⟩:=pY I.hok e
  have hz:xs.length≤sizeLine:=by rw[←Paired.length rel];exact z
  have hl:(bZ kvs k v).length≤sizeLine:=by have:=dQ kvs k v;omega
  refine wpAny_setItem_heap (hsz:=hz) (IM hu) (gN I.hok eb) dd fun h' dd' hs=>h _ ?_
  obtain⟨q,es,ep,hq,h2,h3,h4,_,h5⟩:=dd'
  refine jj I (by rw[e];exact HM) hs ⟨q,hq⟩ ⟨hl,hd,_,(rel.put k eb rv).keeps fun c ys ec=>?_,q,es,ep,hq,h2,h3,h4,h5⟩
  rw[al (aL ec e (fun z=>nomatch z))]
  exact ec
end
section
variable {X:Cx}{pins:List (Addr×Obj)}{σ:St}{H:Hp}{s:FI}{a:Addr}{kvs:List (Key×V)}{k:Key}{u:tx}{A:GC}{E:tx→FI→Prop}
theorem Ce {Q:tx→FI→Prop}(I:Inv X pins σ H s)(e:Rd H a (.dK kvs))(h:∀t s',Inv X pins σ H s'→Q (.int kvs.length t) s'):wpAny (model X.prog X.w) A (call (.builtin "len") [.ref a]) Q E s:=by
 obtain⟨z,hd,vs,rel,dd⟩:=jg I.hok e
 refine call_len_dict hd dd (by rw[←rel.length];rw[HR]at z;omega) ?_
 rw[←rel.length]
 exact h _ _ (I.tok _)
end
theorem oz {X:Cx}{pins:List (Addr×Obj)}{σ:St}{H:Hp}{s:FI}{a:Addr}{y:V}{o:Option V}(I:Inv X pins σ H s)(g:eL H a y o):s.TypeIs (.ref a) "dict":=by
 rcases g with⟨kvs,k,e,_,_⟩|⟨kvs,k,b,e,_,_,_⟩
 ·obtain⟨_,_,vs,_,dd⟩:=jg I.hok e
  exact dd.typeIs
 ·obtain⟨_,_,xs,_,dd⟩:=jU I.hok e
  exact dd.typeIs
theorem sY {P:Gd}{w:GH}{H:Hp}(h:Heap)(hb:sysModules<h.objs.size):aY P w H (h.push {cls:=.type "dict",data:=.dict #[]}) h.objs.size (.dK []):=
 ⟨Gc _,beq_eq_false_iff_ne.mpr (Gt (Gf hb)),[],.nil,Heap.DictOf.new h⟩
theorem vk {P:Gd}{w:GH}{H:Hp}(h:Heap)(hb:sysModules<h.objs.size):aY P w H (h.push {cls:=.type "dict",data:=.dict #[]}) h.objs.size (.dT []):=
 ⟨Gc _,beq_eq_false_iff_ne.mpr (Gt (Gf hb)),[],.nil,_,#[],0,FO _ rfl,⟨rfl,rfl,rfl⟩,rfl,rfl,List.nodup_nil⟩
def rW:TE:=fun _ H Q=>∀p,H p=none→Q (.ref p) (upd H p (.dK []))
def sQ:TE:=fun _ H Q=>∀p,H p=none→Q (.ref p) (upd H p (.dT []))
section
variable {X:Cx}{pos:Pos}
theorem uZ:PE X (.Dict [] [] pos) rW:=fun pins s σ H Q I h=>
 wpAny_Dict_empty ⟨.ref s.heap.objs.size,_,I.laid (a:=s.heap.objs.size) (o:=.dK []) (t':=s.toks) (fun _ _ q=>cW _ q) (gV _) (sY s.heap I.big),rfl,h _ (I.hok.fresh (gV _))⟩
theorem uT:PE X (.Dict [] [] pos) sQ:=fun pins s σ H Q I h=>
 wpAny_Dict_empty ⟨.ref s.heap.objs.size,_,I.laid (a:=s.heap.objs.size) (o:=.dT []) (t':=s.toks) (fun _ _ q=>cW _ q) (gV _) (vk s.heap I.big),rfl,h _ (I.hok.fresh (gV _))⟩
end
end L2
namespace Att
open PySem PySem.W PySem.Calls PyProof.Rows
theorem ints_of_wellAll {P:Params}{h:Heap}:∀(ns:List Int)(vs:List tx),WellAll P h vs (ns.map WData.int)→Nw vs ns:=by
 intro ns
 induction ns with
 |nil=>
  intro vs w
  rw[Kw]at w
  cases w
  exact .nil
 |cons n ns ih=>
  intro vs w
  rw[Gw]at w
  cases w with
  |cons a b=>
   cases a
   exact .cons _ _ (ih _ b)
theorem script_of {l:OpenLaw}{n:Nat}(hn:l.most=some n){P:Params}{h:Heap}{args:List WData}{vals:List tx}
  (hpre:l.row.toRowW.claim.pre args=true)(hwl:WellAll P h vals args):
  ∃a vs ns,vals=[FT a]∧args=[WData.list (ns.map WData.int)]∧h.get? a=some {cls:=.type "list",data:=.seq vs.toArray}∧Nw vs ns∧ns.length≤n:=by
 have hsh:WShape.hasAll [] args [.list .int]=true:=(pre_splitW hpre).1
 have hc:l.pre.holds [] {args:=args}=true:=(pre_splitW hpre).2
 obtain⟨d,r,rfl,h1,h2⟩:=hasAllW_cons hsh
 obtain rfl:=hasAllW_nil h2
 obtain⟨xs,rfl,h3⟩:=hasW_list h1
 obtain⟨ns,rfl⟩:=items_int h3
 have hlen:ns.length≤n:=by
  unfold OpenLaw.pre at hc
  have h4:(WTm.not (.lt (.lit (.int (n:Int))) (.len (.arg 0)))).holds [] {args:=[.list (ns.map .int)]}=true:=by
   have h4:=(holds_andW hc).1
   rw[hn]at h4
   exact h4
  have h5:=condW_of h4 (w_not (w_lt w_lit (w_len_list (w_arg rfl))))
  rw[FH]at h5
  refine Nat.le_of_not_lt fun q=>?_
  have q':(n:Int)<((ns.length:Nat):Int):=by omega
  first
   |(rw[decide_eq_true q']at h5;exact absurd h5 (by decide))
   |(simp at h5;omega)
 cases hwl with
 |cons w1 w2=>
  cases w2
  cases w1 with
  |list ho hall=>exact⟨_,_,ns,rfl,rfl,ho,ints_of_wellAll ns _ hall,hlen⟩
theorem post_true (l:OpenLaw)(args:List WData):l.row.toRowW.claim.post args (.bool true) args=true:=
 postW_of (r:=l.row.toRowW) (X:=(true==true))
  (show WShape.has [] (.bool true) .bool=true by first|rfl|decide|simp[WShape.has,WShape.arms,WShape.armsAll])
  (show(WTm.eq .res (.lit (.bool true))).value [] {args:=args,res:=some (.bool true),after:=args}=some (.bool (true==true))from w_eq_bool (w_res rfl) w_lit) rfl
theorem attach_call {l:OpenLaw}{n:Nat}{q:Gd}{loose:List Str}{XP:(Str→Option tx)→Heap→Prop}{YP:GH→Heap→Prop}{d:DefRec}
  (hn:l.most=some n)(hdf:d.params.defaults=[])
  (call:∀(w:GH)(s₀ s₁:FI)(mg mb:Str→Option tx)(fa:Addr)(o:Obj)(pm cd doc:tx)(a:Addr)(vs:List tx)(ns:List Int),
   Ground q loose [] XP w s₀ mg mb s₁.heap→YP w s₁.heap→
   s₁.heap.get? fa=some o→o.data=.func (docDef d.name d.params d.body d.scope pm cd doc)→s₁.heap.CodeRec cd d.name→mg d.name=some (.ref fa)→
   s₁.heap.get? a=some {cls:=.type "list",data:=.seq vs.toArray}→Nw vs ns→ns.length≤n→s₁.gens=#[]→
   codeAny (model l.prog w) callerA (.call (.ref fa) ⟨[.ref a],[]⟩) (fun r s'=>r=.ok (.ret (.bool true))∧OldK s₁.heap s'.heap∧s'.os=s₁.os∧Kj s'.gens) s₁):
  WalkO q loose XP YP l.row.toRowW d [] (fun f vs=>Mu f vs):=by
 intro w s₀ s₁ mg mb G Y fa o pm cd doc dV kV ho hd hcd hD hmg hg args vals as hpre hlay hrd hwl hlo
 obtain rfl:dV=.none:=Dflts.none hD hdf
 obtain rfl:kV=.none:=Dflts.noKw hD
 obtain⟨a,vs,ns,rfl,rfl,hobj,hints,hlen⟩:=script_of hn hpre hwl
 refine enter_call (Ip (call w s₀ s₁ mg mb fa o pm cd doc a vs ns G Y ho (fd_plain hd) hcd hmg hobj hints hlen hg) fun r s' hq=>?_)
 obtain⟨rfl,h2,h3,h4⟩:=hq
 exact⟨.inl ⟨.bool true,.bool true,[],rfl,fun _=>rfl,.bool true,post_true l _,fun _=>⟨KZ,fun _ hm=>(nomatch hm)⟩⟩,h2,h3,h4⟩
end Att
namespace L2
open PySem PySem.Spec PyProof.Rows
theorem lQ:∀{vs:List tx}{ns:List Int},Nw vs ns→aJ (ns.map V.int) vs
 |_,_,.nil=>.nil
 |_,_,.cons n t h=>.cons ⟨t,rfl⟩ (lQ h)
def bS (s:Stmt):Arguments:=match s with
 |.FunctionDef _ a _ _ _ _ _ _ _ _=>a
 |_=>{posonlyargs:=[],args:=[],vararg:=none,kwonlyargs:=[],kw_defaults:=[],kwarg:=none,defaults:=[]}
def bf (s:Stmt):List Stmt:=match s with
 |.FunctionDef _ _ b _ _ _ _ _ _ _=>b
 |_=>[]
def av (s:Stmt):Scope:=match s with
 |.FunctionDef _ _ _ _ _ _ sc _ _ _=>sc
 |_=>{kind:=.function,names:=[],isGenerator:=false,isCoroutine:=false}
abbrev E0:XK:=fun _ _ _=>False
structure Fun (K:pz)(x qual:Str)(st:Stmt)(f:Addr)(fd:FX):Prop where
 ex:∃(oc:tx)(od:Option Addr)(kV doc pm:tx)(an:Option Addr)(cdv ct:tx)(osl:Array (Option tx)),
  fd=IT x qual (bS st) (bf st) (av st) .none kV doc pm an cdv ct∧K.lookup f=some ⟨oc,od,.func fd,osl⟩∧Ng K cdv qual=true
 kp:Ka K (.ref f)=true
section
variable {P:Gd}{w:GH}{K:pz}{mg:Str→Option tx}{base:Heap}
theorem Fun.binds {x qual:Str}{st:Stmt}{f:Addr}{fd:FX}{ps:List Str}(F:Fun K x qual st f fd)
  (h:∀(kV doc pm:tx)(an:Option Addr)(cdv ct:tx)(us:List tx),us.length=ps.length→bindArgs (IT x qual (bS st) (bf st) (av st) .none kV doc pm an cdv ct) ⟨us,[]⟩=pure (ps.zip us)):bI K fd ps []:=by
 obtain⟨oc,od,kV,doc,pm,an,cdv,ct,osl,rfl,lk,hcd⟩:=F.ex
 exact .all (h kV doc pm an cdv ct)
theorem cO {x qual:Str}{st:Stmt}{f:Addr}{oc:tx}{od an:Option Addr}{osl:Array (Option tx)}{kV doc pm cdv ct:tx}(l:K.lookup f=some ⟨oc,od,.func (IT x qual (bS st) (bf st) (av st) .none kV doc pm an cdv ct),osl⟩)
 (c:Ng K cdv qual=true)(k:Ka K (.ref f)=true):Fun K x qual st f (IT x qual (bS st) (bf st) (av st) .none kV doc pm an cdv ct):=⟨⟨oc,od,kV,doc,pm,an,cdv,ct,osl,rfl,l,c⟩,k⟩
end
theorem aK {n:Nat}(h:n≤1000):n<sizeLine:=Hs h (by decide)
section
variable {X:Cx}
theorem rM:bH X (.builtin "len") (fun xs H Q=>∃a kvs,xs=[V.ref a]∧H a=some (.dK kvs)∧Q (.int kvs.length) H):=by
 intro pins s σ H xs us Q I r h
 obtain⟨a,kvs,rfl,ha,q⟩:=h
 obtain⟨u,rfl,ru⟩:=fK r
 cases ru
 exact Ce I (.inl ha) fun t s' I'=>⟨.int kvs.length,H,I',⟨t,rfl⟩,q⟩
end
theorem fz {A B:Prop}(h:A):if true=true then A else B:=by
 rw[if_pos rfl]
 exact h
def au (H H':Hp):Prop:=∀b o,H b=some o→H' b=some o
theorem au.refl (H:Hp):au H H:=fun _ _ h=>h
theorem au.trans {H H1 H2:Hp}(a:au H H1)(b:au H1 H2):au H H2:=fun c o h=>b c o (a c o h)
def dc:List (Str×HX)→List (Str×Addr)→List (Str×Addr)→List (Str×Addr)
 |[],_,cs=>cs
 |(n,k)::r,cells,cs=>dc r cells (if k==.free then(match cells.lookup n with|some a=>(n,a)::cs|none=>cs)else cs)
theorem ny {scope:Scope}{env:Env}(h:∀y∈scope.names,y.2=.free→(env.cells.lookup y.1).isSome=true):closureFor scope env=pure (dc scope.names env.cells []):=by
 have key:∀(l:List (Str×HX))(cs:List (Str×Addr)),(∀y∈l,y.2=.free→(env.cells.lookup y.1).isSome=true)→
   (forIn l cs (fun(x:Str×HX)(cs:List (Str×Addr))=>(if (x.2==HN)=true then(do let a←cellOf env x.1;pure (Mg ((x.1,a)::cs)))else(pure (Mg cs):Sem _))):Sem (List (Str×Addr)))=pure (dc l env.cells cs):=by
  intro l
  induction l with
  |nil=>intro cs _;rfl
  |cons y r ih=>
   intro cs hy
   obtain⟨n,k⟩:=y
   rw[IA]
   by_cases hk:k=.free
   ·subst hk
    have hs:=hy (n,.free) Gu rfl
    cases e:env.cells.lookup n with
    |none=>rw[e]at hs;cases hs
    |some a=>
     have:=ih ((n,a)::cs) (fun z hz=>hy z (GF _ hz))
     simp only[dc,beq_self_eq_true,if_true,e,cellOf,LI]
     exact this
   ·have hb:(k==HN)=false:=by simpa using hk
    have:=ih cs (fun z hz=>hy z (GF _ hz))
    simp only[dc,hb,HI,if_false,LI]
    exact this
 have:=key scope.names [] h
 unfold closureFor
 simpa using this
theorem lW:∀{l:List (Str×HX)}{cells cs:List (Str×Addr)}{x:Str}{c:Addr},(∀x c,cs.lookup x=some c→cells.lookup x=some c)→(dc l cells cs).lookup x=some c→cells.lookup x=some c
 |[],_,_,_,_,h,e=>h _ _ e
 |(n,k)::r,cells,cs,x,c,h,e=>by
  refine lW (l:=r) (fun y d hy=>?_) e
  split at hy
  ·split at hy
   ·rename_i a ha
    by_cases hyn:y=n
    ·subst hyn
     rw[LO]at hy
     rw[←hy];exact ha
    ·rw[Ie]at hy
     have:(y==n)=false:=by simpa using hyn
     rw[this]at hy
     exact h _ _ hy
   ·exact h _ _ hy
  ·exact h _ _ hy
theorem kC:∀{l:List (Str×HX)}{cells cs:List (Str×Addr)}{x:Str},(cs.lookup x).isSome=true→((dc l cells cs).lookup x).isSome=true
 |[],_,_,_,h=>h
 |(n,k)::r,cells,cs,x,h=>by
  refine kC (l:=r) ?_
  split
  ·split
   ·rw[Ie]
    split
    ·rfl
    ·exact h
   ·exact h
  ·exact h
theorem iE:∀{l:List (Str×HX)}{cells cs:List (Str×Addr)}{x:Str},(x,HN)∈l→(cells.lookup x).isSome=true→((dc l cells cs).lookup x).isSome=true
 |[],_,_,_,h,_=>by cases h
 |(n,k)::r,cells,cs,x,h,hs=>by
  rcases Gh.mp h with e|h
  ·cases e
   refine kC (l:=r) ?_
   simp only[beq_self_eq_true,if_true]
   cases e:cells.lookup n with
   |none=>rw[e]at hs;cases hs
   |some a=>simp only[LO];rfl
  ·exact iE (l:=r) h hs
theorem jS {x:Str}{k:HX}:∀{l:List (Str×HX)},l.lookup x=some k→(x,k)∈l:=fun h=>Hj h
inductive fG (X:Cx)(scope:Scope):List Str→List Nat→Prop where
 |nil:fG X scope [] []
 |cons {y:Str} {i:Nat} {ys:List Str} {is:List Nat} (h1:X.N[i]?=some y) (h2:X.env.kindOf y=some .cell∨X.env.kindOf y=some .free) (h3:scope.names.lookup y=some .free) (h:fG X scope ys is):fG X scope (y::ys) (i::is)
structure eG (scope:Scope)(x:Str)(ys:List Str):Prop where
 kind:scope.kind=.function
 nocell:∀y∈scope.names,y.2≠.cell
 names:∀y∈scope.names,y.2=.local→scope.names.lookup y.1=some .local
 own:scope.names.lookup x=some .local
 all:∀y∈scope.names,y.2=.free→y.1∈ys
 nd:(x::ys).Nodup
def bp (X:Cx)(scope:Scope)(C:Addr)(N:List Str)(s:FI)(H:Hp)(fp:List Addr):Cx:=
 {X with N:=N,s₀:=s,H₀:=H,env:=compEnvC scope (dc scope.names X.env.cells []) C X.env,outer:=X.stack,ex:=fp,fn:=fun _=>false,pn:=[],xe:=fun _ _=>False}
def bz (σ:St)(is:List Nat):St:=is.map fun i=>(σ[i]?).getD none
theorem gH {f:Str×HX→Str×HX}(hf:∀p,(f p).1=p.1){x:Str}:∀(l:List (Str×HX)),(l.map f).lookup x=(l.lookup x).map fun k=>(f (x,k)).2
 |[]=>rfl
 |(n,k)::r=>by
  have ih:=gH hf (x:=x) r
  have e:f (n,k)=(n,(f (n,k)).2):=Prod.ext (hf (n,k)) rfl
  rw[Gw,e,Ie,Ie]
  cases hx:x==n with
  |true=>
   have e':x=n:=by simpa using hx
   subst e';rfl
  |false=>exact ih
theorem ij (scope:Scope)(env:Env)(x:Str):(relabel scope env).names.lookup x=(scope.names.lookup x).map fun k=>if (k==HN&&env.scope.kind==.function&&env.kindOf x==some .cell)then Jp else k:=by
 have hf:∀p:Str×HX,((fun(n,k)=>if (k==HN&&env.scope.kind==.function&&env.kindOf n==some .cell)then(n,Jp)else(n,k)) p:Str×HX).1=p.1:=by
  intro p
  obtain⟨n,k⟩:=p
  show(if _ then(n,Jp)else(n,k)).1=n
  split<;>rfl
 have:=gH hf (x:=x) scope.names
 show HL x (List.map _ scope.names)=_
 rw[this]
 congr 1
 funext k
 show(if _ then(x,Jp)else(x,k)).2=_
 split<;>rfl
theorem gO {scope:Scope}{env:Env}{x:Str}{k:HX}(nc:∀y∈scope.names,y.2≠.cell)(h:(relabel scope env).names.lookup x=some k)(hk:k=.cell∨k=.free):(x,HN)∈scope.names:=by
 rw[ij]at h
 cases q:scope.names.lookup x with
 |none=>rw[q]at h;cases h
 |some k'=>
  have hm:=jS q
  rw[q]at h
  have h:(if (k'==HN&&env.scope.kind== .function&&env.kindOf x==some .cell)then Jp else k')=k:=FY h
  by_cases hc:k'=.free
  ·subst hc;exact hm
  ·have hb:(k'==HN)=false:=by simpa using hc
   rw[hb]at h
   have h:k'=k:=h
   subst h
   rcases hk with z|z
   ·exact absurd z (nc _ hm)
   ·exact absurd z hc
theorem om {scope:Scope}{env:Env}{x:Str}(h:scope.names.lookup x=some .free):(relabel scope env).names.lookup x=some .cell∨(relabel scope env).names.lookup x=some .free:=by
 rw[ij,h]
 show some (if _ then _ else _)=_∨some (if _ then _ else _)=_
 split
 ·exact .inl rfl
 ·exact .inr rfl
theorem mj {scope:Scope}{env:Env}{x:Str}(h:scope.names.lookup x=some .local):(relabel scope env).names.lookup x=some .local:=by
 rw[ij,h];rfl
theorem sV {X:Cx}{scope:Scope}{ys:List Str}{is:List Nat}{m:Str→Option tx}{h:Heap}{σ:St}(hc:fG X scope ys is)
  (hl:∀(i:Nat)(x:Str)(v:V),X.N[i]? =some x→σ[i]? =some (some v)→Vis X.env.scope x→∃u,aO v u∧AH X.env h m x u)(nd:True):
  ∀(j:Nat)(y:Str)(v:V),ys[j]? =some y→(bz σ is)[j]? =some (some v)→∃u,aO v u∧scope.names.lookup y=some .free∧∃c,X.env.cells.lookup y=some c∧h.IsCell c (some u):=by
 induction hc with
 |nil=>intro j y v e;simp at e
 | @cons z i zs js h1 h2 h3 hr ih=>
   intro j y v e1 e2
   cases j with
   |zero=>
    simp at e1;subst e1
    have e2:(σ[i]?).getD none=some v:=by simpa[bz]using e2
    have e3:σ[i]? =some (some v):=by
     cases q:σ[i]? with
     |none=>rw[q]at e2;simp at e2
     |some o=>rw[q]at e2;simp at e2;rw[e2]
    have hv:Vis X.env.scope z:=by
     rcases h2 with q|q
     ·exact .inr (.inl q)
     ·exact .inr (.inr q)
    obtain⟨u,r,l⟩:=hl i z v h1 e3 hv
    refine⟨u,r,h3,?_⟩
    rcases l with⟨k,_⟩|⟨_,c,e,ic⟩
    ·rcases h2 with q|q
     ·rw[q]at k;cases k
     ·rw[q]at k;cases k
    ·exact⟨c,e,ic⟩
   |succ j=>
    exact ih j y v (by simpa using e1) (by simpa[bz]using e2)
def pG (is:List Nat)(tc:TT)(te:TE)(σ:St)(D:Addr)(J:It)(H1:Hp)(Q:VK):Prop:=∃W:Nat→Nat→List V→Hp→Prop,(∃m,W 0 m [] (upd H1 D (.lst [])))∧
 ∀i m ys H2,W i m ys H2→(J.stop i H2∧Q (.ref D) H2)∨(J.go i H2∧∀x H3,J.yld i H2 x H3→tc (some x::bz σ is) H3 fun b H4=>if b=true then
  te (some x::bz σ is) H4 fun y H5=>H5 D=some (.lst ys)∧ys.length<sizeLine∧∃m',m'<m∧W (i+1) m' (ys++[y]) (upd H5 D (.lst (ys++[y])))
  else ∃m',m'<m∧W (i+1) m' ys H4)
def dW (is:List Nat)(wi:TI)(tc:TT)(te:TE):TE:=fun σ H Q=>wi σ H fun J H1=>∀D,H1 D=none→pG is tc te σ D J H1 Q
theorem oE (elt target iter c:Expr)(scope:Scope)(pos:Pos)(it acc:tx)(env:Env):
  compTurn (.ListComp elt [⟨target,iter,[c],0⟩] scope pos) 0 it acc env=(standAt iter.pos >>= fun _=>pyNext it >>= fun r=>match r with
   |none=>pure (.done .next)
   |some v=>letOwnedTupleGo target it v >>= fun _=>assign target env v >>= fun _=>isTrue c env (eval c env) >>= fun ok=>
    (if ok=true then(eval elt env >>= fun x=>call (.builtin "list.append") [acc,x] >>= fun _=>pure ())else pure ()) >>= fun _=>
     again (.compLoop (.ListComp elt [⟨target,iter,[c],0⟩] scope pos) 0 it acc env)):=by
 unfold compTurn
 simp only[IA,Js,List.getElem?_cons_zero,List.getElem?_cons_succ,List.getElem?_nil,bind_assoc,LI,bne_self_eq_false,HI,if_false,if_true]
 congr 1
 funext _
 congr 1
 funext r
 cases r with
 |none=>rfl
 |some v=>
  simp only[bind_assoc,LI,if_true]
  congr 1;funext _
  congr 1;funext _
  congr 1;funext b
  cases b<;>simp
section
variable {prog:Gd}{w:GH}{A:GC}{R:Lb→FI→Prop}{s:FI}
theorem ix {elt target iter c:Expr}{scope:Scope}{pos:Pos}{it acc:tx}{env:Env}(I:Nat→FI→Prop)
  (turn:∀n s,I n s→wpAny (model prog w) A (pyNext it) (fun r s₁=>match r with
   |none=>R (.ok .next) s₁
   |some v=>wpAny (model prog w) A (letOwnedTupleGo target it v) (fun _ s₁=>wpAny (model prog w) A (assign target env v) (fun _ s₂=>wpAny (model prog w) A (isTrue c env (eval c env)) (fun ok s₂=>if ok=true then wpAny (model prog w) A (eval elt env) (fun x s₃=>
    wpAny (model prog w) A (call (.builtin "list.append") [acc,x]) (fun _ s₄=>∃m,m<n∧I m s₄) (notedBy (model prog w) A env fun e s'=>R (.error e) s') s₃)
    (notedBy (model prog w) A env fun e s'=>R (.error e) s') s₂ else ∃m,m<n∧I m s₂) (notedBy (model prog w) A env fun e s'=>R (.error e) s') s₂) (notedBy (model prog w) A env fun e s'=>R (.error e) s') s₁) (notedBy (model prog w) A env fun e s'=>R (.error e) s') s₁) (notedBy (model prog w) A env fun e s'=>R (.error e) s') s)
  (n:Nat)(h:I n s):
  codeAny (model prog w) A (.compLoop (.ListComp elt [⟨target,iter,[c],0⟩] scope pos) 0 it acc env) R s:=by
 refine codeAny_loop rfl I (fun n s hI=>?_) n h
 show wpAny _ _ ((compTurn (.ListComp elt [⟨target,iter,[c],0⟩] scope pos) 0 it acc env).onRaise (fun x=>do noteFrame x env;theTreesLotGoes x)) _ _ s
 refine wpAny_noted ?_
 rw[oE]
 refine ah (Kz (ah (Gj (turn n s hI) (fun r s₁ h₁=>?_) fun _ _ h'=>h')))
 cases r with
 |none=>exact FK h₁
 |some v=>
  refine ah (Gj h₁ (fun _ s₁ h₁=>ah (Gj h₁ (fun _ s₂ h₂=>ah (Gj h₂ (fun ok s₃ h₃=>?_) fun _ _ h'=>h')) fun _ _ h'=>h')) fun _ _ h'=>h')
  cases ok with
  |true=>
   rw[if_pos rfl]at h₃
   simp only[if_true]
   exact ah (ah (Gj h₃ (fun x s₃ h₃=>ah (Gj h₃ (fun _ s₄ h₄=>FK (FK ⟨rfl,h₄⟩)) fun _ _ h'=>h')) fun _ _ h'=>h'))
  |false=>
   rw[if_neg FZ]at h₃
   simp only[HI,if_false]
   exact ah (FK (FK ⟨rfl,h₃⟩))
theorem iz {elt target iter:Expr}{scope:Scope}{pos:Pos}{it acc:tx}{env:Env}(I:Nat→FI→Prop)
  (turn:∀n s,I n s→wpAny (model prog w) A (pyNext it) (fun r s₁=>match r with
   |none=>R (.ok .next) s₁
   |some v=>wpAny (model prog w) A (letOwnedTupleGo target it v) (fun _ s₁=>wpAny (model prog w) A (assign target env v) (fun _ s₂=>wpAny (model prog w) A (eval elt env) (fun x s₃=>
    wpAny (model prog w) A (call (.builtin "list.append") [acc,x]) (fun _ s₄=>∃m,m<n∧I m s₄) (notedBy (model prog w) A env fun e s'=>R (.error e) s') s₃)
    (notedBy (model prog w) A env fun e s'=>R (.error e) s') s₂) (notedBy (model prog w) A env fun e s'=>R (.error e) s') s₁) (notedBy (model prog w) A env fun e s'=>R (.error e) s') s₁) (notedBy (model prog w) A env fun e s'=>R (.error e) s') s)
  (n:Nat)(h:I n s):
  codeAny (model prog w) A (.compLoop (.ListComp elt [⟨target,iter,[],0⟩] scope pos) 0 it acc env) R s:=by
 refine codeAny_loop rfl I (fun n s hI=>?_) n h
 show wpAny _ _ ((compTurn (.ListComp elt [⟨target,iter,[],0⟩] scope pos) 0 it acc env).onRaise (fun x=>do noteFrame x env;theTreesLotGoes x)) _ _ s
 refine wpAny_noted ?_
 rw[compTurn_list1]
 refine ah (Kz (ah (Gj (turn n s hI) (fun r s₁ h₁=>?_) fun _ _ h'=>h')))
 cases r with
 |none=>exact FK h₁
 |some v=>
  exact ah (Gj h₁ (fun _ s₁ h₁=>ah (Gj h₁ (fun _ s₂ h₂=>ah (ah (Gj h₂ (fun x s₃ h₃=>ah (Gj h₃
   (fun _ s₄ h₄=>FK (FK ⟨rfl,h₄⟩)) fun _ _ h'=>h')) fun _ _ h'=>h'))) fun _ _ h'=>h')) fun _ _ h'=>h')
end
def qa (X:Cx)(ifs:List Expr)(tc:TT):Prop:=match ifs with
 |[]=>tc=fun _ H Q=>Q true H
 |[c]=>PT X c tc
 |_=>False
section
variable {X:Cx}
theorem ul {scope:Scope}{ys:List Str}{is:List Nat}(h:fG X scope ys is):is.length=ys.length:=by
 induction h with
 |nil=>rfl
 |cons _ _ _ _ ih=>simp[ih]
theorem lG {scope:Scope}{ys:List Str}{is:List Nat}(h:fG X scope ys is){y:Str}(hy:y∈ys):X.env.kindOf y=some .cell∨X.env.kindOf y=some .free:=by
 induction h with
 |nil=>cases hy
 |cons _ h2 _ _ ih=>
  rcases Gh.mp hy with e|e
  ·rw[e];exact h2
  ·exact ih e
theorem lV {elt iter:Expr}{ifs:List Expr}{x:Str}{px pos:Pos}{scope:Scope}{ys:List Str}{is:List Nat}{tc:TT}{te:TE}{pins:List (Addr×Obj)}{σ:St}{H2:Hp}{s2:FI}{it:Addr}{fp:List Addr}{tn:Nat→Heap→Prop}{J:It}{E:tx→FI→Prop}{Q:VK}{RR:tx→Addr→Lb→FI→Prop}
  (hc:X.calm=true)(S:eG scope x ys)(hcap:fG X scope ys is)
  (hif:∀C s H fp,qa (bp X scope C (x::ys) s H fp) ifs tc)(he:∀C s H fp,PE (bp X scope C (x::ys) s H fp) elt te)
  (I2:Inv X pins σ H2 s2)(T:iK X.prog X.w X.K (.Name x px) J fp it tn)(st2:tn 0 s2.heap)(f2:∀b∈fp,iT X pins H2 b)
  (hW:∀D,H2 D=none→∃W:Nat→Nat→List V→Hp→Prop,(∃m,W 0 m [] (upd H2 D (.lst [])))∧
   ∀i m ys H2,W i m ys H2→(J.stop i H2∧Q (.ref D) H2)∨(J.go i H2∧∀x H3,J.yld i H2 x H3→tc (some x::bz σ is) H3 fun b H4=>if b=true then
    te (some x::bz σ is) H4 fun y H5=>H5 D=some (.lst ys)∧ys.length<sizeLine∧∃m',m'<m∧W (i+1) m' (ys++[y]) (upd H5 D (.lst (ys++[y])))
    else ∃m',m'<m∧W (i+1) m' ys H4))
  (hRR:∀D C H' s',(X.s₀.heap.objs.size≤C∧∀p∈X.pn++pins,p.1≠C)→(∃m,s'.heap.Ns C m)→C≠X.env.locals→H' C=none→Inv X pins σ H' s'→(∀h',HU C s'.heap h'→Inv X pins σ H' {s' with heap:=h'})→Q (.ref D) H'→RR (.ref D) C (.ok .next) s'):
  wpAny (model X.prog X.w) X.A (newList []) (fun acc s₃=>wpAny (model X.prog X.w) X.A (newFunctionEnv scope X.env.globals (dc scope.names X.env.cells []) [] X.env.qual none .none (some X.env)) (fun cenv s₄=>
   codeAny (model X.prog X.w) X.A (.compStart (.ListComp elt [⟨.Name x px,iter,ifs,0⟩] scope pos) 0 (.ref it) acc {cenv with scope:=relabel scope X.env}) (RR acc cenv.locals) s₄) E s₃) E s2:=by
 have hf2:H2 s2.heap.objs.size=none:=I2.fresh
 refine Hn (Ko S.nocell (by intro y hy;simp at hy) (fun h₁ hns₁ hsb₁=>?_) S.kind)
 dsimp only at hns₁ hsb₁⊢
 have I3:Inv X pins σ (upd H2 s2.heap.objs.size (.lst [])) {s2 with heap:=s2.heap.push {cls:=.type "list",data:=.seq ([]:List tx).toArray}}:=I2.lnew (t':=s2.toks) (ys:=[]) .nil (Gc _)
 obtain⟨W,⟨m0,w0⟩,turn⟩:=hW _ hf2
 generalize hD:s2.heap.objs.size=D at I3 w0 turn hf2⊢
 generalize hs3:({s2 with heap:=s2.heap.push {cls:=.type "list",data:=.seq ([]:List tx).toArray}}:FI)=s3 at I3
 have hp3:s2.heap.push {cls:=.type "list",dict:=none,data:=.seq ([]:List tx).toArray}=s3.heap:=by rw[←hs3]
 rw[hp3]at hns₁ hsb₁⊢
 have tk3:s2.toks=s3.toks:=by rw[←hs3]
 generalize hH3:upd H2 D (.lst [])=H3 at I3 w0
 generalize hC:s3.heap.objs.size=C at hns₁ hsb₁⊢
 have keep2:∀b o,s2.heap.get? b=some o→s3.heap.get? b=some o:=fun b o e=>by rw[←hp3];exact cW _ e
 have keep3:∀b o,s3.heap.get? b=some o→h₁.get? b=some o:=fun b o e=>hsb₁.extBut b o (by rw[←hC];exact Gf (FM e)) (cW _ e)
 have st3:tn 0 s3.heap:=T.keep _ _ _ st2 fun b _ o e=>keep2 b o e
 have st4:tn 0 h₁:=T.keep _ _ _ st3 fun b _ o e=>keep3 b o e
 have fp3:∀b∈fp,H3 b=none∧b<C:=fun b hb=>by
  obtain⟨o,e,_⟩:=T.obj _ _ st2 b hb
  refine⟨?_,by rw[←hC];exact FM (keep2 b o e)⟩
  rw[←hH3,al (by rw[←hD];exact Gf (FM e))]
  exact(f2 b hb).1
 have hcells:∀{z:Str}{c:Addr},(dc scope.names X.env.cells []).lookup z=some c→X.env.cells.lookup z=some c:=fun h=>lW (fun _ _ q=>by cases q) h
 have hX:(bp X scope C (x::ys) s3 H3 fp).Ok:=by
  refine⟨I3.ok.mod,S.kind,I3.ok.glob,I3.ok.blt,JR hC,fun y z c h1 h2=>I3.ok.inj y z c (hcells h1) (hcells h2),fun y hy=>?_,fun y c h _=>absurd (show false=true from h) FZ,I3.ok.hd,I3.ok.frames,.inl rfl,fun b hb=>⟨Gf (fp3 b hb).2,fun y c h=>(f2 b hb).2.2.2.2.1 y c (hcells h)⟩,fun b o e=>I3.bs b o e,Gk I3.ok.bsz I3.sz,fun b o e hb=>?_,fun b hb z=>?_,I3.stack,I3.stkFree⟩
  ·have hy:(relabel scope X.env).names.lookup y=some .cell∨(relabel scope X.env).names.lookup y=some .free:=hy
   have hm:(y,HN)∈scope.names:=by
    rcases hy with q|q
    ·exact gO S.nocell q (.inl rfl)
    ·exact gO S.nocell q (.inr rfl)
   have hs:∃c,X.env.cells.lookup y=some c:=by
    by_cases hk:X.env.kindOf y=some .cell∨X.env.kindOf y=some .free
    ·exact I3.ok.has y hk
    ·exact absurd (lG hcap (S.all _ hm rfl)) hk
   exact GO.mp (iE hm (GO.mpr hs))
  ·rcases(f2 b hb).2.2.2.1 with z|z
   ·exact I3.ok.noex b o e z
   ·exact absurd (Ge (FM e) (Gk I3.ok.bsz z)) (GP _)
  ·rcases Gh.mp (I3.stkSub b z)with q|q
   ·exact(f2 b hb).2.1 q
   ·exact(f2 b hb).2.2.1 q
 have I4:Inv (bp X scope C (x::ys) s3 H3 fp) [] (none::bz σ is) H3 {s2 with heap:=h₁,toks:=s2.toks+([]:List (Str×tx)).length}:=by
  obtain⟨m3,hm3,hl3⟩:=id I3.loc
  refine⟨hX,?_,?_,Un.kept keep3,⟨_,hns₁,fun i y v e1 e2 e3=>?_⟩,fun y c e=>?_,?_,fun y c e=>I3.freeC y c (hcells e),fun p hp=>absurd (show p∈([]:List (Addr×Obj))from hp) (by simp),I3.hok.kept keep3,?_⟩
  ·show s2.os=s3.os
   rw[←hs3]
  ·have:=I2.bare;exact this
  ·cases i with
   |zero=>simp at e2
   |succ j=>
    obtain⟨u,r,hfr,c,ec,ic⟩:=sV hcap hl3 trivial j y v (by have e1':(x::ys)[j+1]? =some y:=e1;simpa using e1') (by simpa using e2)
    have hk:=om (env:=X.env) hfr
    obtain⟨c',ec'⟩:=GO.mp (iE (cs:=[]) (jS hfr) (by rw[ec];rfl) (cells:=X.env.cells))
    have:c'=c:=by have:=hcells ec';rw[ec]at this;exact(FY this).symm
    subst this
    obtain⟨o,ho,hd⟩:=ic
    exact⟨u,r,.inr ⟨hk,c',ec',o,keep3 _ _ ho,hd⟩⟩
  ·obtain⟨v,o,ho,hd⟩:=I3.cell y c (hcells e)
   exact⟨v,o,keep3 _ _ ho,hd⟩
  ·have:=I3.hok.fresh (a:=C) (JR hC)
   exact this
  ·have:=ul hcap
   show(none::bz σ is).length=(x::ys).length
   simp[bz,this]
 have lenσ:∀v:Option V,(v::bz σ is).set 0=fun w=>w::bz σ is:=fun v=>rfl
 have hown:(relabel scope X.env).names.lookup x=some .local:=mj S.own
 have loop:codeAny (model X.prog X.w) X.A (.compLoop (.ListComp elt [⟨.Name x px,iter,ifs,0⟩] scope pos) 0 (.ref it) (.ref D) (compEnvC scope (dc scope.names X.env.cells []) C X.env)) (RR (.ref D) C)
   {s2 with heap:=h₁,toks:=s2.toks+([]:List (Str×tx)).length}:=by
  have fin:∀{H':Hp}{v:Option V}{s':FI},Inv (bp X scope C (x::ys) s3 H3 fp) [] (v::bz σ is) H' s'→Q (.ref D) H'→RR (.ref D) C (.ok .next) s':=fun{H' v s'} J q=>by
   obtain⟨m',hm',_⟩:=J.loc
   have hCL:C≠X.env.locals:=Gt (by rw[←hC];exact Gf I3.lt)
   have back:∀h',HU C s'.heap h'→Inv X pins σ H' {s' with heap:=h'}:=fun h' hs'=>by
    have os':s'.os=s3.os:=J.os
    refine I3.call' (s':={s' with heap:=h'}) (ch:=fp) os' ⟨fun b o e n hb hx=>?_,fun b o e n hb hx=>?_,fun b o e n hx=>J.base.free b o e n hx,fun b o e hx=>?_,J.base.tups,J.base.frzs,J.base.tbls⟩ (fun b o e=>?_) J.bare fun b hb=>?_
    ·exact hs'.extBut b o (by rw[←hC];exact Gf (FM e)) (J.base.keep b o e n hb hx)
    ·obtain⟨sl,e1⟩:=J.base.slot b o e n hb hx
     exact⟨sl,hs'.extBut b _ (by rw[←hC];exact Gf (FM e)) e1⟩
    ·obtain⟨o',e1⟩:=J.base.there b o e hx
     exact⟨o',hs'.extBut b _ (by rw[←hC];exact Gf (FM e)) e1⟩
    ·refine(J.hok b o e).stay (fun c w' hc q=>(hs'.2 c ?_).trans q) (fun _ q=>q) fun _ _ q=>q
     have fC:H' C=none:=J.free
     rintro rfl
     rcases hc with rfl|hc
     ·rw[fC]at e;cases e
     ·rw[fC]at hc;cases hc
    ·obtain⟨_,a1,_,a2,a3,a4⟩:=f2 b hb
     exact⟨a2,a1,a3,a4⟩
   refine hRR D C H' s' ⟨by rw[←hC];exact I3.sz,fun p hp=>by rw[←hC];exact Gf (FM (I3.pin p hp).1)⟩ ⟨m',hm'⟩ hCL J.free ?_ back q
   have:=back s'.heap (.refl ..)
   exact this
  have stat:∀{H':Hp},(∀b∈fp,H' b=none)→∀b∈fp,iT (bp X scope C (x::ys) s3 H3 fp) [] H' b:=fun hn b hb=>by
   obtain⟨_,a1,a5,a2,a3,a4⟩:=f2 b hb
   refine⟨hn b hb,Gf (fp3 b hb).2,fun z=>?_,.inl hb,fun y c e=>a3 y c (hcells e),fun p hp=>absurd (show p∈([]:List (Addr×Obj))from hp) (by simp)⟩
   rcases Gh.mp (I3.stkSub b z)with q|q
   ·exact a1 q
   ·exact a5 q
  have turnAt:∀n s,(∃i v ys' H',Inv (bp X scope C (x::ys) s3 H3 fp) [] (v::bz σ is) H' s∧tn i s.heap∧(∀b∈fp,H' b=none)∧W i n ys' H')→
    wpAny (model X.prog X.w) X.A (pyNext (.ref it)) (fun r s₁=>match r with
     |none=>RR (.ref D) C (.ok .next) s₁
     |some u=>wpAny (model X.prog X.w) X.A (letOwnedTupleGo (.Name x px) (.ref it) u) (fun _ s₁=>wpAny (model X.prog X.w) X.A (assign (.Name x px) (compEnvC scope (dc scope.names X.env.cells []) C X.env) u) (fun _ s₂=>
      ∃(xx:V)(i:Nat)(ys':List V)(H3' H6:Hp)(pl:List (Addr×Obj)),Inv (bp X scope C (x::ys) s3 H3 fp) ([]++pl) (some xx::bz σ is) H6 s₂∧
       (∀s7 v7 H7,Inv (bp X scope C (x::ys) s3 H3 fp) ([]++pl) (v7::bz σ is) H7 s7→Inv (bp X scope C (x::ys) s3 H3 fp) [] (v7::bz σ is) H7 s7∧tn (i+1) s7.heap∧∀b∈fp,H7 b=none)∧
       (tc (some xx::bz σ is) H6 fun b H4=>if b=true then te (some xx::bz σ is) H4 fun y H5=>H5 D=some (.lst ys')∧ys'.length<sizeLine∧∃m',m'<n∧W (i+1) m' (ys'++[y]) (upd H5 D (.lst (ys'++[y])))
        else ∃m',m'<n∧W (i+1) m' ys' H4)) (fun _ _=>False) s₁) (fun _ _=>False) s₁) (fun _ _=>False) s:=by
   rintro n s ⟨i,v,ys',H',J,st,fr,w'⟩
   rcases turn i n ys' H' w' with⟨stop,qn⟩|⟨go,step⟩
   ·refine thn (T.done (bp X scope C (x::ys) s3 H3 fp) rfl rfl rfl hc i [] s _ H' (fun _ _=>False) J (stat fr) st stop) fun r s4 ⟨hr,J4⟩=>?_
    subst hr
    exact fin J4 qn
   ·refine thn (T.item (bp X scope C (x::ys) s3 H3 fp) rfl rfl rfl hc i [] s _ H' (fun _ _=>False) J (stat fr) st go) fun r s4 ⟨u,hr,h4⟩=>?_
    subst hr
    refine thn h4 fun _ s5 ⟨xx,H5,J5,r5,y5,st5,fr5⟩=>?_
    have J5':=J5.pinned (stat fr5) (T.obj _ _ st5)
    refine KO (fZ (i:=0) J5' S.nd rfl (.inl hown) r5 (fun s6 J6=>?_) (.inr hown))
    refine⟨xx,i,ys',H5,H5,iO fp s5.heap,J6,fun s7 v7 H7 J7=>⟨J7.unpinned,T.keep _ _ _ st5 fun b hb o e=>(J7.pin (b,o) (Gz _ (Gz _ (fM hb e)))).1,fun b hb=>?_⟩,step xx H5 y5⟩
    obtain⟨o,e,d⟩:=T.obj _ _ st5 b hb
    exact(J7.pin (b,o) (Gz _ (Gz _ (fM hb e)))).2.1
  have start0:∃i v ys' H',Inv (bp X scope C (x::ys) s3 H3 fp) [] (v::bz σ is) H' {s2 with heap:=h₁,toks:=s2.toks+([]:List (Str×tx)).length}∧tn i h₁∧(∀b∈fp,H' b=none)∧W i m0 ys' H':=
   ⟨0,none,[],H3,I4,st4,fun b hb=>(fp3 b hb).1,w0⟩
  have emit:∀(n:Nat)(xx:V)(i:Nat)(ys':List V)(H4:Hp)(pl:List (Addr×Obj))(s₂:FI),Inv (bp X scope C (x::ys) s3 H3 fp) ([]++pl) (some xx::bz σ is) H4 s₂→
    (∀s7 v7 H7,Inv (bp X scope C (x::ys) s3 H3 fp) ([]++pl) (v7::bz σ is) H7 s7→Inv (bp X scope C (x::ys) s3 H3 fp) [] (v7::bz σ is) H7 s7∧tn (i+1) s7.heap∧∀b∈fp,H7 b=none)→
    (te (some xx::bz σ is) H4 fun y H5=>H5 D=some (.lst ys')∧ys'.length<sizeLine∧∃m',m'<n∧W (i+1) m' (ys'++[y]) (upd H5 D (.lst (ys'++[y]))))→
    wpAny (model X.prog X.w) X.A (eval elt (compEnvC scope (dc scope.names X.env.cells []) C X.env)) (fun y s₃=>wpAny (model X.prog X.w) X.A (call (.builtin "list.append") [.ref D,y]) (fun _ s₄=>
     ∃m,m<n∧∃i v ys' H',Inv (bp X scope C (x::ys) s3 H3 fp) [] (v::bz σ is) H' s₄∧tn i s₄.heap∧(∀b∈fp,H' b=none)∧W i m ys' H') (fun _ _=>False) s₃) (fun _ _=>False) s₂:=by
   intro n xx i ys' H4 pl s₂ J2 back q
   refine thn (he C s3 H3 fp ([]++pl) s₂ _ H4 _ J2 q) fun y s₃ ⟨yv,H5,J3,r3,q1,q2,q3⟩=>?_
   refine thn (bi (X:=bp X scope C (x::ys) s3 H3 fp) ([]++pl) s₃ _ H5 (.ref D) [yv] (.ref D) [y] (fun v H7=>v=.non∧H7=upd H5 D (.lst (ys'++[yv]))) J3 rfl (.cons r3 .nil) ⟨D,ys',yv,rfl,rfl,q1,q2,rfl,rfl⟩) fun _ s₄ ⟨_,H7,J4,_,_,e7⟩=>?_
   subst e7
   obtain⟨m',hm',w'⟩:=q3
   obtain⟨b1,b2,b3⟩:=back s₄ _ _ J4
   exact⟨m',hm',i+1,some xx,ys'++[yv],_,b1,b2,b3,w'⟩
  have ex0:∀{α:Type}{t:Sem α}{Q':α→FI→Prop}{E':tx→FI→Prop}{s:FI},wpAny (model X.prog X.w) X.A t Q' (fun _ _=>False) s→wpAny (model X.prog X.w) X.A t Q' E' s:=fun h=>Gj h (fun _ _ q=>q) fun _ _ q=>q.elim
  cases ifs with
  |nil=>
   have htc:tc=fun _ H Q=>Q true H:=hif C s3 H3 fp
   subst htc
   refine iz (fun n s=>∃i v ys' H',Inv (bp X scope C (x::ys) s3 H3 fp) [] (v::bz σ is) H' s∧tn i s.heap∧(∀b∈fp,H' b=none)∧W i n ys' H') (fun n s hI=>?_) m0 start0
   refine Gj (turnAt n s hI) (fun r s₁ h₁=>?_) fun _ _ q=>q.elim
   cases r with
   |none=>exact h₁
   |some u=>
    refine Gj h₁ (fun _ s₁ h₁=>Gj h₁ (fun _ s₂ h₂=>?_) fun _ _ q=>q.elim) fun _ _ q=>q.elim
    obtain⟨xx,i,ys',_,H6,pl,J2,back,q⟩:=h₂
    dsimp only at q
    rw[if_pos rfl]at q
    exact Gj (emit n xx i ys' H6 pl s₂ J2 back q) (fun y s₃ h₃=>ex0 h₃) fun _ _ q=>q.elim
  |cons c r0=>
   cases r0 with
   |cons _ _=>exact(hif C s3 H3 fp).elim
   |nil=>
    have hpt:PT (bp X scope C (x::ys) s3 H3 fp) c tc:=hif C s3 H3 fp
    refine ix (fun n s=>∃i v ys' H',Inv (bp X scope C (x::ys) s3 H3 fp) [] (v::bz σ is) H' s∧tn i s.heap∧(∀b∈fp,H' b=none)∧W i n ys' H') (fun n s hI=>?_) m0 start0
    refine Gj (turnAt n s hI) (fun r s₁ h₁=>?_) fun _ _ q=>q.elim
    cases r with
    |none=>exact h₁
    |some u=>
     refine Gj h₁ (fun _ s₁ h₁=>Gj h₁ (fun _ s₂ h₂=>?_) fun _ _ q=>q.elim) fun _ _ q=>q.elim
     obtain⟨xx,i,ys',_,H6,pl,J2,back,q⟩:=h₂
     refine Gj (hpt ([]++pl) s₂ _ H6 _ J2 q) (fun b s₃ h₃=>?_) fun _ _ q=>q.elim
     obtain⟨H4,J4,q4⟩:=h₃
     cases b with
     |true=>
      rw[if_pos rfl]at q4⊢
      exact Gj (emit n xx i ys' H4 pl s₃ J4 back q4) (fun y s₃ h₃=>ex0 h₃) fun _ _ q=>q.elim
     |false=>
      rw[if_neg FZ]at q4⊢
      obtain⟨m',hm',w'⟩:=q4
      obtain⟨b1,b2,b3⟩:=back s₃ _ _ J4
      exact⟨m',hm',i+1,some xx,ys',_,b1,b2,b3,w'⟩
 exact codeAny_compStart_list loop (T.self X.A 0 _ _ _ st4 loop)
end
section
variable {X:Cx}
theorem pC {scope:Scope}{x:Str}{ys:List Str}{is:List Nat}(ok:X.Ok)(S:eG scope x ys)(hcap:fG X scope ys is):closureFor scope X.env=pure (dc scope.names X.env.cells []):=
 ny fun y hy hk=>by
  obtain⟨c,e⟩:=ok.has y.1 (lG hcap (S.all y hy hk))
  rw[e];rfl
theorem xG {elt iter:Expr}{ifs:List Expr}{x:Str}{px pos:Pos}{scope:Scope}{ys:List Str}{is:List Nat}{wi:TI}{tc:TT}{te:TE}
  (hc:X.calm=true)(S:eG scope x ys)(hcap:fG X scope ys is)(hi:PI X (.Name x px) iter wi)
  (hif:∀C s H fp,qa (bp X scope C (x::ys) s H fp) ifs tc)(he:∀C s H fp,PE (bp X scope C (x::ys) s H fp) elt te)
  (hs:∀x,foldedSetIterable iter X.env x=pure x:=by intro _;rfl):PE X (.ListComp elt [⟨.Name x px,iter,ifs,0⟩] scope pos) (dW is wi tc te):=by
 intro pins s σ H Q I h
 rw[eval_ListComp]
 refine Mh (use:=none) rfl hs (pC I.ok S hcap) S.kind S.names (thn (hi pins s σ H _ I h) fun v s1 h1=>thn h1 fun itv s2 h2=>?_)
 obtain⟨it,fp,tn,J,H2,rfl,I2,T,st2,f2,hW⟩:=h2
 refine lV (RR:=fun acc C=>compPost (model X.prog X.w) X.A X.xe none (EP X pins σ Q) acc C) hc S hcap hif he I2 T st2 f2 hW ?_
 intro D C H' s' hlt hns hne hfr I' back q
 obtain⟨m,hm⟩:=hns
 exact⟨m,hm,fun h' hs'=>⟨.ref D,H',back h' hs',rfl,q⟩⟩
theorem qj {elt iter:Expr}{ifs:List Expr}{x y:Str}{px py pos spos:Pos}{scope:Scope}{ys:List Str}{is:List Nat}{wi:TI}{tc:TT}{te:TE}{j:Nat}
  (hN:X.N.Nodup)(hj:X.N[j]?=some y)(hy:Loc X.env.scope y)
  (hc:X.calm=true)(S:eG scope x ys)(hcap:fG X scope ys is)(hi:PI X (.Name x px) iter wi)
  (hif:∀C s H fp,qa (bp X scope C (x::ys) s H fp) ifs tc)(he:∀C s H fp,PE (bp X scope C (x::ys) s H fp) elt te)
  (hsw:swapsWith (.ListComp elt [⟨.Name x px,iter,ifs,0⟩] scope pos) (some (.Name y py)) spos.line X.env=pure true:=by rfl)
  (hf:X.fn y=true∨X.env.scope.names.lookup y=some .local:=by first|exact .inl rfl|exact .inr rfl|assumption)
  (hs:∀x,foldedSetIterable iter X.env x=pure x:=by intro _;rfl):PS X (.Assign [.Name y py] (.ListComp elt [⟨.Name x px,iter,ifs,0⟩] scope pos) spos) (aB (dW is wi tc te) (aw j)):=by
 intro pins s σ H D I h
 rw[exec_Assign_Name_used _ _ _ _ hsw]
 refine ah (Kz (ah ?_))
 show wpAny _ X.A (do let _←comprehension (.ListComp elt [⟨.Name x px,iter,ifs,0⟩] scope pos) scope X.env _ (newList []) false (eval iter X.env) (some (assign (.Name y py) X.env))) _ _ s
 refine ah (Gj (Mh (use:=some (assign (.Name y py) X.env)) (Q:=fun _ s'=>SP X pins D .next s') rfl hs (pC I.ok S hcap) S.kind S.names
  (thn (hi pins s σ H _ I h) fun v s1 h1=>thn h1 fun itv s2 h2=>?_)) (fun _ s' hq=>FK (FK hq)) fun _ _ e=>e)
 obtain⟨it,fp,tn,J,H2,rfl,I2,T,st2,f2,hW⟩:=h2
 refine lV (Q:=fun x H1=>aw j x σ H1 D.nx) (RR:=fun acc C=>compPost (model X.prog X.w) X.A X.xe (some (assign (.Name y py) X.env)) (fun _ s'=>SP X pins D .next s') acc C) hc S hcap hif he I2 T st2 f2 hW ?_
 intro Da C H' s' hlt hns hne hfr I' back q
 show wpAny _ X.A (assign (.Name y py) X.env (.ref Da)) _ _ _
 obtain⟨m,hm⟩:=hns
 refine KO (lZ I' hN hj hy (v:=.ref Da) rfl (fun s2 I2' ⟨a,hsb,ha⟩=>?_) hf)
 have hCa:C≠a:=by
  rcases ha with e|e
  ·rw[e];exact hne
  ·rintro rfl
   obtain⟨v,o,ho,hd⟩:=I'.cell y C e
   obtain⟨o2,es,ep,ho2,hd2,_⟩:=hm
   rw[ho]at ho2;cases ho2;rw[hd]at hd2;cases hd2
 refine⟨m,hm.sameBut hsb hCa,fun h' hs'=>?_⟩
 have hCn:∀y c,X.env.cells.lookup y=some c→c≠C:=fun z c e q=>by
  subst q
  obtain⟨v,o,ho,hd⟩:=I'.cell z c e
  obtain⟨o2,es,ep,ho2,hd2,_⟩:=hm
  rw[ho]at ho2;cases ho2;rw[hd]at hd2;cases hd2
 have I3:Inv X pins (σ.set j (some (.ref Da))) H' {s2 with heap:=h'}:=by
  refine I2'.step (g':=s2.gens) (d':=s2.drawn) (t':=s2.toks) (ch:=[C]) (fun b hb=>?_) (fun b o _ _ hb e _=>(hs'.2 b (fun z=>hb (by simp[z]))).trans e) (fun b o _ _ hb e _=>⟨o.slots,(hs'.2 b (fun z=>hb (by simp[z]))).trans e⟩) (fun _ _ _ _ n=>n) (fun b o hb e=>⟨o,(hs'.2 b (fun z=>hb (by simp[z]))).trans e⟩)
   (fun _ _ e=>e) (fun _ _ _ e=>e) (fun b ps e=>⟨#[],by rw[e];simp⟩) (fun m' hm'=>hm'.sameBut hs' (Gt hne)) (fun b o e=>?_) I2'.bare
  ·have e:b=C:=by simpa using hb
   subst e
   exact⟨.inr hlt.1,hne,fun z c e=>hCn z c e,hlt.2⟩
  ·refine(I2'.hok b o e).stay (fun c w' hc q=>(hs'.2 c ?_).trans q) (fun _ q=>q) fun _ _ q=>q
   rintro rfl
   rcases hc with rfl|hc
   ·rw[hfr]at e;cases e
   ·rw[hfr]at hc;cases hc
 exact⟨_,H',I3,q⟩
end
def tyN (H:Hp):V→Option String
 |.non=>some "NoneType"
 |.bl _=>some "bool"
 |.int _=>some "int"
 |.str _=>some "str"
 |.ref a=>match H a with
  |some (.lst _)=>some "list"
  |some (.frz _ (.lst _))=>some "list"
  |some (.tup _)=>some "tuple"
  |some (.dK _)=>some "dict"
  |some (.dT _)=>some "dict"
  |_=>none
 |_=>none
theorem zw {K:pz}{H:Hp}{x:V}{t:String}(h:tyN H x=some t):eV K H x (.type t):=by
 cases x with
 |non=>cases h;exact .non
 |bl b=>cases h;exact .bl b
 |int i=>cases h;exact .int i
 |str x=>cases h;exact .str x
 |byt _=>cases h
 |flt _=>cases h
 |ty _=>cases h
 |ref a=>
  unfold tyN at h
  dsimp only at h
  split at h
  ·rename_i e;cases h;exact .lst e
  ·rename_i e;cases h;exact .frz e
  ·rename_i e;cases h;exact .tup e
  ·rename_i e;cases h;exact .dK e
  ·rename_i e;cases h;exact .dT e
  ·cases h
def tyL:List String:=["NoneType","bool","int","str","list","tuple","dict"]
theorem zC {H:Hp}{x:V}{t:String}(h:tyN H x=some t):t∈tyL:=by
 cases x with
 |non=>cases h;decide
 |bl b=>cases h;decide
 |int i=>cases h;decide
 |str x=>cases h;decide
 |byt _=>cases h
 |flt _=>cases h
 |ty _=>cases h
 |ref a=>
  unfold tyN at h
  dsimp only at h
  split at h<;>first|(cases h;decide)|cases h
def isI (t T:String):Bool:=t==T||(T=="int"&&t=="bool")
theorem ye (K:pz):∀t∈tyL,∀T∈["int","bool","str","tuple","list","dict"],W.kitOne K (.type t) (.type T)=some (isI t T):=by
 intro t ht T hT
 simp only[tyL,Gh,Ha,or_false]at ht hT
 rcases ht with rfl|rfl|rfl|rfl|rfl|rfl|rfl<;>rcases hT with rfl|rfl|rfl|rfl|rfl|rfl<;>(unfold W.kitOne;first|rfl|decide+kernel|(simp only[W.kitCls];rfl))
section
variable {X:Cx}
theorem ur:bH X (.builtin "isinstance") (fun xs H Q=>∃x T t,xs=[x,.ty T]∧T∈["int","bool","str","tuple","list","dict"]∧tyN H x=some t∧Q (.bl (isI t T)) H):=by
 intro pins s σ H xs us Q I r h
 obtain⟨x,T,t,rfl,hT,ht,q⟩:=h
 obtain⟨u,w',rfl,r1,r2⟩:=kE r
 cases r2
 exact sU I r1 (zw ht) (ye X.K t (zC ht) T hT) fun tk=>⟨.bl _,H,I.tok tk,rfl,q⟩
end
section
variable {X:Cx}
theorem pA:∀{bs:List Bool}{us:List tx},aJ (bs.map V.bl) us→us=bs.map HA
 |[],_,.nil=>rfl
 |b::bs,_,.cons r t=>by
  have e:_=HA b:=r
  rw[pA t,Gw,e]
theorem sT (bs:List Bool):(Kr bs.length).all (fun i=>bs.getD i false)=bs.all id:=by
 rw[Jd,Ht,Ht]
 constructor
 ·intro h b hb
  obtain⟨i,hi,e⟩:=Md.mp hb
  have:=h i (JX.mpr hi)
  simp only[Gp,FQ hi,MB]at this
  rw[←e];exact this
 ·intro h i hi
  have hi:=JX.mp hi
  simp only[Gp,FQ hi,MB]
  exact h _ (Ky hi)
theorem oF {prog:Gd}{w:GH}{A:GC}{bs:List Bool}:TruthOf prog w A (fun i v=>(bs.map HA).toArray[i]? =some v) (fun i=>bs.getD i false):=by
 intro i v s Q E hP hQ
 have hP:(bs.map HA)[i]? =some v:=by simpa using hP
 rw[GD]at hP
 cases e:bs[i]? with
 |none=>rw[e]at hP;cases hP
 |some b=>
  rw[e]at hP
  cases hP
  have hQ':Q b s:=by
   have e2:bs.getD i false=b:=by rw[Gp,e];rfl
   have hQ2:Q (bs.getD i false) s:=hQ
   rw[e2]at hQ2;exact hQ2
  exact Ig (a:=b) rfl hQ'
theorem uW (hc:X.calm=true):bH X (.builtin "all") (fun xs H Q=>∃(a:Addr)(bs:List Bool),xs=[.ref a]∧H a=some (.lst (bs.map V.bl))∧Q (.bl (bs.all id)) H):=by
 intro pins s σ H xs us Q I r h
 obtain⟨a,bs,rfl,hH,q⟩:=h
 obtain⟨u,rfl,ru⟩:=fK r
 cases ru
 obtain⟨z,its,n,rv,e⟩:=I.hok a _ hH
 have ei:=pA rv
 subst ei
 have hl:s.heap.IsList a (bs.map HA).toArray:=⟨_,e,rfl,_,rfl⟩
 refine call_all_walk (KM hl ?_)
 have hne:a≠s.heap.objs.size:=Gf (FM e)
 refine⟨s.heap.objs.size,_,_,_,_,_,_,rfl,Walks.list (by show X.A.handled=none;exact I.ok.hd hc) _ a hne (bs.map HA).toArray,⟨⟨_,FO _ rfl,rfl,rfl⟩,⟨_,cW _ e,rfl,_,rfl⟩⟩,oF,fun h' tk hk=>?_⟩
 have e2:((bs.map HA).toArray).size=bs.length:=by simp
 rw[e2,sT]
 refine⟨.bl _,H,I.kept (t':=tk) fun b o hb=>hk b o ?_ (cW _ hb),rfl,q⟩
 intro z
 have:b=s.heap.objs.size:=by simpa using z
 rw[this]at hb
 exact absurd (FM hb) (GP _)
end
@[irreducible] def Sel (b:Bool)(A B:Prop):Prop:=if b=true then A else B
theorem Sel.mk {b:Bool}{A B:Prop}(h1:b=true→A)(h2:b=false→B):Sel b A B:=by
 unfold Sel
 cases b with
 |true=>exact h1 rfl
 |false=>exact h2 rfl
theorem Sel.t {A B:Prop}(h:A):Sel true A B:=.mk (fun _=>h) fun e=>by cases e
theorem Sel.f {A B:Prop}(h:B):Sel false A B:=.mk (fun e=>by cases e) fun _=>h
theorem Sel.dec {p A B:Prop}[Decidable p](h1:p→A)(h2:¬p→B):Sel (decide p) A B:=.mk (fun e=>h1 (of_decide_eq_true e)) fun e=>h2 (of_decide_eq_false e)
theorem Sel.ndec {p A B:Prop}[Decidable p](h1:¬p→A)(h2:p→B):Sel (!decide p) A B:=.mk (fun e=>h1 (by simpa using e)) fun e=>h2 (by simpa using e)
theorem Sel.yes {b:Bool}{A B:Prop}(e:b=true)(h:A):Sel b A B:=by rw[e];exact .t h
theorem Sel.no {b:Bool}{A B:Prop}(e:b=false)(h:B):Sel b A B:=by rw[e];exact .f h
theorem cq {b:Bool}{A B:Prop}(h:Sel b A B):if b=true then A else B:=by unfold Sel at h;exact h
def ae (i:Nat):TE:=fun σ H Q=>match σ[i]? with|some (some v)=>Q v H|_=>False
section
variable {X:Cx}
theorem PE.imp {e:Expr}{t t':TE}(h:PE X e t)(i:∀σ H Q,t' σ H Q→t σ H Q):PE X e t':=fun pins s σ H Q I q=>h pins s σ H Q I (i _ _ _ q)
theorem OpR.imp {f:tx→tx→Sem tx}{r r':R2}(h:OpR X f r)(i:∀x y H Q,r' x y H Q→r x y H Q):OpR X f r':=fun pins s σ H x y v u Q I rx ry q=>h pins s σ H x y v u Q I rx ry (i _ _ _ _ q)
theorem qv (i:Nat){x:Str}{pos:Pos}(hN:X.N[i]?=some x:=by rfl)(hv:Vis X.env.scope x:=by first|exact Or.inl rfl|exact MU (Or.inl rfl)|exact MU (MU rfl))(hd:(x==("__debug__":Str))=false:=by decide)
  (hcd:(x==("__classdict__":Str))=false:=by decide):PE X (.Name x pos) (ae i):=(zR hN hv hd hcd).imp fun σ H Q q=>by
 unfold ae at q
 split at q
 ·rename_i v e;exact⟨v,e,q⟩
 ·exact q.elim
def cY:R2:=fun x y H Q=>match x,y with|.int i,.int j=>Q (.int (i- j)) H|_,_=>False
theorem dv:OpR X (binaryOp .Sub) cY:=zK.imp fun x y H Q q=>by
 unfold cY at q
 split at q
 ·exact⟨_,_,rfl,rfl,q⟩
 ·exact q.elim
theorem xI:OpR X (binaryOp .Mult) (rI IntMulOk fun i j=>.int (i*j)):=opI fun _ _ _ _ _ _ _ hc q=>mul_int q hc
def vo:R2:=fun x y H Q=>match x,y with
 |.int i,.int j=>IntMulOk i j∧Q (.int (i*j)) H
 |_,_=>False
theorem DP:OpR X (binaryOp .Mult) vo:=xI.imp fun x y H Q q=>by
 unfold vo at q
 split at q
 ·exact⟨_,_,rfl,rfl,q.1,q.2⟩
 ·exact q.elim
def fg:R2:=fun x y H Q=>match x,y with|.int i,.int j=>0<j∧Q (.int (i%j)) H|_,_=>False
theorem gY:OpR X (binaryOp .Mod) fg:=yA.imp fun x y H Q q=>by
 unfold fg at q
 split at q
 ·exact⟨_,_,rfl,rfl,q.1,q.2⟩
 ·exact q.elim
def uL:R2:=fun x y H Q=>match x,y with|.int i,.int j=>(0≤j∧j≤1000000∧i.natAbs<2^64)∧Q (.int (i^j.toNat)) H|_,_=>False
theorem EY:OpR X (binaryOp .Pow) uL:=zv.imp fun x y H Q q=>by
 unfold uL at q
 split at q
 ·exact⟨_,_,rfl,rfl,q.1,q.2⟩
 ·exact q.elim
def qz:R2:=fun x y H Q=>match x,y with|.int i,.int j=>(0≤j∧j≤1000000∧i.natAbs<2^64)∧Q (.int (i*2^j.toNat)) H|_,_=>False
theorem zc:OpR X (binaryOp .LShift) qz:=xS.imp fun x y H Q q=>by
 unfold qz at q
 split at q
 ·exact⟨_,_,rfl,rfl,q.1,q.2⟩
 ·exact q.elim
def mLt:R2:=fun x y H Q=>match x,y with|.int i,.int j=>Q (.bl (decide (i<j))) H|_,_=>False
theorem oLt:OpR X (compareOp .Lt) mLt:=Ci.imp fun x y H Q q=>by
 unfold mLt at q
 split at q
 ·exact⟨_,_,rfl,rfl,q⟩
 ·exact q.elim
def mLe:R2:=fun x y H Q=>match x,y with|.int i,.int j=>Q (.bl (decide (i≤j))) H|_,_=>False
theorem oLe:OpR X (compareOp .LtE) mLe:=Dh.imp fun x y H Q q=>by
 unfold mLe at q
 split at q
 ·exact⟨_,_,rfl,rfl,q⟩
 ·exact q.elim
def mGt:R2:=fun x y H Q=>match x,y with|.int i,.int j=>Q (.bl (decide (j<i))) H|_,_=>False
theorem oGt:OpR X (compareOp .Gt) mGt:=Dw.imp fun x y H Q q=>by
 unfold mGt at q
 split at q
 ·exact⟨_,_,rfl,rfl,q⟩
 ·exact q.elim
def mEq:R2:=fun x y H Q=>match x,y with
 |.int i,.int j=>Q (.bl (decide (i=j))) H
 |.str i,.str j=>Q (.bl (decide (i=j))) H
 |.bl i,.bl j=>Q (.bl (decide (i=j))) H
 |.non,.non=>Q (.bl true) H
 |.non,.int _=>Q (.bl false) H|.int _,.non=>Q (.bl false) H|.non,.bl _=>Q (.bl false) H|.bl _,.non=>Q (.bl false) H|.non,.str _=>Q (.bl false) H|.str _,.non=>Q (.bl false) H
 |.int _,.str _=>Q (.bl false) H|.str _,.int _=>Q (.bl false) H|.bl _,.str _=>Q (.bl false) H|.str _,.bl _=>Q (.bl false) H
 |_,_=>False
theorem iL {α:Type}[DecidableEq α]{f:α→V}(hf:∀a b,f a=f b→a=b)(a b:α):decide (f a=f b)=decide (a=b):=by
 by_cases h:a=b
 ·subst h;simp
 ·rw[decide_eq_false h,decide_eq_false fun e=>h (hf a b e)]
theorem oEq:OpR X (compareOp .Eq) mEq:=BP.imp fun x y H Q q=>by
 unfold mEq at q
 split at q
 ·exact⟨rfl,by rw[iL (f:=V.int) fun _ _ e=>V.int.inj e];exact q⟩
 ·exact⟨rfl,by rw[iL (f:=V.str) fun _ _ e=>V.str.inj e];exact q⟩
 ·exact⟨rfl,by rw[iL (f:=V.bl) fun _ _ e=>V.bl.inj e];exact q⟩
 ·exact⟨rfl,by simpa using q⟩
 all_goals first|exact q.elim|exact⟨rfl,q⟩
def mNe:R2:=fun x y H Q=>match x,y with
 |.int i,.int j=>Q (.bl (!decide (i=j))) H
 |.str i,.str j=>Q (.bl (!decide (i=j))) H
 |.bl i,.bl j=>Q (.bl (!decide (i=j))) H
 |.non,.non=>Q (.bl false) H
 |.non,.int _=>Q (.bl true) H|.int _,.non=>Q (.bl true) H|.non,.bl _=>Q (.bl true) H|.bl _,.non=>Q (.bl true) H|.non,.str _=>Q (.bl true) H|.str _,.non=>Q (.bl true) H
 |.int _,.str _=>Q (.bl true) H|.str _,.int _=>Q (.bl true) H|.bl _,.str _=>Q (.bl true) H|.str _,.bl _=>Q (.bl true) H
 |_,_=>False
theorem oNe:OpR X (compareOp .NotEq) mNe:=Dy.imp fun x y H Q q=>by
 unfold mNe at q
 split at q
 ·exact⟨rfl,by rw[iL (f:=V.int) fun _ _ e=>V.int.inj e];exact q⟩
 ·exact⟨rfl,by rw[iL (f:=V.str) fun _ _ e=>V.str.inj e];exact q⟩
 ·exact⟨rfl,by rw[iL (f:=V.bl) fun _ _ e=>V.bl.inj e];exact q⟩
 ·exact⟨rfl,by simpa using q⟩
 all_goals first|exact q.elim|exact⟨rfl,q⟩
def vy:R2:=fun x y H Q=>match y with|.non=>Q (.bl (match x with|.non=>true|_=>false)) H|_=>False
theorem oIs:OpR X (compareOp .Is) vy:=xR.imp fun x y H Q q=>by
 unfold vy at q
 split at q
 ·refine⟨rfl,?_⟩
  cases x<;>simpa using q
 ·exact q.elim
def aP (t:TE):TT:=fun σ H Q=>t σ H fun x H'=>match x with|.bl k=>Q k H'|_=>False
theorem qtc {op:MS}{r:R2}{a b:Expr}{ta tb:TE}{pos:Pos}(ho:OpR X (compareOp op) r)(ha:PE X a ta)(hb:PE X b tb)(hm:behindInMarks op b=false:=by first|exact jN _|rfl):PT X (.Compare a [op] [b] pos) (aP (tOp r ta tb)):=by
 intro pins s σ H Q I h
 refine wpAny_isTrue_Compare1 (thn (ha pins s σ H _ I h) fun v s1 ⟨x,H1,I1,r1,q1⟩=>thn (hb pins s1 σ H1 _ I1 q1) fun u s2 ⟨y,H2,I2,r2,q2⟩=>
  thn (ho pins s2 σ H2 x y v u _ I2 r1 r2 q2) fun c s3 ⟨z,H3,I3,r3,q3⟩=>?_) hm
 cases z<;>first|exact q3.elim|(cases r3;exact HZ ⟨H3,I3,q3⟩)
theorem qc {op:MS}{r:R2}{a b:Expr}{ta tb:TE}{pos:Pos}(ho:OpR X (compareOp op) r)(ha:PE X a ta)(hb:PE X b tb)(hm:behindInMarks op b=false:=by first|exact jN _|rfl):PE X (.Compare a [op] [b] pos) (tOp r ta tb):=wR ho ha hb hm
def dE (r r':R2)(ta tb tc:TE):TE:=fun σ H Q=>ta σ H fun x H1=>tb σ H1 fun y H2=>r x y H2 fun z H3=>match z with
 |.bl k=>Sel k (tc σ H3 fun w' H4=>r' y w' H4 Q) (Q (.bl false) H3)
 |_=>False
theorem qch {op op':MS}{r r':R2}{a b c:Expr}{ta tb tc:TE}{pos:Pos}(ho:OpR X (compareOp op) r)(ho':OpR X (compareOp op') r')(ha:PE X a ta)(hb:PE X b tb)(hc:PE X c tc)
  (hm:lastMarks [op,op'] [b,c]=false:=by with_unfolding_all rfl):PE X (.Compare a [op,op'] [b,c] pos) (dE r r' ta tb tc):=by
 intro pins s σ H Q I h
 refine Compare_chain (thn (ha pins s σ H _ I h) fun v s1 ⟨x,H1,I1,r1,q1⟩=>chain_link (thn (hb pins s1 σ H1 _ I1 q1) fun u s2 ⟨y,H2,I2,r2,q2⟩=>
  thn (ho pins s2 σ H2 x y v u _ I2 r1 r2 q2) fun d s3 ⟨z,H3,I3,r3,q3⟩=>?_)) hm
 cases z<;>first|exact q3.elim|skip
 rename_i k
 cases r3
 refine HZ ?_
 have q3:=cq q3
 cases k with
 |false=>exact ite_ff ⟨.bl false,H3,I3,rfl,q3⟩
 |true=>exact ite_tt (chain_last (thn (hc pins s3 σ H3 _ I3 q3) fun w' s4 ⟨z',H4,I4,r4,q4⟩=>ho' pins s4 σ H4 y z' u w' Q I4 r2 r4 q4))
theorem ED {op op':MS}{r r':R2}{a b c:Expr}{ta tb tc:TE}{pos:Pos}(ho:OpR X (compareOp op) r)(ho':OpR X (compareOp op') r')(ha:PE X a ta)(hb:PE X b tb)(hc:PE X c tc)
  (hm:lastMarks [op,op'] [b,c]=false:=by with_unfolding_all rfl):PT X (.Compare a [op,op'] [b,c] pos) (aP (dE r r' ta tb tc)):=by
 intro pins s σ H Q I h
 refine isTrue_chain (thn (ha pins s σ H _ I h) fun v s1 ⟨x,H1,I1,r1,q1⟩=>test_link (thn (hb pins s1 σ H1 _ I1 q1) fun u s2 ⟨y,H2,I2,r2,q2⟩=>
  thn (ho pins s2 σ H2 x y v u _ I2 r1 r2 q2) fun d s3 ⟨z,H3,I3,r3,q3⟩=>?_)) hm
 cases z<;>first|exact q3.elim|skip
 rename_i k
 cases r3
 refine HZ ?_
 have q3:=cq q3
 cases k with
 |false=>exact ite_ff ⟨H3,I3,q3⟩
 |true=>
  refine ite_tt (test_last (thn (hc pins s3 σ H3 _ I3 q3) fun w' s4 ⟨z',H4,I4,r4,q4⟩=>thn (ho' pins s4 σ H4 y z' u w' _ I4 r2 r4 q4) fun d' s5 ⟨z2,H5,I5,r5,q5⟩=>?_))
  cases z2<;>first|exact q5.elim|(cases r5;exact HZ ⟨H5,I5,q5⟩)
def dZ (K:pz)(t:TE):TT:=fun σ H Q=>t σ H fun x H'=>match x with
 |.bl k=>Q k H'
 |.non=>Q false H'
 |.int i=>Q (i !=0) H'
 |x=>∃k,yI K x H' k∧Q k H'
theorem qtb {e:Expr}{t:TE}(h:PE X e t)(he:∀whole,isTrue e X.env whole=(do let v←whole;standAt e.pos;holding [v] (truthy v)):=by intro _;rfl):PT X e (dZ X.K t):=by
 intro pins s σ H Q I q
 refine isTrue_plain (thn (h pins s σ H _ I q) fun v s1 ⟨x,H1,I1,r1,q1⟩=>AI pins s1 σ H1 x v Q I1 r1 ?_) (he _)
 cases x<;>first|exact⟨_,rfl,q1⟩|exact q1
def uh (t u:TT):TT:=fun σ H Q=>t σ H fun c H1=>Sel c (u σ H1 Q) (Q false H1)
def mOr (t u:TT):TT:=fun σ H Q=>t σ H fun c H1=>Sel c (Q true H1) (u σ H1 Q)
variable {a b c:Expr}{ta tb:TE}{tA tB':TT}{bR:List Expr}{pos:Pos}
theorem xh (ha:PT X a tA):PW X (.BoolOp .And [a] pos) tA:=wU ha
theorem zG (ha:PT X a tA):PW X (.BoolOp .Or [a] pos) tA:=zL ha
theorem zZ (ha:PT X a tA)(hb:PW X (.BoolOp .And (b::bR) pos) tB'):PW X (.BoolOp .And (a::b::bR) pos) (uh tA tB'):=by
 intro wh pins s σ H Q I h
 refine isTrue_and (thn (ha pins s σ H _ I h) fun c s1 ⟨H1,I1,q1⟩=>?_)
 have q1:=cq q1
 cases c with
 |true=>exact hb wh pins s1 σ H1 Q I1 q1
 |false=>exact⟨H1,I1,q1⟩
theorem Bh (ha:PT X a tA)(hb:PW X (.BoolOp .Or (b::bR) pos) tB'):PW X (.BoolOp .Or (a::b::bR) pos) (mOr tA tB'):=by
 intro wh pins s σ H Q I h
 refine isTrue_or (thn (ha pins s σ H _ I h) fun c s1 ⟨H1,I1,q1⟩=>?_)
 have q1:=cq q1
 cases c with
 |true=>exact⟨H1,I1,q1⟩
 |false=>exact hb wh pins s1 σ H1 Q I1 q1
def cI (ta tb:TE):TE:=fun σ H Q=>ta σ H fun x H1=>match x with|.bl c=>Sel c (tb σ H1 Q) (Q (.bl false) H1)|_=>False
def pU (ta:TE):TE:=fun σ H Q=>ta σ H fun x H1=>match x with|.bl c=>Q (.bl (!c)) H1|_=>False
theorem EF (ha:PE X a ta)(hb:PE X (.BoolOp .And (b::bR) pos) tb):PE X (.BoolOp .And (a::b::bR) pos) (cI ta tb):=by
 intro pins s σ H Q I h
 refine BoolOp_and (thn (ha pins s σ H _ I h) fun v s1 ⟨x,H1,I1,r1,q1⟩=>?_)
 cases x<;>first|exact q1.elim|skip
 rename_i c
 cases r1
 refine HZ ?_
 have q1:=cq q1
 cases c with
 |true=>exact hb pins s1 σ H1 Q I1 q1
 |false=>exact⟨.bl false,H1,I1,rfl,q1⟩
theorem AQ (ha:PE X a ta):PE X (.UnaryOp .Not a pos) (pU ta):=by
 intro pins s σ H Q I h
 refine UnaryOp_ (thn (ha pins s σ H _ I h) fun v s1 ⟨x,H1,I1,r1,q1⟩=>?_)
 cases x<;>first|exact q1.elim|skip
 rename_i c
 cases r1
 exact not_of (HZ ⟨.bl (!c),H1,I1,rfl,q1⟩)
def mIf (t:TT)(ta tb:TE):TE:=fun σ H Q=>t σ H fun c H1=>Sel c (ta σ H1 Q) (tb σ H1 Q)
theorem Eh {c:Expr}(hc:PT X c tA)(ha:PE X a ta)(hb:PE X b tb):PE X (.IfExp c a b pos) (mIf tA ta tb):=by
 intro pins s σ H Q I h
 refine wpAny_IfExp (thn (hc pins s σ H _ I h) fun d s1 ⟨H1,I1,q1⟩=>?_)
 have q1:=cq q1
 cases d with
 |true=>exact ha pins s1 σ H1 Q I1 q1
 |false=>exact hb pins s1 σ H1 Q I1 q1
def bg (c:TT)(t u:TS):TS:=fun D σ H=>c σ H fun b H1=>Sel b (t D σ H1) (u D σ H1)
theorem qif {c:Expr}{l m:List Stmt}{tc:TT}{t u:TS}(hc:PT X c tc)(ha:PSs X l t)(hb:PSs X m u):PS X (.If c l m pos) (bg tc t u):=by
 intro pins s σ H D I h
 refine wpAny_If (thn (hc pins s σ H _ I h) fun d s1 ⟨H1,I1,q1⟩=>?_)
 have q1:=cq q1
 cases d with
 |true=>exact ha pins s1 σ H1 D I1 q1
 |false=>exact hb pins s1 σ H1 D I1 q1
theorem EZ:bH X (.builtin "len") (fun xs H Q=>match xs with
  |[.str y]=>y.length≤sizeLine∧Q (.int y.length) H
  |[.ref p]=>(∃xs,SqL X.K H p xs∧Q (.int xs.length) H)∨(∃xs,SqT X.K H p xs∧Q (.int xs.length) H)∨∃kvs,H p=some (.dK kvs)∧Q (.int kvs.length) H
  |_=>False):=by
 intro pins s σ H xs us Q I r h
 split at h
 ·rename_i y
  exact jy pins s σ H _ us Q I r ⟨_,_,rfl,⟨h.1,rfl⟩,h.2⟩
 ·rename_i p
  rcases h with⟨ys,h1,h2⟩|⟨ys,h1,h2⟩|⟨kvs,h1,h2⟩
  ·exact jy pins s σ H _ us Q I r ⟨_,_,rfl,.inl ⟨ys,h1,rfl⟩,h2⟩
  ·exact jy pins s σ H _ us Q I r ⟨_,_,rfl,.inr ⟨ys,h1,rfl⟩,h2⟩
  ·exact rM pins s σ H _ us Q I r ⟨p,kvs,rfl,h1,h2⟩
 ·exact h.elim
end
section
variable {X:Cx}{tg:Expr}
def fE:V→Hp→VK→Prop:=fun x H Q=>match x with|.int i=>Q (.int (-i)) H|_=>False
theorem EM:UnR X (unaryOp .USub) fE:=fun pins s σ H x v Q I rx q=>yh pins s σ H x v Q I rx (by
 unfold fE at q
 split at q
 ·exact⟨_,rfl,q⟩
 ·exact q.elim)
def xO (K:pz):List V→Hp→VK→Prop:=fun xs H Q=>match xs with
 |[.str y]=>y.length≤sizeLine∧Q (.int y.length) H
 |[.ref p]=>(∃xs,SqL K H p xs∧Q (.int xs.length) H)∨(∃xs,SqT K H p xs∧Q (.int xs.length) H)∨∃kvs,H p=some (.dK kvs)∧Q (.int kvs.length) H
 |_=>False
theorem DV:bH X (.builtin "len") (xO X.K):=EZ
def gC:List V→Hp→VK→Prop:=fun xs H Q=>match xs with
 |[x,.ty T]=>T∈["int","bool","str","tuple","list","dict"]∧∃t,tyN H x=some t∧Q (.bl (isI t T)) H
 |_=>False
theorem iJ:bH X (.builtin "isinstance") gC:=fun pins s σ H xs us Q I r h=>by
 unfold gC at h
 split at h
 ·obtain⟨h1,t,h2,h3⟩:=h
  exact ur pins s σ H _ us Q I r ⟨_,_,t,rfl,h1,h2,h3⟩
 ·exact h.elim
def zQ:List V→Hp→VK→Prop:=fun xs H Q=>∃(a:Addr)(bs:List Bool),xs=[.ref a]∧H a=some (.lst (bs.map V.bl))∧Q (.bl (bs.all id)) H
theorem EW (hc:X.calm=true):bH X (.builtin "all") zQ:=uW hc
def wf (K:pz):List V→Hp→VK→Prop:=fun xs H Q=>∃p ys,xs=[.ref p]∧(SqL K H p ys∨SqT K H p ys)∧∀l,H l=none→Q (.ref l) (upd H l (.lst ys))
theorem BA:bH X (.type "list") (wf X.K):=oq
def sA (K:pz):List V→Hp→VK→Prop:=fun xs H Q=>∃p ys,xs=[.ref p]∧((SqL K H p ys∧∀l,H l=none→Q (.ref l) (upd H l (.tup ys)))∨(SqT K H p ys∧Q (.ref p) H))
theorem yP:bH X (.type "tuple") (sA X.K):=mh
end
theorem Ag:bootBuiltins "all"=some (.builtin "all"):=by decide+kernel
structure cK (J:It)(n:Nat)(it:Nat→V)(Pv:Hp→Prop):Prop where
 go:∀i H,i<n→Pv H→J.go i H
 yld:∀i H x H',i<n→Pv H→J.yld i H x H'→H'=H∧x=it i
 stop:∀H,Pv H→J.stop n H
theorem cK.list {K:pz}{a:Addr}{xs:List V}(d:V):cK (Itl K a) xs.length (fun i=>xs.getD i d) (fun H=>SqL K H a xs)where
 go:=fun i H hi h=>⟨xs,xs[i],h,by simp[hi]⟩
 yld:=fun i H x H' hi h y=>⟨y.1,by have:=y.2 xs h;rw[Gp,this];rfl⟩
 stop:=fun H h=>⟨xs,h,gV _⟩
theorem cK.tuple {K:pz}{a:Addr}{xs:List V}(d:V):cK (Itt K a) xs.length (fun i=>xs.getD i d) (fun H=>SqT K H a xs)where
 go:=fun i H hi h=>⟨xs,xs[i],h,by simp[hi]⟩
 yld:=fun i H x H' hi h y=>⟨y.1,by have:=y.2 xs h;rw[Gp,this];rfl⟩
 stop:=fun H h=>⟨xs,h,gV _⟩
theorem cK.range {lo:Int}{n:Nat}:cK (Itr lo n) n (fun i=>.int (lo+i)) (fun _=>True)where
 go:=fun i H hi _=>hi
 yld:=fun i H x H' hi _ y=>y
 stop:=fun H _=>gV _
def CWd (n:Nat)(Pv:Nat→List V→Hp→Prop):Nat→Nat→List V→Hp→Prop:=fun i m ys H=>i≤n∧m=n- i∧Pv i ys H
theorem CWd.next {n i:Nat}{Pv:Nat→List V→Hp→Prop}{ys:List V}{H:Hp}(hi:i<n)(h:Pv (i+1) ys H):∃m',m'<n- i∧CWd n Pv (i+1) m' ys H:=⟨n- (i+1),by omega,hi,rfl,h⟩
theorem fe {J:It}{n:Nat}{it:Nat→V}{Pk:Hp→Prop}{σ:St}{is:List Nat}{tc:TT}{te:TE}{Q:VK}{H1:Hp}{D:Addr}(T:cK J n it Pk)(Pv:Nat→List V→Hp→Prop)
  (hk:∀i ys H,i≤n→Pv i ys H→Pk H)(h0:Pv 0 [] (upd H1 D (.lst [])))
  (hs:∀i ys H2,i<n→Pv i ys H2→tc (some (it i)::bz σ is) H2 fun b H4=>if b=true then
   te (some (it i)::bz σ is) H4 fun y H5=>H5 D=some (.lst ys)∧ys.length<sizeLine∧∃m',m'<n- i∧CWd n Pv (i+1) m' (ys++[y]) (upd H5 D (.lst (ys++[y])))
   else ∃m',m'<n- i∧CWd n Pv (i+1) m' ys H4)
  (hd:∀ys H,Pv n ys H→Q (.ref D) H):pG is tc te σ D J H1 Q:=by
 refine⟨CWd n Pv,⟨n,Gc _,rfl,h0⟩,?_⟩
 rintro i m ys H2 ⟨hi,rfl,p⟩
 by_cases hlt:i<n
 ·refine .inr ⟨T.go i H2 hlt (hk i ys H2 hi p),fun x H3 y=>?_⟩
  obtain⟨rfl,rfl⟩:=T.yld i H2 x H3 hlt (hk i ys H2 hi p) y
  exact hs i ys _ hlt p
 ·have e:i=n:=by omega
  subst e
  exact .inl ⟨T.stop H2 (hk _ ys H2 hi p),hd ys H2 p⟩
theorem au.upd {H:Hp}{p:Addr}{o:HO}(h:H p=none):au H (upd H p o):=fun b u e=>by rw[al (aq e h)];exact e
theorem au.put {H H':Hp}{p:Addr}{o:HO}(s:au H H')(h:H p=none):au H (L2.upd H' p o):=fun b u e=>by rw[al (aq e h)];exact s b u e
theorem rR {xs:List V}{i:Int}(h0:0≤i)(h1:i<xs.length):atI xs i=some (xs.getD i.toNat .non):=by
 unfold atI ixN
 rw[if_pos h0,if_pos h1]
 show xs[i.toNat]?=_
 rw[Gp]
 have:i.toNat<xs.length:=by omega
 rw[FQ this];rfl
def bF:Expr→Bool
 |.Starred _ _=>false
 |_=>true
theorem aT {e:Expr}(h:bF e=true)(bR:List Expr)(env:Env):starEach (e::bR) env=(false,eval e env)::starEach bR env:=by
 cases e<;>first|rfl|cases h
def aS:List Expr→Bool
 |[]=>true
 |e::r=>bF e&&aS r
theorem bw:∀{es:List Expr}{env:Env}{pos:Pos},aS es=true→(backTo pos (starEach es env)).any (·.1)=false
 |[],_,_,_=>rfl
 |e::r,env,pos,h=>by
  have h:(bF e&&aS r)=true:=h
  rw[Hu]at h
  rw[aT h.1]
  show(false||(backTo pos (starEach r env)).any (·.1))=false
  rw[bw h.2];rfl
section
variable {X:Cx}{e:Expr}{es:List Expr}{te:TE}{t:TA}{pos:Pos}
theorem xc (ha:PE X e te)(hr:PA X es t)(hs:bF e=true:=by rfl):PA X (e::es) (af te t):=xA ha hr (aT hs es X.env)
variable {x:Str}{p apos cpos:Pos}{id T:String}{r:List V→Hp→VK→Prop}
theorem xk (hc:bH X (.builtin id) r)(hg:Gl X x)(hm:X.mg x=none)(hv:bootBuiltins x=some (.builtin id))(ha:PA X (e::es) t)(hn:x≠"__name__":=by decide)(hdb:(x==("__debug__":Str))=false:=by decide)
  (hs:aS (e::es)=true:=by rfl):PE X (.Call (.Name x p) (e::es) [] pos) (tCB r t):=
 have h:(bF e&&aS es)=true:=hs
 uP hc hg hm hv ha hn hdb (aT (FP.mp h).1 es X.env) (bw (FP.mp h).2)
theorem ui (hc:bH X (.type T) r)(hg:Gl X x)(hm:X.mg x=none)(hv:bootBuiltins x=some (.type T))(ha:PA X (e::es) t)(hn:x≠"__name__":=by decide)(hdb:(x==("__debug__":Str))=false:=by decide)
  (hs:aS (e::es)=true:=by rfl):PE X (.Call (.Name x p) (e::es) [] pos) (tCB r t):=
 have h:(bF e&&aS es)=true:=hs
 sf hc hg hm hv ha hn hdb (aT (FP.mp h).1 es X.env) (bw (FP.mp h).2)
variable {CX:CXT}{k:Nat}{f C:Addr}{fd:FX}{ps:List Str}{sp:Sp}{dvs:List V}{ds:List tx}{E:XK}{m:Str}{o:Expr}{ta:TE}
theorem ju:∀{es:List Expr}{env:Env}{pos:Pos},aS es=true→(backTo pos (starEach es env)).all (fun x=> !x.1)=true
 |[],_,_,_=>rfl
 |e::r,env,pos,h=>by
  have h:(bF e&&aS r)=true:=h
  rw[Hu]at h
  rw[aT h.1]
  show(true&&(backTo pos (starEach r env)).all (fun x=> !x.1))=true
  rw[ju h.2];rfl
variable {to:TE}{name:Str}{rm:V→List V→Hp→VK→Prop}
theorem DM (pa:KQ T)(slot:Slot T name id)(hty:typeOf (.builtin id)=pure (.type "method_descriptor"))(hm:MtR X id rm)(ho:PE X o to)(ha:PA X (e::es) t)
  (hbase:attributeBase o name X.env (eval o X.env)=eval o X.env:=by rfl)(hfew:decide ((e::es).length<30)=true:=by rfl)
  (hline:(apos.endLine==cpos.line)=true:=by rfl)(hs:aS (e::es)=true:=by rfl):PE X (.Call (.Attribute o name apos) (e::es) [] cpos) (tBM X.K T rm to t):=
 have h:(bF e&&aS es)=true:=hs
 DI pa slot hty hm ho ha hbase (by rw[ju hs];exact hfew) hline (aT (FP.mp h).1 es X.env) (bw (FP.mp h).2)
end
structure QE (X:Cx)(e:Expr)(t:TE):Prop where
 out:PE X e t
structure QT (X:Cx)(e:Expr)(t:TT):Prop where
 out:PT X e t
structure QW (X:Cx)(e:Expr)(t:TT):Prop where
 out:PW X e t
structure QA (X:Cx)(e:List Expr)(t:TA):Prop where
 out:PA X e t
structure QS (X:Cx)(e:Stmt)(t:TS):Prop where
 out:PS X e t
structure QSs (X:Cx)(e:List Stmt)(t:TS):Prop where
 out:PSs X e t
structure QI (X:Cx)(tg iter:Expr)(t:TI):Prop where
 out:PI X tg iter t
structure QO (X:Cx)(e:Option Expr)(t:TO):Prop where
 out:PO X e t
structure tT (X:Cx)(e:List Expr)(t:TT):Prop where
 out:qa X e t
section
variable {X:Cx}{a b c e o:Expr}{es bR:List Expr}{ta tb tc te to tv:TE}{tA tB':TT}{t:TA}{pos apos cpos p:Pos}{x y:Str}
theorem aa (i:Nat)(hN:X.N[i]?=some x:=by rfl)(hv:Vis X.env.scope x:=by first|exact Or.inl rfl|exact MU (Or.inl rfl)|exact MU (MU rfl))(hd:(x==("__debug__":Str))=false:=by decide)
 (hcd:(x==("__classdict__":Str))=false:=by decide):QE X (.Name x pos) (ae i):=⟨qv i hN hv hd hcd⟩
theorem iI {T:String}(hm:X.mg x=none)(hv:bootBuiltins x=some (.type T))(hg:Gl X x:=by rfl)(hn:x≠"__name__":=by decide)(hd:(x==("__debug__":Str))=false:=by decide):QE X (.Name x pos) (tC (.ty T)):=⟨wK hg hm hv rfl hn hd⟩
theorem ao {i:Int}{j}:QE X (.Constant (.int i) j pos) (tC (.int i)):=⟨zm⟩
theorem qC {b:Bool}{j}:QE X (.Constant (.bool b) j pos) (tC (.bl b)):=⟨Cq⟩
theorem pZ {j}:QE X (.Constant .none j pos) (tC .non):=⟨yJ⟩
theorem bC {z:Str}{j}:QE X (.Constant (.str z) j pos) (tC (.str z)):=⟨yc⟩
theorem fI (ha:QE X a ta):QE X (.UnaryOp .USub a pos) (tUn fE ta):=⟨Cc EM ha.out⟩
theorem Bj (ha:QE X a ta):QE X (.UnaryOp .Not a pos) (pU ta):=⟨AQ ha.out⟩
theorem aQ {op:Operator}{r:R2}(ho:OpR X (binaryOp op) r)(ha:QE X a ta)(hb:QE X b tb):QE X (.BinOp a op b pos) (tOp r ta tb):=⟨BY ho ha.out hb.out⟩
theorem fk {op:MS}{r:R2}(ho:OpR X (compareOp op) r)(ha:QE X a ta)(hb:QE X b tb)(hm:behindInMarks op b=false:=by first|exact jN _|rfl):QE X (.Compare a [op] [b] pos) (tOp r ta tb):=⟨qc ho ha.out hb.out hm⟩
theorem ji {op op':MS}{r r':R2}(ho:OpR X (compareOp op) r)(ho':OpR X (compareOp op') r')(ha:QE X a ta)(hb:QE X b tb)(hc:QE X c tc)(hm:lastMarks [op,op'] [b,c]=false:=by with_unfolding_all rfl):
 QE X (.Compare a [op,op'] [b,c] pos) (dE r r' ta tb tc):=⟨qch ho ho' ha.out hb.out hc.out hm⟩
theorem eN {op}(h:QE X a ta):QE X (.BoolOp op [a] pos) ta:=⟨yi h.out⟩
theorem cR (ha:QE X a ta)(hb:QE X (.BoolOp .And (b::bR) pos) tb):QE X (.BoolOp .And (a::b::bR) pos) (cI ta tb):=⟨EF ha.out hb.out⟩
theorem pQ (hc:QT X c tA)(ha:QE X a ta)(hb:QE X b tb):QE X (.IfExp c a b pos) (mIf tA ta tb):=⟨Eh hc.out ha.out hb.out⟩
theorem ai:QA X [] ak:=⟨zH⟩
theorem ac (ha:QE X e te)(hr:QA X es t)(hs:bF e=true:=by rfl):QA X (e::es) (af te t):=⟨xc ha.out hr.out hs⟩
theorem cM (h:QA X es t):QE X (.List es pos) (dg t):=⟨zS h.out⟩
theorem aV {x1}(h:QA X es t):QE X (.Tuple es x1 pos) (bc t):=⟨yM h.out⟩
theorem aE {r:R2}(hr:IxR X r)(ha:QE X a ta)(hb:QE X b tb)(hs:oK b):QE X (.Subscript a b pos) (tOp r ta tb):=⟨Di hr ha.out hb.out hs⟩
theorem fU:QO X none eD:=⟨wH⟩
theorem fS (h:QE X e te):QO X (some e) (gl te):=⟨xy h.out⟩
theorem fR {r:V→Option Int→Option Int→Hp→VK→Prop}{lo hi:Option Expr}{tl th:TO}{p2:Pos}(hr:SlR X r)(he:QE X e te)(hl:QO X lo tl)(hu:QO X hi th):QE X (.Subscript e (.Slice lo hi none p2) pos) (tSl r te tl th):=⟨tR hr he.out hl.out hu.out⟩
variable {id T:String}{r:List V→Hp→VK→Prop}
theorem aW (hc:bH X (.builtin id) r)(hm:X.mg x=none)(hv:bootBuiltins x=some (.builtin id))(ha:QA X (e::es) t)(hg:Gl X x:=by rfl)(hn:x≠"__name__":=by decide)(hdb:(x==("__debug__":Str))=false:=by decide)
 (hs:aS (e::es)=true:=by rfl):QE X (.Call (.Name x p) (e::es) [] pos) (tCB r t):=⟨xk hc hg hm hv ha.out hn hdb hs⟩
theorem og (hc:bH X (.type T) r)(hm:X.mg x=none)(hv:bootBuiltins x=some (.type T))(ha:QA X (e::es) t)(hg:Gl X x:=by rfl)(hn:x≠"__name__":=by decide)(hdb:(x==("__debug__":Str))=false:=by decide)
 (hs:aS (e::es)=true:=by rfl):QE X (.Call (.Name x p) (e::es) [] pos) (tCB r t):=⟨ui hc hg hm hv ha.out hn hdb hs⟩
variable {CX:CXT}{k:Nat}{f C:Addr}{fd:FX}{ps:List Str}{sp:Sp}{dvs:List V}{ds:List tx}{E:XK}{m:Str}
variable {name:Str}{rm:V→List V→Hp→VK→Prop}
theorem cZ (pa:KQ T)(slot:Slot T name id)(hty:typeOf (.builtin id)=pure (.type "method_descriptor"))(hm:MtR X id rm)(ho:QE X o to)(ha:QA X (e::es) t)
 (hbase:attributeBase o name X.env (eval o X.env)=eval o X.env:=by rfl)(hfew:decide ((e::es).length<30)=true:=by rfl)
 (hline:(apos.endLine==cpos.line)=true:=by rfl)(hs:aS (e::es)=true:=by rfl):QE X (.Call (.Attribute o name apos) (e::es) [] cpos) (tBM X.K T rm to t):=⟨DM pa slot hty hm ho.out ha.out hbase hfew hline hs⟩
theorem aN {op:MS}{r:R2}(ho:OpR X (compareOp op) r)(ha:QE X a ta)(hb:QE X b tb)(hm:behindInMarks op b=false:=by first|exact jN _|rfl):QT X (.Compare a [op] [b] pos) (aP (tOp r ta tb)):=⟨qtc ho ha.out hb.out hm⟩
theorem ng {op op':MS}{r r':R2}(ho:OpR X (compareOp op) r)(ho':OpR X (compareOp op') r')(ha:QE X a ta)(hb:QE X b tb)(hc:QE X c tc)(hm:lastMarks [op,op'] [b,c]=false:=by with_unfolding_all rfl):
 QT X (.Compare a [op,op'] [b,c] pos) (aP (dE r r' ta tb tc)):=⟨ED ho ho' ha.out hb.out hc.out hm⟩
theorem da (h:QE X e te)(he:∀whole,isTrue e X.env whole=(do let v←whole;standAt e.pos;holding [v] (truthy v)):=by intro _;rfl):QT X e (dZ X.K te):=⟨qtb h.out he⟩
theorem dD (ha:QT X a tA):QT X (.UnaryOp .Not a pos) (eW tA):=⟨Ap ha.out⟩
theorem x_w (h:QW X e tA):QT X e tA:=⟨h.out.pt⟩
theorem wV (ha:QT X a tA):QW X (.BoolOp .And [a] pos) tA:=⟨xh ha.out⟩
theorem jP (ha:QT X a tA):QW X (.BoolOp .Or [a] pos) tA:=⟨zG ha.out⟩
theorem xW (ha:QT X a tA)(hb:QW X (.BoolOp .And (b::bR) pos) tB'):QW X (.BoolOp .And (a::b::bR) pos) (uh tA tB'):=⟨zZ ha.out hb.out⟩
theorem jQ (ha:QT X a tA)(hb:QW X (.BoolOp .Or (b::bR) pos) tB'):QW X (.BoolOp .Or (a::b::bR) pos) (mOr tA tB'):=⟨Bh ha.out hb.out⟩
variable {tg iter elt:Expr}{wi:TI}{ifs:List Expr}{scope:Scope}{ys:List Str}{is:List Nat}{px py spos:Pos}
theorem ef (hm:X.mg "range"=none)(ha:QA X [a] t)(hg:Gl X "range":=by rfl)(hs:bF a=true:=by rfl):QI X tg (.Call (.Name "range" p) [a] [] pos) (fN t):=⟨sd hg hm ha.out (aT hs [] X.env)⟩
theorem fw:tT X [] (fun _ H Q=>Q true H):=⟨rfl⟩
theorem nV {tcn:TT}(S:eG scope x ys)(hcap:fG X scope ys is)(hi:QI X (.Name x px) iter wi)
 (hif:∀C s H fp,tT (bp X scope C (x::ys) s H fp) ifs tcn)(he:∀C s H fp,QE (bp X scope C (x::ys) s H fp) elt te)(hc:X.calm=true:=by rfl)
 (hs:∀x,foldedSetIterable iter X.env x=pure x:=by intro _;rfl):QE X (.ListComp elt [⟨.Name x px,iter,ifs,0⟩] scope pos) (dW is wi tcn te):=⟨xG hc S hcap hi.out (fun C s H fp=>(hif C s H fp).out) (fun C s H fp=>(he C s H fp).out) hs⟩
variable {st:Stmt}{sts:List Stmt}{tS uS:TS}{i j:Nat}
theorem aU:QSs X [] ba:=⟨xn⟩
theorem ar (h:QS X st tS):QSs X [st] tS:=⟨wL h.out⟩
theorem am (h1:QS X st tS)(h2:QSs X sts uS):QSs X (st::sts) (ax tS uS):=⟨tw h1.out h2.out⟩
theorem aF (h:QE X e te):QS X (.Return (some e) pos) (aH te):=⟨yD h.out⟩
theorem aZ {l m:List Stmt}(hc:QT X c tA)(ha:QSs X l tS)(hb:QSs X m uS):QS X (.If c l m pos) (bg tA tS uS):=⟨qif hc.out ha.out hb.out⟩
theorem aC (i:Nat)(hN:X.N.Nodup)(he:QE X e te)(hi:X.N[i]?=some x:=by rfl)(hx:Loc X.env.scope x:=by first|exact .inl rfl|exact .inr rfl)
 (hs:swapsWith e (some (.Name x p)) pos.line X.env=pure false:=by rfl)(hf:X.fn x=true∨X.env.scope.names.lookup x=some .local:=by first|exact .inl rfl|exact .inr rfl):QS X (.Assign [.Name x p] e pos) (aB te (aw i)):=⟨zt hN hi hx he.out hs hf⟩
theorem ft (j:Nat){tcn:TT}(hN:X.N.Nodup)(S:eG scope x ys)(hcap:fG X scope ys is)(hi:QI X (.Name x px) iter wi)
  (hif:∀C s H fp,tT (bp X scope C (x::ys) s H fp) ifs tcn)(he:∀C s H fp,QE (bp X scope C (x::ys) s H fp) elt te)(hc:X.calm=true:=by rfl)
  (hj:X.N[j]?=some y:=by rfl)(hy:Loc X.env.scope y:=by first|exact .inl rfl|exact .inr rfl)
  (hsw:swapsWith (.ListComp elt [⟨.Name x px,iter,ifs,0⟩] scope pos) (some (.Name y py)) spos.line X.env=pure true:=by rfl)(hf:X.fn y=true∨X.env.scope.names.lookup y=some .local:=by first|exact .inl rfl|exact .inr rfl)
  (hs:∀x,foldedSetIterable iter X.env x=pure x:=by intro _;rfl):QS X (.Assign [.Name y py] (.ListComp elt [⟨.Name x px,iter,ifs,0⟩] scope pos) spos) (aB (dW is wi tcn te) (aw j)):=
 ⟨qj hN hj hy hc S hcap hi.out (fun C s H fp=>(hif C s H fp).out) (fun C s H fp=>(he C s H fp).out) hsw hf hs⟩
theorem bM (h:QE X e te)(hs:swapsWith e none pos.line X.env=pure false:=by rfl):QS X (.Expr e pos) (bO te):=⟨wQ h.out hs⟩
theorem fq (i:Nat)(hN:X.N.Nodup){body:List Stmt}(hi:QI X (.Name x px) iter wi)(hb:QSs X body tS)(hp:LC (model X.prog X.w) X.A X.env X.xe)(hc:X.calm=true:=by rfl)
 (hj:X.N[i]?=some x:=by rfl)(hx:Loc X.env.scope x:=by first|exact .inl rfl|exact .inr rfl)(hf:X.fn x=true∨X.env.scope.names.lookup x=some .local:=by first|exact .inl rfl|exact .inr rfl)
 (hs:∀x,foldedSetIterable iter X.env x=pure x:=by intro _;rfl):QS X (.For (.Name x px) iter body [] pos) (ej wi (aw i) tS):=⟨rV hp hc hi.out (gK hN hj hx hf) hb.out hs⟩
theorem fO {body:List Stmt}(hc:QT X c tA)(hb:QSs X body tS)(hp:LC (model X.prog X.w) X.A X.env X.xe):QS X (.While c body [] pos) (fv tA tS):=⟨vn hp hc.out hb.out⟩
theorem cV:QS X st cX:=⟨uf⟩
end
end L2
namespace HT
open PySem PyProof.Rows
structure Hd0 (vs:Array tx)(a0:tx):Prop where
 a:vs[0]?=some a0
 b:vs[2]?=some .none
structure TrD (h base:Heap)(e:Addr)(cls a0:tx)(d:Option Addr)(fl:tx):Prop where
 ex:∃oe vs T oT ts,h.get? e=some oe∧oe.cls=cls∧oe.dict=d∧oe.data=.fields vs∧Hd0 vs a0∧vs[1]?=some (.ref T)∧base.get? T=none∧T≠e∧h.get? T=some oT∧oT.data=.fields ts∧ts[3]?=some fl
structure qB (base:Heap)(l:List Env)(e:Addr)(cls a0:tx)(d:Option Addr)(fl:tx)(h h':Heap):Prop where
 st:base.StaysIn h'
 fr:h'.FunFrames base l
 tr:TrD h' base e cls a0 d fl
 up:h.UpToSlots h'
theorem kM (o:Obj)(f:Array tx→Array tx):(JC f o).dict=o.dict:=by
 obtain⟨c,d,dt,sl⟩:=o
 cases dt<;>rfl
section
variable {M:Model}{A:GC}{E:tx→FI→Prop}{s:FI}{base:Heap}{env:Env}{outer:List Env}{L e:Addr}{cls a0:tx}{d:Option Addr}{Q:Unit→FI→Prop}
theorem yF {oe:Obj}{vs:Array tx}{head:tx}{hadNext:Bool}(hfr:A.frames=some (env::outer))(hl:s.heap.FunFrames base (env::outer))(hf:env.frame=some L)(he:s.heap.get? e=some oe)(hc:oe.cls=cls)(hdc:oe.dict=d)
  (hkb:base.StaysIn s.heap)(hen:base.get? e=none)(hd:oe.data=.fields vs)(hsz:1<vs.size)(h0:Hd0 vs a0)(h:∀h',qB base (env::outer) e cls a0 d (rawInt L) s.heap h'→Q () {s with heap:=h'}):
  wpAny M A (do let a←frameOf env;let pl←entryPlaceOf L hadNext;let b←Lf head a .none (rawInt L) .none pl;setField (.ref e) 1 b) Q E s:=by
 have nfr:e∉(env::outer).filterMap (·.frame):=fun hm=>by
  obtain⟨_,o,ho,hnf⟩:=hl.mem hm
  rw[he]at ho
  cases ho
  exact hnf vs hd
 refine ah (wpAny_frameOf_fun hfr hl hf fun h1 s1=>ah (wpAny_entryPlaceOf fun pl hpl=>?_))
 unfold Lf newFields
 refine ah (Hn ?_ (hpl.sizeOk5 _ _ _ _ _))
 generalize hts:([head,FT L,.none,rawInt L,.none]++(if pl.isEmpty then Li 6 HE else pl)).toArray=ts
 have hts3:ts[3]?=some (rawInt L):=by rw[←hts];first|(simp;done)|(rcases hpl with rfl|⟨_,_,_,_,_,_,_,rfl⟩<;>simp)
 have e1:h1.get? e=some oe:=(s1.2.1 e nfr).trans he
 have kb1:base.StaysIn h1:=fun b o hbo=>(s1.2.1 b fun hm=>by rw[(hl.mem hm).1]at hbo;cases hbo).trans (hkb b o hbo)
 have e2:(h1.push {cls:=.type "traceback",dict:=none,data:=.fields ts}).get? e=some oe:=cW _ e1
 have nT:h1.objs.size≠e:=HJ (FM e1)
 refine LR e2 hd hsz (h _ ?_)
 have d3:=IC hd (·.setIfInBounds 1 (FT h1.objs.size))
 have e3:=Gy (JC (·.setIfInBounds 1 (FT h1.objs.size))) e2 (JP d3)
 have kp:∀b o,b≠e→h1.get? b=some o→((h1.push {cls:=.type "traceback",dict:=none,data:=.fields ts}).update e (JC (·.setIfInBounds 1 (FT h1.objs.size)))).get? b=some o:=fun b o nb eb=>
  (Gq _ _ (Gt nb)).trans (cW _ eb)
 have T3:=(Gq (h1.push {cls:=.type "traceback",dict:=none,data:=.fields ts}) (JC (·.setIfInBounds 1 (FT h1.objs.size))) (Gt nT)).trans (FO h1 rfl)
 have nr:∀b o,s.heap.get? b=some o→(∀vs,o.data≠.fields vs)→b≠e:=fun b o hb hnf q=>by
  rw[q,he]at hb
  cases hb
  exact hnf vs hd
 refine⟨fun b o hbo=>kp b o (fun q=>by rw[q,hen]at hbo;cases hbo) (kb1 b o hbo),hl.of_keeps fun b o hb hnf=>?_,⟨_,_,h1.objs.size,_,ts,e3,(MR ..).trans hc,(kM ..).trans hdc,d3,?_,by simp[hsz],kb1.fresh,nT,T3,rfl,hts3⟩,fun b o hb hnf=>?_⟩
 ·obtain⟨sl,hs⟩:=s1.2.2 b o hb
  exact⟨_,kp b _ (nr b o hb hnf) hs,rfl⟩
 ·exact⟨by rw[Kq (by decide)];exact h0.a,by rw[Kq (by decide)];exact h0.b⟩
 ·obtain⟨sl,hs⟩:=s1.2.2 b o hb
  exact⟨sl,kp b _ (nr b o hb hnf) hs⟩
theorem AB {fl fl':tx}{T:Addr}{oT:Obj}{ts:Array tx}{l:List Env}{oe:Obj}{vs:Array tx}(hkb:base.StaysIn s.heap)(hl:s.heap.FunFrames base l)(he:s.heap.get? e=some oe)(hc:oe.cls=cls)(hdc:oe.dict=d)(hd:oe.data=.fields vs)(h0:Hd0 vs a0)
  (h1:vs[1]?=some (.ref T))(nT:base.get? T=none)(Te:T≠e)(hT:s.heap.get? T=some oT)(hdT:oT.data=.fields ts)(h3:ts[3]?=some fl)(h:∀h',qB base l e cls a0 d fl' s.heap h'→(h'.get? e=some oe)→Q () {s with heap:=h'}):wpAny M A (setField (.ref T) 3 fl') Q E s:=by
 have sz:=(Il.mp h3).1
 have ot:∀b,b≠T→(s.heap.update T (JC (·.setIfInBounds 3 fl'))).get? b=s.heap.get? b:=fun b hb=>Gq _ _ (Gt hb)
 have nr:∀b o,s.heap.get? b=some o→(∀vs,o.data≠.fields vs)→b≠T:=fun b o hb hnf q=>by
  rw[q,hT]at hb
  cases hb
  exact hnf ts hdT
 refine LR hT hdT sz (h _ ⟨fun b o hbo=>(ot b fun q=>by rw[q,nT]at hbo;cases hbo).trans (hkb b o hbo),hl.of_keeps fun b o hb hnf=>⟨o,(ot b (nr b o hb hnf)).trans hb,rfl⟩,
  ⟨oe,vs,T,_,_,(ot e (Gt Te)).trans he,hc,hdc,hd,h0,h1,nT,Te,Gy _ hT (JP (IC hdT _)),IC hdT _,by simp[sz]⟩,fun b o hb hnf=>⟨o.slots,(ot b (nr b o hb hnf)).trans hb⟩⟩ ((ot e (Gt Te)).trans he))
theorem oJ {fl:tx}{l:List Env}(hkb:base.StaysIn s.heap)(hl:s.heap.FunFrames base l)(ht:TrD s.heap base e cls a0 d fl)(h:∀h',qB base l e cls a0 d .none s.heap h'→Q () {s with heap:=h'}):wpAny M A (setFlight (.ref e) none) Q E s:=by
 obtain⟨oe,vs,T,oT,ts,he,hc,hdc,hd,h0,h1,nT,Te,hT,hdT,h3⟩:=ht.ex
 unfold setFlight
 refine ah (Gx he hd h1 ?_)
 rw[if_pos (show(FT T !=HE)=true from by simp)]
 exact AB hkb hl he hc hdc hd h0 h1 nT Te hT hdT h3 fun h' n _=>h h' n
theorem pR (hfr:A.frames=some (env::outer))(hl:s.heap.FunFrames base (env::outer))(hf:env.frame=some L)(ht:TrD s.heap base e cls a0 d .none)(hkb:base.StaysIn s.heap)(hen:base.get? e=none)
  (h:∀h',qB base (env::outer) e cls a0 d (rawInt L) s.heap h'→Q () {s with heap:=h'}):wpAny M A (noteFrame (.ref e) env) Q E s:=by
 obtain⟨oe,vs,T,oT,ts,he,hc,hdc,hd,h0,h1,nT,Te,hT,hdT,h3⟩:=ht.ex
 unfold noteFrame
 simp only[hf]
 refine ah (Gx he hd h1 ?_)
 rw[if_pos (show(FT T !=HE)=true from by simp)]
 refine ah (Gx hT hdT h3 ?_)
 rw[if_neg (show ¬((HE==rawInt L)=true)from by simp[rawInt])]
 refine ah (AB (fl':=.none) hkb hl he hc hdc hd h0 h1 nT Te hT hdT h3 fun h' n he'=>?_)
 exact yF (s:={s with heap:=h'}) hfr n.fr hf he' hc hdc n.st hen hd (Il.mp h1).1 h0 fun h2 n2=>h h2 ⟨n2.st,n2.fr,n2.tr,n.up.trans n2.up⟩
end
end HT
namespace L2
open PySem PySem.Spec PyProof.Rows
abbrev veM:List tx:=[.type "ValueError",.type "Exception",.type "BaseException",.type "object"]
def mX (K:pz)(C D:Addr):Option Bool:=match K.lookup C with
 |some ⟨_,_,.cls cd,_⟩=>some (cd.mro.contains (.ref D))
 |_=>none
def nO (K:pz)(C:Addr):Bool:=match K.lookup C with
 |some ⟨.type "type",_,.cls cd,sl⟩=>(match cd.mro,sl.toList with
  |.ref C'::bm,[_,_,_,_,some (.builtin n),_]=>C'==C&&n=="ValueError.__new__"&& !cd.hasDel&&W.tailIn K veM bm&&W.nsOkIn K cd.ns
  |_,_=>false)
 |_=>false
def dH (K:pz)(C:Addr):Prop:=nO K C=true
def gh (K:pz)(C:Addr):Prop:=MQ K C veM "ValueError.__new__"=true
theorem gh.ok {K:pz}{C:Addr}(q:gh K C):dH K C:=by
 unfold gh MQ at q
 unfold dH nO
 split at q
 ·rename_i dd cd sl ho
  split at q
  ·rename_i C' bm k0 k1 k2 k3 n k5 hm hs
   rw[ho]
   simp only[hm,hs]
   simp only[Hu]at q⊢
   exact q.1
  ·cases q
 ·cases q
theorem oV {K:pz}{h:Heap}{C:Addr}(X:K.In h)(q:dH K C):
  ∃bm N nm qn bs hdct sn sub ab col dd k0 k1 k2 k3 k5 mN,h.get? C=some (excClassObj nm qn C N bs bm hdct sn sub ab col dd k0 k1 k2 k3 k5 "ValueError.__new__")∧h.Ns N mN∧(gh K C→mN "__init__"=none)∧OwnTail h veM bm∧
   ∀D,mX K C D=some ((FT C::bm).contains (.ref D)):=by
 have q2:=q
 unfold dH nO at q
 split at q
 ·rename_i dd cd sl ho
  split at q
  ·rename_i C' bm k0 k1 k2 k3 n k5 hm hs
   simp only[Hu,beq_iff_eq,Bool.not_eq_true']at q
   obtain⟨⟨⟨⟨rfl,rfl⟩,hdel⟩,ht⟩,hok⟩:=q
   obtain⟨nm,bs,mro,ns,qn,hd,sn,sub,ab,col,del⟩:=cd
   dsimp only at hm hdel hok
   subst hm hdel
   have hsl:sl=#[k0,k1,k2,k3,some (.builtin "ValueError.__new__"),k5]:=by
    obtain⟨l⟩:=sl
    simp only at hs
    rw[hs]
   subst hsl
   refine⟨bm,ns,nm,qn,bs,hd,sn,sub,ab,col,dd,k0,k1,k2,k3,k5,_,X _ _ ho,.of_isNs (W.isNs_of_in X hok),fun r=>?_,W.tail_of_in X ht,fun D=>?_⟩
   ·unfold gh MQ at r
    rw[ho]at r
    simp only[Hu,beq_iff_eq]at r
    exact W.nsMap_none_of_in X hok r.2
   ·unfold mX
    rw[ho]
  ·cases q
 ·cases q
theorem kZ {M:Model}{A:GC}{E:tx→FI→Prop}{s:FI}{K:pz}{C D e:Addr}{oe:Obj}{Q:Bool→FI→Prop}{b:Bool}(X:K.In s.heap)(hC:dH K C)(hD:dH K D)(he:s.heap.get? e=some oe)(hcls:oe.cls=.ref C)
  (hs:mX K C D=some b)(hq:Q b s):wpAny M A (excMatches (.ref e) (.ref D)) Q E s:=by
 obtain⟨bm,N,nm,qn,bs,hdct,sn,sub,ab,col,dd,k0,k1,k2,k3,k5,mN,oC,_,_,_,hsub⟩:=oV X hC
 obtain⟨bm',N',nm',qn',bs',hdct',sn',sub',ab',col',dd',k0',k1',k2',k3',k5',mN',oD,_,_,T',_⟩:=oV X hD
 have hb:(FT C::bm).contains (.ref D)=b:=FY ((hsub D).symm.trans hs)
 have hbase:(FT D::bm').contains (.type "BaseException")=true:=by
  rw[List.contains_cons,T'.hasType (X:="BaseException") (b:=true) (by decide+kernel),Bool.or_true]
 have f:=tc_notTuple
 obtain⟨hp,g,d,t,os⟩:=s
 unfold excMatches
 repeat (first|(with_reducible refine NL he ?_;rw[hcls])|with_reducible refine NL oD ?_ |(with_reducible refine Nm oC ?_;rw[hb])|(with_reducible refine Nm oD ?_;rw[hbase])|wp_step)
 all_goals first|exact hq|(cases b<;>first|exact hq|(repeat (first|exact hq|wp_step)))
structure Fly (P:Gd)(w:GH)(l:List Env)(H:Hp)(s:FI)(cls fl:tx)(a:Addr)(d:Option Addr)(H':Hp)(s':FI):Prop where
 os:s'.os=s.os
 bare:Kj s'.gens
 un:Un (frs l) [] H H' s.heap s'.heap
 hok:HOk P w H' s'.heap
 new:s.heap.get? a=none
 free:H' a=none
 tr:∃oe vs a0 T oT ts,s'.heap.get? a=some oe∧oe.cls=cls∧oe.dict=d∧oe.data=.fields vs∧HT.Hd0 vs a0∧vs[1]?=some (.ref T)∧T≠a∧s'.heap.get? T=some oT∧oT.data=.fields ts∧ts[3]?=some fl∧s.heap.get? T=none∧H' T=none
def CX1 (P:Gd)(w:GH):CXT:=fun outer H s E e s'=>∃a C d H',e=.ref a∧Fly P w outer H s (.ref C) .none a d H' s'∧E (.ref C) d H'
theorem nX {P:Gd}{w:GH}{H:Hp}{h:Heap}{a:Addr}{o:HO}(x:aY P w H h a o):∃u,h.get? a=some u:=by
 cases o with
 |lst xs=>obtain⟨_,_,_,_,e⟩:=x;exact⟨_,e⟩
 |tup xs=>obtain⟨_,_,_,p⟩:=x;obtain⟨o,e,_⟩:=p;exact⟨_,e⟩
 |dK kvs=>obtain⟨_,_,_,_,o,_,_,e,_⟩:=x;exact⟨_,e⟩
 |dT kvs=>obtain⟨_,_,_,_,o,_,_,e,_⟩:=x;exact⟨_,e⟩
 |set S n=>obtain⟨o,_,_,_,e,_⟩:=x;exact⟨_,e⟩
 |ins C dx fs=>obtain⟨_,_,_,e,_⟩:=x;exact⟨_,e⟩
 |own y=>exact x
 |xd fs=>obtain⟨_,⟨_,_,_,e,_⟩,_⟩:=x;exact⟨_,e⟩
 |rng lo hi=>obtain⟨_,_,_,e⟩:=x;exact⟨_,e⟩
 |frz ob u=>obtain⟨e,_⟩:=x;exact⟨_,e⟩
 |tbl ps=>exact⟨_,(show h.get? a=some _ from x)⟩
 |met f y=>exact⟨_,(show h.get? a=some _ from x)⟩
 |ext φ=>obtain⟨_,e,_⟩:=x;exact e
section
variable {P:Gd}{w:GH}{l:List Env}{H H':Hp}{s s':FI}{cls fl fl':tx}{a:Addr}{d:Option Addr}{base:Heap}
def gS (h:Heap)(l:List Env)(a T:Addr):Heap:=W.hideAll h (a::T::frs l)
theorem Fly.frames (F:Fly P w l H s cls fl a d H' s')(ff:s.heap.FunFrames base l)(frf:∀b∈frs l,H b=none):s'.heap.FunFrames base l:=by
 have all:∀(k:List Env),(∀b∈frs k,b∈frs l)→s.heap.FunFrames base k→s'.heap.FunFrames base k:=by
  intro k
  induction k with
  |nil=>intro _ _;trivial
  |cons env r ih=>
   intro hs hl
   obtain⟨hk,⟨L,o,hf,hn,ho,hd⟩,hr⟩:=hl
   have hL:L∈frs l:=hs L (by unfold frs;rw[HD,hf];exact Gu)
   obtain⟨sl,e⟩:=F.un.slot L o ho (frf L hL) hL (by simp)
   exact⟨hk,⟨L,_,hf,hn,e,hd⟩,ih (fun b hb=>hs b (by unfold frs;rw[HD,hf];exact GF _ hb)) hr⟩
 exact all l (fun _ hb=>hb) ff
theorem lK {h B B':Heap}:∀{k:List Env},h.FunFrames B k→(∀b∈frs k,B'.get? b=none)→h.FunFrames B' k
 |[],_,_=>trivial
 |env::r,⟨hk,⟨L,o,hf,hn,ho,hd⟩,hr⟩,hb=>⟨hk,⟨L,o,hf,hb L (by unfold frs;rw[HD,hf];exact Gu),ho,hd⟩,lK hr fun b h=>hb b (by unfold frs;rw[HD,hf];exact GF _ h)⟩
theorem Fly.moved (F:Fly P w l H s cls fl a d H' s')(ff:s.heap.FunFrames base l)(frf:∀b∈frs l,H b=none)(ffs:∀b∈frs l,H' b=none){T:Addr}{oT:Obj}(hT0:s.heap.get? T=none)(hT1:H' T=none){h':Heap}{a0:tx}
  (st:(gS s'.heap l a T).StaysIn h')(up:s'.heap.UpToSlots h')(tr:HT.TrD h' (gS s'.heap l a T) a cls a0 d fl'):Fly P w l H s cls fl' a d H' {s' with heap:=h'}:=by
 have kp:∀b o,s'.heap.get? b=some o→b≠a→b≠T→b∉frs l→h'.get? b=some o:=fun b o e h1 h2 h3=>st b o (LW _ e (by simp[h1,h2,h3]))
 have ff':=F.frames ff frf
 have nf:∀b∈frs l,∀o,s'.heap.get? b=some o→∀vs,o.data≠.fields vs:=fun b hb o e vs z=>by
  obtain⟨_,o',ho,hd⟩:=ff'.mem hb
  rw[e]at ho;cases ho
  exact hd vs z
 have old:∀b o,s.heap.get? b=some o→b≠a∧b≠T:=fun b o e=>⟨fun z=>(by rw[z,F.new]at e;cases e),fun z=>(by rw[z,hT0]at e;cases e)⟩
 refine⟨F.os,F.bare,⟨fun b o e n hb hx=>?_,fun b o e n hb hx=>?_,F.un.free,fun b o e hx=>?_,F.un.tups,F.un.frzs,F.un.tbls⟩,fun b o e=>?_,F.new,F.free,?_⟩
 ·exact kp b o (F.un.keep b o e n hb hx) (old b o e).1 (old b o e).2 hb
 ·obtain⟨sl,e1⟩:=F.un.slot b o e n hb hx
  obtain⟨sl',e2⟩:=up b _ e1 (nf b hb _ e1)
  exact⟨sl',e2⟩
 ·obtain⟨o',e1⟩:=F.un.there b o e hx
  by_cases hb:b∈frs l
  ·obtain⟨sl',e2⟩:=up b _ e1 (nf b hb _ e1)
   exact⟨_,e2⟩
  ·exact⟨o',kp b o' e1 (old b o e).1 (old b o e).2 hb⟩
 ·refine(F.hok b o e).stay (fun c u hc q=>kp c u q ?_ ?_ ?_) (fun _ q=>q) fun _ _ q=>q
  ·rintro rfl
   rcases hc with r|r
   ·rw[←r,F.free]at e;cases e
   ·rw[F.free]at r;cases r
  ·rintro rfl
   rcases hc with r|r
   ·rw[←r,hT1]at e;cases e
   ·rw[hT1]at r;cases r
  ·intro hm
   rcases hc with r|r
   ·rw[←r,ffs _ hm]at e;cases e
   ·rw[ffs _ hm]at r;cases r
 ·obtain⟨oe,vs,T',oT',ts,he,hc,hdc,hd,h0,h1,hn,hne,hT',hdT,h3⟩:=tr.ex
  have key:s'.heap.get? T'=none∨T'=T:=by
   cases q:s'.heap.get? T' with
   |none=>exact .inl rfl
   |some o=>
    refine .inr (Ja fun hz=>?_)
    by_cases hf:T'∈frs l
    ·obtain⟨sl',e2⟩:=up T' o q (nf T' hf o q)
     rw[hT']at e2;cases e2
     exact nf T' hf o q ts hdT
    ·have:(gS s'.heap l a T).get? T'=some o:=LW _ q (by simp[hz,hne,hf])
     rw[hn]at this;cases this
  refine⟨oe,vs,a0,T',oT',ts,he,hc,hdc,hd,h0,h1,hne,hT',hdT,h3,?_,?_⟩
  ·rcases key with z|z
   ·cases q:s.heap.get? T' with
    |none=>rfl
    |some o=>
     obtain⟨o',e⟩:=F.un.there T' o q (by simp)
     rw[z]at e;cases e
   ·rw[z];exact hT0
  ·rcases key with z|z
   ·cases q:H' T' with
    |none=>rfl
    |some o=>
     obtain⟨o1,e1⟩:=nX (F.hok T' o q)
     rw[z]at e1;cases e1
   ·rw[z];exact hT1
end
section
variable {X:Cx}{pins:List (Addr×Obj)}{σ:St}{H H':Hp}{s s':FI}{cls fl:tx}{a:Addr}{d:Option Addr}
theorem Fly.inv (I:Inv X pins σ H s)(F:Fly X.prog X.w X.stack H s cls fl a d H' s'):Inv X pins σ H' s':=I.call' (ch:=[]) F.os F.un F.hok F.bare fun b z=>absurd z (by simp)
theorem Fly.flying (I:Inv X pins σ H s)(F:Fly X.prog X.w X.stack H s cls .none a d H' s'):∃T a0,s.heap.get? T=none∧H' T=none∧(gS s'.heap X.stack a T).StaysIn s'.heap∧(gS s'.heap X.stack a T).get? a=none∧s'.heap.FunFrames (gS s'.heap X.stack a T) X.stack∧
  HT.TrD s'.heap (gS s'.heap X.stack a T) a cls a0 d .none:=by
 obtain⟨oe,vs,a0,T,oT,ts,h1,h2,hd,h3,h4,h5,h6,h7,h8,h9,h10,h11⟩:=F.tr
 exact⟨T,a0,h10,h11,fun b o e=>W.of_hideAll _ e,Kl _ (by simp),lK (F.frames I.stack I.stkFree) fun b hb=>Kl _ (by simp[hb]),⟨oe,vs,T,oT,ts,h1,h2,hd,h3,h4,h5,Kl _ (by simp),h6,h7,h8,h9⟩⟩
end
def dX (CX:CXT)(X:Cx)(E:St→XK):Prop:=∀(pins:List (Addr×Obj))(σ:St)(H:Hp)(s:FI)(e:tx)(s':FI),Inv X pins σ H s→CX X.stack H s (E σ) e s'→X.xe e s'
theorem aX {P:Gd}{w:GH}{X:Cx}:dX (CX1 P w) X (fun _=>E0):=fun pins σ H s e s' I ⟨_,_,_,_,_,_,h⟩=>h.elim
def az (sp:Sp)(E:St→XK)(t:TA):TE:=fun σ H Q=>t σ H fun vs H1=>sp vs H1 Q (E σ)
section
variable {X:Cx}{CX:CXT}{k:Nat}{f:Addr}{fd:FX}{ps:List Str}{sp:Sp}{E:St→XK}{x:Str}{p pos:Pos}{e:Expr}{es:List Expr}{t:TA}
theorem kS {pins:List (Addr×Obj)}{σ:St}{H:Hp}{s:FI}{Q:VK}{us:List tx}{vs:List V}(F:aM X.prog X.w X.K X.mg X.base CX k f fd ps sp)(hr:bn k X.A)(hb:bI X.K fd ps [])(hx:dX CX X E)
  (I:Inv X pins σ H s)(r:aJ vs us)(h:sp vs H Q (E σ)):wpAny (model X.prog X.w) X.A (call (.ref f) us) (EP X pins σ Q) X.xe s:=by
 have hl:us.length=ps.length:=by rw[←r.length];exact F.len _ _ _ _ h
 have hb':=hb s us I.kIn (by rw[GW];exact hl)
 rw[GW]at hb'
 refine KN (Ip (F.run X.A X.stack s H ⟨us,[]⟩ us vs Q (E σ) hr I.env0 hb' r h) fun r s' hq=>?_)
 cases r with
 |error e=>exact hx pins σ H s e s' I hq
 |ok fl=>
  cases fl with
  |ret u=>exact I.after hq
  |next=>exact Gm hq
  |brk=>exact Gm hq
  |cont=>exact Gm hq
theorem xJ (F:aM X.prog X.w X.K X.mg X.base CX k f fd ps sp)(hr:bn k X.A)(hm:X.mg x=some (.ref f))(hk:Ka X.K (.ref f)=true)(hb:bI X.K fd ps [])(hx:dX CX X E)
  (ha:QA X (e::es) t)(hg:Gl X x:=by rfl)(hdb:(x==("__debug__":Str))=false:=by decide)(hs:aS (e::es)=true:=by rfl):QE X (.Call (.Name x p) (e::es) [] pos) (az sp E t):=by
 refine⟨fun pins s σ H Q I h=>?_⟩
 have h':(bF e&&aS es)=true:=hs
 refine GL (oW I hg hm ?_ hdb)
 refine Mw (h₀:=X.base) I.ok.mod.kin hk (thn (ha.out pos pins s σ H _ I h) fun us s1 ⟨vs,H1,I1,r,q⟩=>⟨I1.kIn,?_⟩) (aT (FP.mp h').1 es X.env) (bw (FP.mp h').2)
 exact kS F hr hb hx I1 r q
end
def cxH (X:Cx)(a:Addr):Cx:={X with A:=X.A.mark (some (.ref a)),calm:=false,xe:=fun _ _=>False}
section
variable {X:Cx}{pins:List (Addr×Obj)}{σ:St}{H:Hp}{s:FI}{a:Addr}
theorem Cx.Ok.toH (ok:X.Ok):(cxH X a).Ok:=⟨ok.mod,ok.kind,ok.glob,ok.blt,ok.above,ok.inj,ok.has,ok.cab,fun h=>absurd (show false=true from h) FZ,ok.frames,ok.stk,ok.exf,ok.bs,ok.bsz,ok.noex,ok.exfs,ok.funs,ok.frf⟩
theorem Inv.toH (I:Inv X pins σ H s):Inv (cxH X a) pins σ H s:=⟨I.ok.toH,I.os,I.bare,I.base,I.loc,I.cell,I.free,I.freeC,I.pin,I.hok,I.len⟩
theorem Inv.ofH (ok:X.Ok)(I:Inv (cxH X a) pins σ H s):Inv X pins σ H s:=⟨ok,I.os,I.bare,I.base,I.loc,I.cell,I.free,I.freeC,I.pin,I.hok,I.len⟩
theorem SP.ofH {D:eZ}{f:Flow}(ok:X.Ok)(h:SP (cxH X a) pins D f s):SP X pins D f s:=by
 cases f with
 |next=>obtain⟨σ',H',J,q⟩:=h;exact⟨σ',H',J.ofH ok,q⟩
 |brk=>obtain⟨σ',H',J,q⟩:=h;exact⟨σ',H',J.ofH ok,q⟩
 |cont=>obtain⟨σ',H',J,q⟩:=h;exact⟨σ',H',J.ofH ok,q⟩
 |ret u=>obtain⟨v,σ',H',J,r,q⟩:=h;exact⟨v,σ',H',J.ofH ok,r,q⟩
end
abbrev TH:=eZ→St→Addr→Option Addr→Hp→Prop
def PH (X:Cx)(hs:List JQ)(t:TH):Prop:=∀(pins:List (Addr×Obj))(s0:FI)(σ:St)(H1 H':Hp)(C a:Addr)(d:Option Addr)(s3:FI)(D:eZ),X.stack=X.env::X.outer→X.env.frame=some X.env.locals→X.ex=[]→
 Inv X pins σ H1 s0→Fly X.prog X.w X.stack H1 s0 (.ref C) .none a d H' s3→dH X.K C→t D σ C d H'→wpAny (model X.prog X.w) X.A (handleBy (.ref a) X.env hs) (SP X pins D) X.xe s3
structure QH (X:Cx)(hs:List JQ)(t:TH):Prop where
 out:PH X hs t
def mI:TH:=fun _ _ _ _ _=>False
def qR (K:pz)(Dc:Addr)(ts:TS)(r:TH):TH:=fun D σ C d H=>∃b,mX K C Dc=some b∧Sel b (ts D σ H) (r D σ C d H)
section
variable {X:Cx}
theorem ni:QH X [] mI:=⟨fun _ _ _ _ _ _ _ _ _ _ _ _ _ _ _ _ h=>h.elim⟩
theorem rH {pins:List (Addr×Obj)}{σ:St}{H H':Hp}{s s':FI}{cls:tx}{a:Addr}{d:Option Addr}{M:Model}{A:GC}{E:tx→FI→Prop}{Q:Unit→FI→Prop}(I:Inv X pins σ H s)(F:Fly X.prog X.w X.stack H s cls .none a d H' s')
  (hQ:∀s'',Fly X.prog X.w X.stack H s cls .none a d H' s''→Q () s''):wpAny M A (setFlight (.ref a) none) Q E s':=by
 obtain⟨T,a0,hT0,hT1,f1,f2,f3,f4⟩:=F.flying I
 refine HT.oJ f1 f3 f4 fun h' n=>?_
 exact hQ _ (F.moved (oT:={cls:=.none,data:=.dict #[]}) I.stack I.stkFree (F.inv I).stkFree hT0 hT1 n.st n.up n.tr)
variable {x n:Str}{np hp:Pos}{Dc:Addr}{b0:Stmt}{suite:List Stmt}{bR:List JQ}{ts:TS}{r:TH}{i:Nat}
theorem vb {A:GC}{E:tx→FI→Prop}{pins:List (Addr×Obj)}{s:FI}{σ:St}{H:Hp}{u:tx}{pos:Pos}{Q:tx→FI→Prop}(I:Inv X pins σ H s)(hg:Gl X x)(hm:X.mg x=some u)(h:Q u s)
  (hd:(x==("__debug__":Str))=false:=by decide):wpAny (model X.prog X.w) A (eval (.Name x pos) X.env) Q E s:=
 Jf I.ok.kind hg (Lq (by rw[I.ok.glob];exact I.mod.glob.keeps I.bk) hm h) hd
theorem nQ (hD:dH X.K Dc)(hm:X.mg x=some (.ref Dc))(hs:∀a,QSs (cxH X a) (b0::suite) ts)(hr:QH X bR r)(hg:Gl X x:=by rfl)(hdb:(x==("__debug__":Str))=false:=by decide):
  QH X (.ExceptHandler (some (.Name x np)) none (b0::suite) hp::bR) (qR X.K Dc ts r):=by
 refine⟨fun pins s0 σ H1 H' C a d s3 D e1 e2 hex I F hC h=>?_⟩
 obtain⟨b,hb,q⟩:=h
 have I3:=F.inv I
 obtain⟨oe,vs,_,_,_,_,he,hc,hdc,hd,_⟩:=F.tr
 refine wpAny_handleBy_cons (codeAny_handlers_test (vb I3 hg hm ?_ hdb)) (by intro q;cases q)
 refine kZ I3.kIn hC hD he hc hb ?_
 have q:=cq q
 cases b with
 |false=>exact hr.out pins s0 σ H1 H' C a d s3 D e1 e2 hex I F hC q
 |true=>
  refine codeAny_handlers_suite (rH I F fun s4 F4=>?_)
  refine Gj ((hs a).out pins s4 σ H' D (F4.inv I).toH q) (fun f s5 h5=>?_) fun _ _ z=>z.elim
  exact SP.ofH I.ok h5
end
def qk (K:pz)(tb:(St→XK)→TS)(th:TH)(te:TS):TS:=fun D σ H=>
 tb (fun σ' cls d H'=>∃C,cls=.ref C∧dH K C∧th D σ' C d H') {D with nx:=te D} σ H
abbrev cxT (X:Cx)(pn:List (Addr×Obj))(E':tx→FI→Prop):Cx:={X with pn:=pn,xe:=E'}
section
variable {X:Cx}{pins pn:List (Addr×Obj)}{σ:St}{H:Hp}{s:FI}{E':tx→FI→Prop}
theorem Cx.Ok.toT (ok:X.Ok):(cxT X pn E').Ok:=⟨ok.mod,ok.kind,ok.glob,ok.blt,ok.above,ok.inj,ok.has,ok.cab,ok.hd,ok.frames,ok.stk,ok.exf,ok.bs,ok.bsz,ok.noex,ok.exfs,ok.funs,ok.frf⟩
theorem Inv.toT (I:Inv X pins σ H s):Inv (cxT X (X.pn++pins) E') [] σ H s:=⟨I.ok.toT,I.os,I.bare,I.base,I.loc,I.cell,I.free,I.freeC,fun p hp=>I.pin p (by
 have hp:p∈(X.pn++pins)++[]:=hp
 rwa [GW]at hp),I.hok,I.len⟩
theorem Inv.ofT {pins':List (Addr×Obj)}(ok:X.Ok)(I:Inv (cxT X (X.pn++pins) E') pins' σ H s):Inv X pins σ H s:=⟨ok,I.os,I.bare,I.base,I.loc,I.cell,I.free,I.freeC,fun p hp=>I.pin p (Hz _ hp),I.hok,I.len⟩
theorem pT {body orelse:List Stmt}{h0:JQ}{hs:List JQ}{pos:Pos}{tb:(St→XK)→TS}{te:TS}{th:TH}
  (hb:∀(pn':List (Addr×Obj))(E':tx→FI→Prop)(EH:St→XK),dX (CX1 X.prog X.w) (cxT X pn' E') EH→QSs (cxT X pn' E') body (tb EH))(hh:QH X (h0::hs) th)(he:QSs X orelse te)
  (e1:X.stack=X.env::X.outer:=by rfl)(e2:X.env.frame=some X.env.locals:=by rfl)(hex:X.ex=[]:=by rfl):QS X (.Try body (h0::hs) orelse [] pos) (qk X.K tb th te):=by
 refine⟨fun pins s σ H D I h=>?_⟩
 let E':tx→FI→Prop:=fun e s1=>∃σ1 H1 s0 C a d H',e=.ref a∧Inv X pins σ1 H1 s0∧Fly X.prog X.w X.stack H1 s0 (.ref C) .none a d H' s1∧dH X.K C∧th D σ1 C d H'
 have pass:dX (CX1 X.prog X.w) (cxT X (X.pn++pins) E') (fun σ' cls d H'=>∃C,cls=.ref C∧dH X.K C∧th D σ' C d H'):=by
  intro pins' σ1 H1 s0 e s1 I1 hx
  obtain⟨a,C,d,H',rfl,F,C',ec,hC,ht⟩:=hx
  cases ec
  exact⟨σ1,H1,s0,C,a,d,H',rfl,I1.ofT I.ok,F,hC,ht⟩
 refine wpAny_Try_except (Gj ((hb (X.pn++pins) E' _ pass).out [] s σ H _ I.toT h) (fun f s1 h1=>?_) fun e s1 h1=>?_)
 ·cases f with
  |next=>
   obtain⟨σ',H',J,q⟩:=h1
   exact he.out pins s1 σ' H' D (J.ofT I.ok) q
  |brk=>obtain⟨σ',H',J,q⟩:=h1;exact⟨σ',H',J.ofT I.ok,q⟩
  |cont=>obtain⟨σ',H',J,q⟩:=h1;exact⟨σ',H',J.ofT I.ok,q⟩
  |ret u=>obtain⟨v,σ',H',J,rv,q⟩:=h1;exact⟨v,σ',H',J.ofT I.ok,rv,q⟩
 ·obtain⟨σ1,H1,s0,C,a,d,H',rfl,I1,F,hC,ht⟩:=h1
  obtain⟨T,a0,hT0,hT1,f1,f2,f3,f4⟩:=F.flying I1
  have hfr:=I1.ok.frames
  rw[e1]at hfr
  have f3':=f3
  rw[e1]at f3'
  have f1':=f1
  have f2':=f2
  have f4':=f4
  rw[e1]at f1' f2' f4'
  refine HT.pR hfr f3' e2 f4' f1' f2' fun h' n1=>?_
  refine HT.oJ (s:={s1 with heap:=h'}) n1.st n1.fr n1.tr fun h'' n2=>?_
  have st:(gS s1.heap X.stack a T).StaysIn h'':=by rw[e1];exact n2.st
  have tr:HT.TrD h'' (gS s1.heap X.stack a T) a (.ref C) a0 d .none:=by rw[e1];exact n2.tr
  have F3:=F.moved (oT:={cls:=.none,data:=.dict #[]}) I1.stack I1.stkFree (F.inv I1).stkFree hT0 hT1 st (n1.up.trans n2.up) tr
  exact hh.out pins s0 σ1 H1 H' C a d _ D e1 e2 hex I1 F3 hC ht
end
end L2
namespace HT
open PySem PyProof.Rows
section
variable {prog:Gd}{w:GH}{A:GC}{E:tx→FI→Prop}{s:FI}
theorem iy {t sl:Addr}{items:Array tx}{vl vu:tx}{lo hi:Option Int}{Q:tx→FI→Prop}(ht:KF s.heap t items)(hs:s.heap.IsSliceOf sl vl vu .none)(pl:Le vl lo)(pu:Le vu hi)
  (hw:sIx items.size 0 lo=0∧sIx items.size items.size hi=items.size)(h:Q (.ref t) s):wpAny (model prog w) A (getItem (.ref t) (.ref sl)) Q E s:=by
 obtain⟨os,hos,hcs,hds⟩:=id hs
 have hTs:s.TypeIs (.ref sl) "slice":=⟨os,hos,hcs⟩
 unfold getItem
 try with_reducible refine Hf ?_
 first|refine ah (FK ?_)|skip
 refine ah (NJ ht.typeIs (by decide) ?_)
 refine ah (GM (name:=Ho "__getitem__") ht.typeIs GQ
  (GN GQ ht.typeIs Nv ?_ (NE _ _)))
 show wpAny _ _ (Kb (.ref t)>>=_) _ _ s
 refine ah (tupleItemsOf_ ht ?_)
 refine ah (Jz hTs ?_)
 rw[if_pos (by decide)]
 refine ah (fW hs pl pu ?_)
 have hyes:(((sIx items.size 0 lo:Nat):Int)==0&&(1:Int)==1&&(sIx items.size items.size hi- sIx items.size 0 lo)==items.size)=true:=by
  rw[hw.1,hw.2];simp
 show wpAny _ _ (if (((sIx items.size 0 lo:Nat):Int)==0&&(1:Int)==1&&(sIx items.size items.size hi- sIx items.size 0 lo)==items.size)=true then _ else _) _ _ s
 rw[if_pos hyes]
 have hte:s.TypeIs (.ref t) "tuple":=ht.typeIs
 unfold Od
 repeat (first|exact⟨_,rfl,FK h⟩|(with_reducible refine Jz hte ?_)|wp_step)
end
section
variable {prog:Gd}{w:GH}{A:GC}{E:tx→FI→Prop}{s:FI}
theorem uo {t b:Addr}{ws:List tx}{Q:tx→FI→Prop}(ht:KF s.heap t #[])(hb:KF s.heap b ws.toArray)(h1:Q (.ref b) s):wpAny (model prog w) A (binaryOp .Add (.ref t) (.ref b)) Q E s:=by
 obtain⟨⟨cls,dd,data,sl⟩,ho,hc,n,hd⟩:=id ht
 obtain⟨⟨cls2,dd2,data2,sl2⟩,ho2,hc2,n2,hd2⟩:=id hb
 simp only at hc hd hc2 hd2
 subst hc hd hc2 hd2
 exact MN ⟨_,ho,rfl⟩ ⟨_,ho2,rfl⟩ Lm Ms Jy Ju (Jl _ _)
  (tuple_addW0 t b #[] ws.toArray n n2 dd dd2 sl sl2 (by simp)) ⟨ho,ho2,h1⟩
end
end HT
namespace L2
open PySem PySem.Spec PyProof.Rows
theorem au.rfl' {H:Hp}:au H H:=fun _ _ e=>e
theorem qL {xs:List V}{lo hi:Option Int}(h:HT.sIx xs.length 0 lo=0∧HT.sIx xs.length xs.length hi=xs.length):eA xs lo hi=xs:=by
 unfold eA
 rw[h.1,h.2,Lj,Jq,GZ]
section
variable {X:Cx}
def vV:V→Option Int→Option Int→Hp→VK→Prop:=fun x lo hi H Q=>∃a xs,x=.ref a∧H a=some (.tup xs)∧∀p H',au H H'→H' p=some (.tup (eA xs lo hi))→Q (.ref p) H'
theorem xL:SlR X vV:=by
 intro pins s σ H x v vl vu lo hi sl Q I rx hs pl pu h
 obtain⟨a,xs,rfl,hx,q⟩:=h
 have hq:SqT X.K H a xs:=.inl (.inl hx)
 by_cases hw:HT.sIx xs.length 0 lo=0∧HT.sIx xs.length xs.length hi=xs.length
 ·cases rx
  obtain⟨its,r,ht,hz⟩:=I.tuple hq
  have hlen:its.toArray.size=xs.length:=by rw[FL];exact r.length.symm
  refine⟨"tuple",_,GQ.lookup,ht.typeIs,?_⟩
  refine HT.iy ht hs pl pu (by rw[hlen];exact hw) ?_
  exact⟨.ref a,H,I,rfl,q a H au.rfl' (by rw[qL hw];exact hx)⟩
 ·exact Ay pins s σ H _ v vl vu lo hi sl Q I rx hs pl pu ⟨a,xs,rfl,hq,hw,fun p hp=>q p _ (au.upd hp) (aj ..)⟩
def vY:R2:=fun x y H Q=>∃a b xs ys,x=.ref a∧y=.ref b∧H a=some (.tup xs)∧H b=some (.tup ys)∧xs.length+ys.length≤sizeLine∧∀p H',au H H'→H' p=some (.tup (xs++ys))→Q (.ref p) H'
theorem wD:OpR X (binaryOp .Add) vY:=by
 intro pins s σ H x y v u Q I rx ry h
 obtain⟨a,b,xs,ys,rfl,rfl,ha,hb,hz,q⟩:=h
 by_cases hx:xs=[]
 ·subst hx
  cases rx
  cases ry
  obtain⟨its,r1,p1,_⟩:=I.tuple (.inl (.inl ha))
  obtain⟨its2,r2,p2,_⟩:=I.tuple (.inl (.inl hb))
  cases r1
  exact HT.uo p1 p2 ⟨.ref b,H,I,rfl,q b H au.rfl' hb⟩
 ·refine xa pins s σ H _ _ v u Q I rx ry ⟨a,b,xs,ys,rfl,rfl,.inl (.inl ha),.inl (.inl hb),hx,hz,fun e=>?_,fun _ p hp=>q p _ (au.upd hp) (aj ..)⟩
  subst e
  exact q a H au.rfl' (by rw[GW];exact ha)
def bo (K:pz):R2:=fun x y H Q=>match x,y with
 |.int i,.int j=>Q (.int (i+j)) H
 |.str i,.str j=>i.length+j.length≤sizeLine∧Q (.str (i++j)) H
 |.ref a,.ref b=>zu (.ref a) (.ref b) H Q∨vY (.ref a) (.ref b) H Q
 |_,_=>False
theorem bG:OpR X (binaryOp .Add) (bo X.K):=(zk.or (pW.or (zh.or wD))).imp fun x y H Q q=>by
 unfold bo at q
 split at q
 ·exact .inl ⟨_,_,rfl,rfl,q⟩
 ·exact .inr (.inl ⟨_,_,rfl,rfl,q.1,q.2⟩)
 ·exact .inr (.inr q)
 ·exact q.elim
def yx (K:pz):V→Option Int→Option Int→Hp→VK→Prop:=fun x lo hi H Q=>yQ K x lo hi H Q∨vV x lo hi H Q
theorem zf:SlR X (yx X.K):=wB.or xL
end
theorem Fun.okN {P:Gd}{w:GH}{K:pz}{mg:Str→Option tx}{base:Heap}{CX:CXT}{x qual:Str}{st:Stmt}{f:Addr}{fd:FX}{N ps:List Str}{k:Nat}{sp:Sp}(F:Fun K x qual st f fd)(S:aD N ps (av st))(len:∀vs H Q E,sp vs H Q E→vs.length=ps.length)
  (hbody:∀(cdv:tx)(A:GC)(outer:List Env)(s:FI)(H:Hp)(vs:List V)(Q:VK)(E:XK),bn k (A.deeper (envOfC qual (av st) s.heap.objs.size f cdv))→sp vs H Q E→
   ∃t,PSs (fA CX P w K mg base N qual (av st) f cdv A outer s H E).nox (bf st) t∧t {nx:=fun _ H'=>Q .non H',rt:=Q} (cJ N vs) H):aM P w K mg base CX (k+1) f fd ps sp:=by
 obtain⟨oc,od,kV,doc,pm,an,cdv,ct,osl,rfl,lk,hcd⟩:=F.ex
 refine Bx lk hcd S len fun A outer s H vs Q E hr hsp=>?_
 obtain⟨t,h,q⟩:=hbody cdv A outer s H vs Q E hr hsp
 exact⟨t,h.nox,q⟩
section
variable {X:Cx}
def AF:V→Option Int→Option Int→Hp→VK→Prop:=fun x lo hi H Q=>∃z,x=.str z∧z.length≤sizeLine∧Q (.str (Txt.slice z lo hi)) H
theorem AE:SlR X AF:=by
 intro pins s σ H x v vl vu lo hi sl Q I rx hs pl pu h
 obtain⟨z,rfl,hz,q⟩:=h
 obtain⟨t,rfl⟩:=(show ∃t,v=Kf z t from rx)
 refine⟨"str",_,F.slot_str_getitem.lookup,NP _ _ _,?_⟩
 have fin:∀(l u:Option (Int×Tok)),l.map (·.1)=lo→u.map (·.1)=hi→s.heap.IsSlice sl l u none→wpAny (model X.prog X.w) X.A (getItem (.str z t) (.ref sl)) (EP X pins σ Q) X.xe s:=fun l u e1 e2 hs'=>by
  subst e1 e2
  refine wpAny_getItem_str_slice (l:=l) (u:=u) (st:=none) hs' rfl (post_val_or_str ⟨Gk (Txt.slice_le z _ _) hz,fun t' k=>⟨.str _,H,I.tok k,⟨_,rfl⟩,q⟩⟩)
 obtain⟨os,hos,hcs,hds⟩:=hs
 cases pl with
 |none=>cases pu with
  |none=>exact fin none none rfl rfl ⟨os,hos,hcs,hds⟩
  |int j tj=>exact fin none (some (j,tj)) rfl rfl ⟨os,hos,hcs,hds⟩
 |int i ti=>cases pu with
  |none=>exact fin (some (i,ti)) none rfl rfl ⟨os,hos,hcs,hds⟩
  |int j tj=>exact fin (some (i,ti)) (some (j,tj)) rfl rfl ⟨os,hos,hcs,hds⟩
def iN (K:pz):V→Option Int→Option Int→Hp→VK→Prop:=fun x lo hi H Q=>yx K x lo hi H Q∨AF x lo hi H Q
theorem gM:SlR X (iN X.K):=zf.or AE
def iR:V→Bool
 |.int _=>true
 |.str _=>true
 |_=>false
theorem pV {A:GC}{s:FI}{x y:V}{u v:tx}(rx:aO x u)(ry:aO y v)(hx:iR x=true)(hy:iR y=true):PySem.SeqAt.EqAt A s u v (decide (x=y)):=by
 cases x<;>first|cases hx|skip
 all_goals (cases y<;>first|cases hy|skip)
 ·obtain⟨t,rfl⟩:=rx;obtain⟨t',rfl⟩:=ry
  have e:=JV (A:=A) (s:=s) ‹Int› t ‹Int› t'
  rename_i i j
  have e2:decide (V.int i=V.int j)=(i==j):=by rw[iL (f:=V.int) fun _ _ e=>V.int.inj e];rfl
  rw[e2];exact JV i t j t'
 ·obtain⟨t,rfl⟩:=rx;obtain⟨t',rfl⟩:=ry
  exact Kv _ _ _ _
 ·obtain⟨t,rfl⟩:=rx;obtain⟨t',rfl⟩:=ry
  exact Ku _ _ _ _
 ·obtain⟨t,rfl⟩:=rx;obtain⟨t',rfl⟩:=ry
  rename_i i j
  have e2:decide (V.str i=V.str j)=(i==j):=by
   rw[iL (f:=V.str) fun _ _ e=>V.str.inj e]
   by_cases h:i=j
   ·rw[h];simp
   ·rw[decide_eq_false h];exact(beq_eq_false_iff_ne.mpr h).symm
  rw[e2];exact Nh i t j t'
theorem rT {xs ys:List V}:decide (xs=ys)=((Kr (min xs.length ys.length)).all (fun j=>decide (xs[j]?=ys[j]?))&&xs.length==ys.length):=by
 by_cases h:xs=ys
 ·subst h;simp
 ·rw[decide_eq_false h]
  by_cases hl:xs.length=ys.length
  ·rw[hl,Nat.min_self,beq_self_eq_true,NH]
   symm
   rw[List.all_eq_false]
   apply Ja
   intro hn
   apply h
   apply Ks fun i=>?_
   by_cases hi:i<ys.length
   ·apply Ja
    intro hne
    exact hn ⟨i,JX.mpr hi,by simpa using hne⟩
   ·rw[Hm (by omega),Hm (by omega)]
  ·have:(xs.length==ys.length)=false:=by simpa using hl
   rw[this,Bool.and_false]
def Az (K:pz):R2:=fun x y H Q=>∃a b xs ys,x=.ref a∧y=.ref b∧SqT K H a xs∧SqT K H b ys∧xs.all iR=true∧ys.all iR=true∧Q (.bl (decide (xs=ys))) H
theorem zX (hu:X.A.units<cLine):OpR X (compareOp .Eq) (Az X.K):=by
 intro pins s σ H x y v u Q I rx ry h
 obtain⟨a,b,xs,ys,rfl,rfl,ha,hb,px,py,q⟩:=h
 cases rx
 cases ry
 obtain⟨its,r1,p1,_⟩:=I.tuple ha
 obtain⟨its2,r2,p2,_⟩:=I.tuple hb
 have l1:=r1.length
 have l2:=r2.length
 refine PySem.SeqAt.eq_tupleAt (e:=fun j=>decide (xs[j]?=ys[j]?)) p1 p2 hu (fun j h1 h2=>?_) ?_
 ·have h1:j<its.length:=by simpa using h1
  have h2:j<its2.length:=by simpa using h2
  have e1:xs[j]?=some xs[j]:=FQ (by omega)
  have e2:ys[j]?=some ys[j]:=FQ (by omega)
  obtain⟨u1,g1,ru1⟩:=r1.get e1
  obtain⟨u2,g2,ru2⟩:=r2.get e2
  have g1':its.toArray[j]=u1:=by
   rw[FQ h1]at g1;simpa using FY g1
  have g2':its2.toArray[j]=u2:=by
   rw[FQ h2]at g2;simpa using FY g2
  rw[g1',g2',e1,e2]
  have:decide (some xs[j]=some ys[j])=decide (xs[j]=ys[j]):=by simp
  rw[this]
  exact pV ru1 ru2 (Ht.mp px _ (Ky _)) (Ht.mp py _ (Ky _))
 ·have e:=rT (xs:=xs) (ys:=ys)
  rw[l1,l2]at e
  simp only[FL]
  rw[←e]
  exact⟨.bl _,H,I,rfl,q⟩
end
end L2
namespace HT
open PySem PyProof.Rows
section
variable {prog:Gd}{w:GH}{A:GC}{E:tx→FI→Prop}{s:FI}
theorem oa {it t:Addr}{i:Nat}{items:Array tx}{x:tx}{Q:tx→FI→Prop}(hit:s.heap.IsTupleIter it t i)(ht:s.heap.IsTuple t items)(hx:items[i]?=some x)
  (hQ:∀h',h'.IsTupleIter it t (i+1)→HU it s.heap h'→Q x {s with heap:=h'}):wpAny (model prog w) A (GI (.ref it)) Q E s:=by
 obtain⟨o,ho,hc,hd⟩:=id hit
 obtain⟨ol,hol,_,nl,hdl⟩:=ht
 unfold GI
 refine ah (GM (name:=Ho "__next__") hit.typeIs Ls
  (GN Ls hit.typeIs F.entry_tuple_iterator_next ?_ (F.args_tuple_iterator_next_1 _)))
 show wpAny _ _ (field (.ref it) 0>>=_) _ _ s
 refine ah (Gx ho hd (x:=.ref t) rfl ?_)
 show wpAny _ _ (if (FT t==HE)=true then _ else _) _ _ s
 rw[if_neg (show ¬((FT t==HE)=true)from FZ)]
 show wpAny _ _ (field (.ref it) 1>>=_) _ _ s
 refine ah (Gx ho hd (x:=.int i 0) rfl ?_)
 show wpAny _ _ (seqItems? (.ref t)>>=_) _ _ s
 refine ah (Hq hol hdl ?_)
 simp only[Im,hx]
 refine ah (LR ho hd (by simp) (FK ⟨x,rfl,FK (hQ _ ?_ (II ..))⟩))
 exact⟨_,Gy _ ho (JP (IC hd _)),(MR ..).trans hc,by rw[IC hd];simp[rawInt]⟩
end
abbrev itO (t:Addr):Obj:={cls:=.type "tuple_iterator",data:=.fields #[.ref t,.int 0 0]}
end HT
namespace L2
open PySem PySem.Spec PyProof.Rows
section
variable {X:Cx}{pins:List (Addr×Obj)}{σ:St}{H H1:Hp}{s s0:FI}{a:Addr}{o:HO}
theorem Inv.track2 (I0:Inv X pins σ H1 s0)(I:Inv X pins σ H s)(new:s0.heap.objs.size≤a)(hn:H a=none)(ok:aY X.prog X.w (upd H a o) s.heap a o):Inv X pins σ (upd H a o) s:=by
 have ne:∀b u,s0.heap.get? b=some u→b≠a:=fun b u e=>Gf (Ge (FM e) new)
 have ne0:∀b u,X.s₀.heap.get? b=some u→b≠a:=fun b u e=>Gf (Ge (FM e) (Gk I0.sz new))
 have nL:X.env.locals≠a:=by
  obtain⟨m,⟨o',_,_,e,_⟩,_⟩:=I0.loc
  exact ne _ _ e
 refine⟨I.ok,I.os,I.bare,⟨I.base.keep,I.base.slot,fun b u e n hx=>?_,I.base.there,fun b xs e=>?_,fun b u v e=>?_,fun b ps e=>?_⟩,I.loc,I.cell,?_,fun x c e=>?_,fun p hp=>?_,fun b u e=>?_,I.len⟩
 ·rw[al (ne0 b u e)];exact I.base.free b u e n hx
 ·have:=I.base.tups b xs e
  rw[al (aq this hn)];exact this
 ·have:=I.base.frzs b u v e
  rw[al (aq this hn)];exact this
 ·obtain⟨more,this⟩:=I.base.tbls b ps e
  exact⟨more,by rw[al (aq this hn)];exact this⟩
 ·rw[al nL];exact I.free
 ·obtain⟨v,o',e',_⟩:=I0.cell x c e
  rw[al (ne _ _ e')];exact I.freeC x c e
 ·obtain⟨h1,h2,h3⟩:=I.pin p hp
  exact⟨h1,by rw[al (ne _ _ (I0.pin p hp).1)];exact h2,h3⟩
 ·by_cases hb:b=a
  ·subst hb
   rw[aj]at e;cases e
   exact ok
  ·rw[al hb]at e
   exact(I.hok b u e).stay (fun c v _ q=>q) (fun c q=>by
    have:c≠a:=aq q hn
    rw[al this];exact q) fun c xs q=>by
    have:c≠a:=aq q hn
    rw[al this];exact q
end
section
variable {X:Cx}{a b:Expr}{t:TA}{p pos ep:Pos}{elts:List Expr}{ek:Nat}
theorem zU:bootBuiltins "zip"=some (.type "zip"):=by decide+kernel
end
section
variable {X:Cx}{a b:Expr}{t:TA}{p pos ep px py:Pos}{elts:List Expr}{ek:Nat}{x y:Str}{iter:Expr}{wi:TI}{tS:TS}
theorem rO (i j:Nat)(hN:X.N.Nodup){body:List Stmt}(hi:QI X (.Tuple [.Name x px,.Name y py] ek ep) iter wi)(hb:QSs X body tS)(hp:LC (model X.prog X.w) X.A X.env X.xe)(hc:X.calm=true:=by rfl)
  (hj:X.N[i]?=some x:=by rfl)(hx:Loc X.env.scope x:=by first|exact .inl rfl|exact .inr rfl)(hf:X.fn x=true∨X.env.scope.names.lookup x=some .local:=by first|exact .inl rfl|exact .inr rfl)
  (hj2:X.N[j]?=some y:=by rfl)(hx2:Loc X.env.scope y:=by first|exact .inl rfl|exact .inr rfl)(hf2:X.fn y=true∨X.env.scope.names.lookup y=some .local:=by first|exact .inl rfl|exact .inr rfl)
  (hs:∀x,foldedSetIterable iter X.env x=pure x:=by intro _;rfl):QS X (.For (.Tuple [.Name x px,.Name y py] ek ep) iter body [] pos) (ej wi (jE X.K 2 (dI (aw i) (dI (aw j) jJ))) tS):=
 ⟨rV hp hc hi.out (sB hc (hJ (gK hN hj hx hf) (hJ (gK hN hj2 hx2 hf2) pe))) hb.out hs⟩
end
def bq (C:Addr)(m:Str)(sp:Sp)(E:St→XK)(ta:TE)(t:TA):TE:=fun σ H Q=>ta σ H fun x H1=>∃a dx fs,x=.ref a∧H1 a=some (.ins C dx fs)∧fs.lookup m=none∧t σ H1 fun vs H2=>sp (x::vs) H2 Q (E σ)
def nv (C:Addr)(sp:Sp)(E:St→XK)(t:TA):TE:=fun σ H Q=>t σ H fun vs H1=>∀x dx,H1 x=none→H1 dx=none→dx≠x→
 sp (.ref x::vs) (upd (upd H1 dx (.own x)) x (.ins C dx [])) (fun v H2=>v=.non∧Q (.ref x) H2) (E σ)
section
variable {X:Cx}{CX:CXT}{k:Nat}{f C:Addr}{fd:FX}{ps:List Str}{sp:Sp}{E:St→XK}{x m fl:Str}{p pos apos pos':Pos}{e o value:Expr}{es:List Expr}{ta tv to:TE}{t:TA}
theorem gp (he:QE X e ta)(hb:attributeBase e fl X.env (eval e X.env)=eval e X.env:=by rfl):QE X (.Attribute e fl pos) (gD X.K ta fl):=⟨AA he.out hb⟩
theorem im (ho:QE X o to)(hv:QE X value tv)(hs:swapsWith value (some (.Attribute o fl pos')) pos.line X.env=pure false:=by rfl):QS X (.Assign [.Attribute o fl pos'] value pos) (lf X.K to tv fl):=⟨Al ho.out hv.out hs⟩
theorem bD {pl:Sem Bool}(he:QE X o ta)(c:Cls X.K C)(hm:eP X.K C m f)(F:aM X.prog X.w X.K X.mg X.base CX k f fd ps sp)(hr:bn k X.A)(hb:bI X.K fd ps [])(hx:dX CX X E)(ha:QA X (e::es) t)
  (hs:aS (e::es)=true:=by rfl)
  (ht:eval (.Call (.Attribute o m apos) (e::es) [] pos) X.env=(do
   let ov←eval o X.env
   standAt apos.atName
   let (f,first)←holding [ov] (getMethod ov m pl)
   callWith pos f first (backTo pos (starEach (e::es) X.env)) (backToKw pos (keywordEach [] X.env))):=by rfl):
  QE X (.Call (.Attribute o m apos) (e::es) [] pos) (bq C m sp E ta t):=⟨fun pins s σ H Q I h=>by
 have h':(bF e&&aS es)=true:=hs
 refine JU (pl:=pl) (thn (he.out pins s σ H _ I h) fun u s1 ⟨x,H1,I1,rx,a,dx,fs,ex,ea,l,q⟩=>?_) ht
 subst ex
 obtain rfl:u=FT a:=rx
 refine ka I1 ea c hm l ?_
 refine Mw (first:=[.ref a]) (h₀:=X.base) I.ok.mod.kin hm.kp (thn (ha.out pos pins s1 σ H1 _ I1 q) fun us s2 ⟨vs,H2,I2,r,q2⟩=>⟨I2.kIn,?_⟩)
  (aT (FP.mp h').1 es X.env) (bw (FP.mp h').2)
 exact kS (us:=.ref a::us) (vs:=.ref a::vs) F hr hb hx I2 (.cons rfl r) q2⟩
theorem nG {pl:Sem Bool}(he:QE X o ta)(c:Cls X.K C)(hm:eP X.K C m f)(F:aM X.prog X.w X.K X.mg X.base CX k f fd ps sp)(hr:bn k X.A)(hb:bI X.K fd ps [])(hx:dX CX X E)
  (ht:eval (.Call (.Attribute o m apos) [] [] pos) X.env=(do
   let ov←eval o X.env
   standAt apos.atName
   let (f,first)←holding [ov] (getMethod ov m pl)
   callWith pos f first (backTo pos (starEach [] X.env)) (backToKw pos (keywordEach [] X.env))):=by rfl):
  QE X (.Call (.Attribute o m apos) [] [] pos) (bq C m sp E ta ak):=⟨fun pins s σ H Q I h=>by
 refine JU (pl:=pl) (thn (he.out pins s σ H _ I h) fun u s1 ⟨x,H1,I1,rx,a,dx,fs,ex,ea,l,q⟩=>?_) ht
 subst ex
 obtain rfl:u=FT a:=rx
 refine ka I1 ea c hm l ?_
 exact W.callWith_K0 (first:=[.ref a]) I1.kIn hm.kp (kS (us:=[.ref a]) (vs:=[.ref a]) F hr hb hx I1 (.cons rfl .nil) q)⟩
theorem rB {pins:List (Addr×Obj)}{σ:St}{H:Hp}{s:FI}{Q:VK}{us:List tx}{vs:List V}(M:Mk X.K C f)(F:aM X.prog X.w X.K X.mg X.base CX k f fd ps sp)(hr:bn (k+1) X.A)(hb:bI X.K fd ps [])
  (hx:dX CX X E)(I:Inv X pins σ H s)(r:aJ vs us)
  (h:∀x dx,H x=none→H dx=none→dx≠x→sp (.ref x::vs) (upd (upd H dx (.own x)) x (.ins C dx [])) (fun v H2=>v=.non∧Q (.ref x) H2) (E σ)):
  wpAny (model X.prog X.w) X.A (call (.ref C) us) (EP X pins σ Q) X.xe s:=by
 have hq:=h (s.heap.objs.size+1) s.heap.objs.size (I.hok.fresh (IN _)) (I.hok.fresh (gV _)) (Gf (Hb _))
 have I2:=Inv.made (C:=C) I
 have r2:aJ (V.ref (s.heap.objs.size+1)::vs) (FT (s.heap.objs.size+1)::us):=.cons rfl r
 have hl:(FT (s.heap.objs.size+1)::us).length=ps.length:=by
  have e:=r2.length
  rw[F.len _ _ _ _ hq]at e
  exact e.symm
 have hb':=hb _ (FT (s.heap.objs.size+1)::us) I2.kIn (by rw[GW];exact hl)
 rw[GW]at hb'
 refine KN (tJ (f:=f) I.kIn M.makes M.init (beq_iff_eq.mp M.fn) (Ip (F.run _ X.stack _ _ ⟨FT (s.heap.objs.size+1)::us,[]⟩ (FT (s.heap.objs.size+1)::us) _ _ (E σ) (hr.make C us [])
  (I2.env0.make C us []) hb' r2 hq) fun r s' hq'=>?_))
 cases r with
 |error e=>exact hx pins σ _ _ e s' I2 hq'
 |ok fl=>
  cases fl with
  |ret u=>
   obtain⟨v,H',I3,rv,ev,q3⟩:=I2.after hq'
   subst ev
   exact⟨rv,⟨V.ref (s.heap.objs.size+1),H',I3,rfl,q3⟩⟩
  |next=>exact Gm hq'
  |brk=>exact Gm hq'
  |cont=>exact Gm hq'
theorem oS (M:Mk X.K C f)(F:aM X.prog X.w X.K X.mg X.base CX k f fd ps sp)(hr:bn (k+1) X.A)(hm:X.mg x=some (.ref C))(hb:bI X.K fd ps [])(hx:dX CX X E)(ha:QA X (e::es) t)
  (hg:Gl X x:=by rfl)(hdb:(x==("__debug__":Str))=false:=by decide)(hs:aS (e::es)=true:=by rfl):QE X (.Call (.Name x p) (e::es) [] pos) (nv C sp E t):=⟨fun pins s σ H Q I h=>by
 have h':(bF e&&aS es)=true:=hs
 refine GL (oW I hg hm ?_ hdb)
 refine Mw (h₀:=X.base) I.ok.mod.kin M.kp (thn (ha.out pos pins s σ H _ I h) fun us s1 ⟨vs,H1,I1,r,q⟩=>⟨I1.kIn,?_⟩) (aT (FP.mp h').1 es X.env) (bw (FP.mp h').2)
 exact rB M F hr hb hx I1 r q⟩
end
mutual
inductive du (K:pz)(H:Hp):V→Ld→Prop
 |non:du K H .non .none
 |bl (b):du K H (.bl b) (.bool b)
 |int (i):du K H (.int i) (.int i)
 |str (z):du K H (.str z) (.str z)
 |lst {a xs ds}:SqL K H a xs→DatVs K H xs ds→du K H (.ref a) (.list ds)
 |tup {a xs ds}:SqT K H a xs→DatVs K H xs ds→du K H (.ref a) (.tuple ds)
inductive DatVs (K:pz)(H:Hp):List V→List Ld→Prop
 |nil:DatVs K H [] []
 |cons {x xs d ds}:du K H x d→DatVs K H xs ds→DatVs K H (x::xs) (d::ds)
end
section
variable {X:Cx}
mutual
theorem cL {pins:List (Addr×Obj)}{σ:St}{H:Hp}{s:FI}(I:Inv X pins σ H s):∀{x:V}{d:Ld},du X.K H x d→∀{v:tx},aO x v→∃as,Reads s.heap v d as
 |_,_,.non,_,r=>by cases r;exact⟨_,.none⟩
 |_,_,.bl b,_,r=>by cases r;exact⟨_,.bool b⟩
 |_,_,.int i,_,r=>by obtain⟨t,rfl⟩:=r;exact⟨_,.int i t⟩
 |_,_,.str z,_,r=>by obtain⟨t,rfl⟩:=r;exact⟨_,.str z t⟩
 |_,_,.lst h hs,_,r=>by
  cases r
  obtain⟨its,r1,⟨o,n,h1,h2,_,h3⟩,_⟩:=I.list h
  obtain⟨as,ra⟩:=datVs_reads I hs r1
  exact⟨_,.list h1 h2 h3 (by simpa using ra)⟩
 |_,_,.tup h hs,_,r=>by
  cases r
  obtain⟨its,r1,⟨o,h1,h2,n,h3⟩,_⟩:=I.tuple h
  obtain⟨as,ra⟩:=datVs_reads I hs r1
  exact⟨_,.tuple h1 h2 h3 (by simpa using ra)⟩
theorem datVs_reads {pins:List (Addr×Obj)}{σ:St}{H:Hp}{s:FI}(I:Inv X pins σ H s):∀{xs:List V}{ds:List Ld},DatVs X.K H xs ds→∀{vs:List tx},aJ xs vs→∃as,ReadsAll s.heap vs ds as
 |_,_,.nil,_,r=>by cases r;exact⟨_,.nil⟩
 |_,_,.cons h hs,_,r=>by
  cases r with
  |cons r1 r2=>
   obtain⟨as,a⟩:=cL I h r1
   obtain⟨bs,b⟩:=datVs_reads I hs r2
   exact⟨_,.cons a b⟩
end
def qD (K:pz):R2:=fun x y H Q=>∃d e,du K H x d∧du K H y e∧d.canLay0=true∧e.canLay0=true∧d.depth≤150∧Q (.bl (d.eqv e)) H
def uQ (K:pz):R2:=fun x y H Q=>∃d e,du K H x d∧du K H y e∧d.canLay0=true∧e.canLay0=true∧d.depth≤150∧Q (.bl (!d.eqv e)) H
theorem Aj (hu:X.A.units+150<cLine):OpR X (compareOp .Eq) (qD X.K):=by
 intro pins s σ H x y v u Q I rx ry h
 obtain⟨d,e,hd,he,cd,ce,dp,q⟩:=h
 obtain⟨as,ra⟩:=cL I hd rx
 obtain⟨bs,rb⟩:=cL I he ry
 exact PySem.SeqAt.compareEq_reads ra rb cd ce (by have:=KW d.depth e.depth;omega) ⟨.bl _,H,I,rfl,q⟩
theorem yf (hu:X.A.units+150<cLine):OpR X (compareOp .NotEq) (uQ X.K):=by
 intro pins s σ H x y v u Q I rx ry h
 obtain⟨d,e,hd,he,cd,ce,dp,q⟩:=h
 obtain⟨as,ra⟩:=cL I hd rx
 obtain⟨bs,rb⟩:=cL I he ry
 exact PySem.SeqAt.compareNe_reads ra rb cd ce (by have:=KW d.depth e.depth;omega) ⟨.bl _,H,I,rfl,q⟩
theorem bn.units150 {k:Nat}{A:GC}(r:bn k A):A.units+150<cLine:=by have:=r.un;omega
def gA (K:pz):R2:=fun x y H Q=>match x,y with
 |.ref a,y=>uQ K (.ref a) y H Q
 |x,.ref b=>uQ K x (.ref b) H Q
 |x,y=>mNe x y H Q
theorem kP (hu:X.A.units+150<cLine):OpR X (compareOp .NotEq) (gA X.K):=((yf hu).or oNe).imp fun x y H Q q=>by
 unfold gA at q
 split at q
 ·exact .inl q
 ·exact .inl q
 ·exact .inr q
def qo:V→List V→Hp→VK→Prop:=fun x vs H Q=>match x,vs with|.int i,[]=>Q (.int (Hy i)) H|_,_=>False
theorem xB:MtR X "int.bit_length" qo:=by
 intro pins s σ H x xs v us Q I rx rs q
 unfold qo at q
 split at q
 ·obtain⟨t,rfl⟩:=rx
  cases rs
  exact call_int_bit_length ⟨.int _,H,I.tok _,⟨_,rfl⟩,q⟩
 ·exact q.elim
def lm:List V→Hp→VK→Prop:=fun xs H Q=>match xs with|[.int i,.int j]=>Q (.int (if j<i then j else i)) H|_=>False
theorem zo (hc:X.calm=true):bH X (.builtin "min") lm:=fun pins s σ H xs us Q I r q=>by
 unfold lm at q
 split at q
 ·exact sJ hc pins s σ H _ us Q I r ⟨_,_,rfl,q⟩
 ·exact q.elim
variable {o:Expr}{to:TE}{name:Str}{apos cpos:Pos}{T id:String}{rm:V→List V→Hp→VK→Prop}
theorem mF (pa:KQ T)(slot:Slot T name id)(hty:typeOf (.builtin id)=pure (.type "method_descriptor"))(hm:MtR X id rm)(ho:QE X o to)
 (hbase:attributeBase o name X.env (eval o X.env)=eval o X.env:=by rfl)(hline:(apos.endLine==cpos.line)=true:=by rfl):QE X (.Call (.Attribute o name apos) [] [] cpos) (iM X.K T rm to):=⟨zy pa slot hty hm ho.out hbase hline⟩
end
theorem aG {n:Nat}(h:n≤1000000):n≤sizeLine:=by rw[HR];omega
theorem BF (k:Nat):((2^k:Nat):Int)=(2:Int)^k:=by simp
theorem Af {α:Type}{xs:List α}{i:Int}(h0:0≤i)(h1:i<xs.length):∃c,atI xs i=some c:=by
 unfold atI ixN
 rw[if_pos h0,if_pos h1]
 have:i.toNat<xs.length:=by omega
 exact⟨xs[i.toNat],by show xs[i.toNat]?=_;rw[FQ this]⟩
section
variable {X:Cx}
theorem bn.units1 {k:Nat}{A:GC}(r:bn k A):A.units+1<cLine:=by have:=r.un;omega
def Ac:R2:=fun x y H Q=>∃a v,x=.ref a∧eL H a y (some v)∧Q v H
theorem wM (hu:X.A.units+1<cLine):IxR X Ac:=by
 intro value slice pins s σ H x y v u Q I rx ry h hs
 obtain⟨a,w0,rfl,g,q⟩:=h
 obtain rfl:v=FT a:=rx
 have hT:=oz I g
 have h2:wpAny (model X.prog X.w) X.A (getItem (.ref a) u) (EP X pins σ Q) X.xe s:=rJ hu I g ry fun w' s3 I3 rw'=>⟨w0,H,I3,rw',q⟩
 unfold subscriptTail
 refine ah ?_
 rw[getitemInPython_of_ne hT.not_modules]
 refine ah (Hv hT PySem.F.slot_dict_getitem.lookup ?_)
 have fin:wpAny (model X.prog X.w) X.A (subscripted slice false (.ref a) u) (fun r s₃=>wpAny (model X.prog X.w) X.A (letTemporaryGo value (.ref a) r>>=fun _=>pure r) (EP X pins σ Q) X.xe s₃) X.xe s:=by
  rw[hs]
  exact wpAny_operating (Gj h2 (fun r s₃ h₃=>ah (wpAny_letTemporaryGo (FK h₃))) fun _ _ x=>x)
 first
  |exact FK (ah fin)
  |exact ah (FK (ah fin))
  |exact ah fin
def aA (K:pz):R2:=fun x y H Q=>rIx K x y H Q∨Ac x y H Q
theorem ay (hu:X.A.units+1<cLine):IxR X (aA X.K):=yV.or (wM hu)
def vT:V→V→V→Hp→(Hp→Prop)→Prop:=fun o i v H Q=>∃a H',o=.ref a∧lg H a i v H'∧Q H'
theorem va (hu:X.A.units+1<cLine):qH X vT:=by
 intro pins s σ H o i v ov iv u Q I ro ri rv h
 obtain⟨a,H',rfl,g,q⟩:=h
 obtain rfl:ov=FT a:=ro
 exact sL hu I g ri rv fun s4 I4=>⟨H',I4,q⟩
def qh:V→V→V→Hp→(Hp→Prop)→Prop:=fun o i v H Q=>vL o i v H Q∨vT o i v H Q
theorem xv (hu:X.A.units+1<cLine):qH X qh:=by
 intro pins s σ H o i v ov iv u Q I ro ri rv h
 rcases h with h|h
 ·exact tB pins s σ H o i v ov iv u Q I ro ri rv h
 ·exact va hu pins s σ H o i v ov iv u Q I ro ri rv h
variable {o e:Expr}{to te:TE}{p pos:Pos}
theorem vE {ti:TE}{i:Expr}(hu:X.A.units+1<cLine)(ho:QE X o to)(hi:QE X i ti)(he:QE X e te)(hs:swapsWithSole [.Subscript o i p] e pos.line X.env=pure false:=by rfl)(hw:swappedStores [.Subscript o i p] e X.env=pure none:=by rfl)(ha:∀v,assign (.Subscript o i p) X.env v=(do let ov←holding [v] (eval o X.env);let iv←holding [v,ov] (eval i X.env);standAt p;holding [v,ov,iv] (setItem ov iv v);release [v,ov,iv] []):=by intro _;rfl):QS X (.Assign [.Subscript o i p] e pos) (aB te (uV to ti qh)):=⟨sK he.out (Aa ho.out hi.out (xv hu) ha) hs hw⟩
def pE:R2:=fun y x H Q=>∃a o,x=.ref a∧eL H a y o∧Q (.bl (!o.isSome)) H
theorem sI (hu:X.A.units+1<cLine):OpR X (compareOp .NotIn) pE:=by
 intro pins s σ H x y v u Q I rx ry h
 obtain⟨a,ov,rfl,g,q⟩:=h
 obtain rfl:u=FT a:=ry
 exact xq hu I g rx fun s3 I3=>⟨.bl (!ov.isSome),H,I3,rfl,q⟩
def oO (K:pz):R2:=fun y x H Q=>∃d ds,du K H y d∧(du K H x (.list ds)∨du K H x (.tuple ds))∧Hi ds=true∧d.canLay0=true∧d.depth≤140∧Q (.bl (!ds.any fun e=>e.eqv d)) H
theorem sS (hu:X.A.units+150<cLine):OpR X (compareOp .NotIn) (oO X.K):=by
 intro pins s σ H x y v u Q I rx ry h
 obtain⟨d,ds,hd,hx,c1,c2,dp,q⟩:=h
 obtain⟨as,ra⟩:=cL I hd rx
 have hm:X.A.units+1+min (Gi ds) d.depth<cLine:=by have:=KG (Gi ds) d.depth;omega
 rcases hx with hx|hx
 ·obtain⟨bs,rb⟩:=cL I hx ry
  exact PySem.SeqAt.notIn_list_reads rb ra c1 c2 hm ⟨.bl _,H,I,rfl,q⟩
 ·obtain⟨bs,rb⟩:=cL I hx ry
  exact PySem.SeqAt.notIn_tuple_reads rb ra c1 c2 hm ⟨.bl _,H,I,rfl,q⟩
def gG (K:pz):R2:=fun y x H Q=>pE y x H Q∨oO K y x H Q
theorem lb (hu:X.A.units+150<cLine):OpR X (compareOp .NotIn) (gG X.K):=(sI (by omega)).or (sS hu)
def nY:TE:=fun σ H Q=>rW σ H Q∨sQ σ H Q
theorem pq:QE X (.Dict [] [] pos) nY:=⟨fun pins s σ H Q I h=>h.elim (uZ pins s σ H Q I) (uT pins s σ H Q I)⟩
theorem rq:bH X (.builtin "len") (fun xs H Q=>∃p kvs,xs=[.ref p]∧H p=some (.dT kvs)∧Q (.int kvs.length) H):=by
 intro pins s σ H xs us Q I r h
 obtain⟨a,kvs,rfl,e,q⟩:=h
 obtain⟨u,rfl,r1⟩:=fK r
 cases r1
 obtain⟨z,hd,ps,rel,dd⟩:=pY I.hok e
 have hl:ps.length=kvs.length:=(Paired.length rel).symm
 have hT:s.TypeIs (.ref a) "dict":=dd.typeIs
 obtain⟨o,es,ep,ho,hc,hdat,he,his,hn⟩:=dd
 have hsz:es.size=kvs.length:=by rw[←hl];have:=congrArg KL he;simpa using this
 have M:MeetsIn X.prog X.w (Iw.«dict.__len__» ⟨[.ref a],[]⟩) (fun _ R s=>s.heap.get? a=some o∧R (.ok (.ret (.int kvs.length s.toks))) {s with toks:=s.toks+1}):=
  .of_wp fun A R s ⟨ho,h⟩=>by
   show wpAny _ _ (dictSize a>>=_) _ _ s
   unfold dictSize
   refine ah (ah (NM ho hdat (FK ?_)))
   show wpAny _ _ (Builtin.Dict.pendingCount a>>=_) _ _ s
   refine ah (wpAny_pendingCount_other hd ?_)
   refine wpAny_ret_mkInt ?_
   rw[Nat.add_zero,hsz];exact h
 refine Calls.call_function_entry kind_len plain_len entry_len (args_len1 _) ?_
 unfold Iw.«len»
 refine ah (m:=oneArg "len" _) (FK ?_)
 refine ah (m:=callSpecial? (.ref a) (Ho "__len__")) (GM (name:=Ho "__len__") hT NU
  (MO NU hT F.entry_dict_len (F.args_dict_len_1 _) M ⟨ho,?_⟩))
 show wpAny _ _ _ _ _ {s with toks:=s.toks+1}
 refine ah (Hf (FK ?_))
 refine ah (JO ?_)
 have zz:kvs.length≤sizeLine:=z
 rw[HR]at zz
 show wpAny _ _ (if ((kvs.length:Nat):Int)<0 then _ else _) _ _ _
 rw[if_neg (by omega)]
 show wpAny _ _ (if ((kvs.length:Nat):Int)≥2^63 then _ else _) _ _ _
 rw[if_neg (by omega)]
 exact ah (Nl (FK ⟨_,rfl,⟨.int kvs.length,H,I.tok _,⟨_,rfl⟩,q⟩⟩))
def bU (K:pz):List V→Hp→VK→Prop:=fun xs H Q=>xO K xs H Q∨∃p kvs,xs=[.ref p]∧H p=some (.dT kvs)∧Q (.int kvs.length) H
theorem cg:bH X (.builtin "len") (bU X.K):=DV.or rq
def Fd (H:Hp)(a:Addr)(y d:V)(r:V)(H':Hp):Prop:=(eL H a y (some r)∧H'=H)∨(eL H a y none∧lg H a y d H'∧r=d)
theorem eS {A:GC}{E:tx→FI→Prop}{s:FI}{P:Gd}{w:GH}{K:Type}[DecidableEq K]{knd:HeapKind P w K}{d a:Addr}{xs:List (K×Addr×tx)}{k:K}{v:tx}{Q:tx→FI→Prop}(hu:knd.room A)(hkey:knd.is s.heap k a)(hm:s.heap.DictOfH knd d xs)
  (hthere:∀p,atKey xs k=some p→Q p.2 {s with toks:=s.toks+knd.draws k})
  (hQ:atKey xs k=none→∀h',h'.DictOfH knd d (storedH xs k a v)→HU d s.heap h'→Q v {s with heap:=h',toks:=s.toks+knd.draws k})
  (hsz:xs.length≤sizeLine):
  wpAny (model P w) A (dictSetDefault d (.ref a) v) Q E s:=by
 obtain⟨o,es,ep,ho,hc,hd,he,his,hn⟩:=hm
 unfold dictSetDefault
 try with_reducible refine Hf ?_
 refine ah (knd.pyHash hu hkey ?_)
 refine ah (wpAny_dictFind_heap (s:={s with toks:=s.toks+knd.draws k}) hu hkey ho hd he his hn ?_ ?_)
 ·intro hno
  have hnot:k∉xs.map (·.1):=not_mem_keys_of_get hno
  refine ah (Jo (ah (wpAny_updateDictKeys (hz:=by have e:=size_of_entries he;omega) (s:={s with toks:=s.toks+knd.draws k}) ho hd (FK (hQ (JG hno) _ ⟨_,_,ep+1,Gy _ ho (Obj.isFreed_of_dict (Mj hd _)),
   hc.mapDictKeys _,Mj hd _,?_,?_,?_⟩ (II ..))))))
  ·rw[Nn (JG hno)]
   simp[he,entryOfKey]
  ·rw[Nn (JG hno)]
   intro x hx
   rcases Gs.mp hx with hx|hx
   ·exact knd.keeps (his x hx) ho hd (II ..)
   ·simp only[FU]at hx
    subst hx
    exact knd.keeps hkey ho hd (II ..)
  ·rw[Nn (JG hno)]
   rw[Gb,List.nodup_append]
   refine⟨hn,by simp,?_⟩
   intro x hx y hy
   simp only[Gw,Kw,FU]at hy
   subst hy
   exact fun e=>hnot (e▸hx)
 ·intro j p hj
  refine ah (NM (s:={s with toks:=s.toks+knd.draws k}) ho hd ?_)
  rw[entry_at he j,hj]
  exact ah (Jo (FK (hthere p (atKey_of_get hn hj))))
end
theorem uK {h:Heap}{a:Addr}{its:Array tx}(p:PlainL h a its):h.IsList a its:=let ⟨o,n,e,c,_,d⟩:=p;⟨o,e,c,n,d⟩
set_option genInjectivity false in
set_option genSizeOf false in
structure dj where
 qual:Str
 body:FuncBody
 scope:Scope
 ps:List Str
 ys:List Str
def mP (t:dj)(cs:List Addr)(c:Addr)(fd:FX):Prop:=
 fd.qualname=t.qual∧fd.body=t.body∧fd.scope=t.scope∧fd.globals=mainGlobals∧fd.closure=t.ys.zip cs∧fd.code=.ref c∧fd.builtins=builtinsNs∧
  (∀us:List tx,us.length=t.ps.length→bindArgs fd ⟨us,[]⟩=pure (t.ps.zip us))∧cs.Nodup∧cs.length=t.ys.length
def dO (f:Addr)(t:dj)(cs:List Addr)(c:Addr):HO:=.ext fun h=>∃od fd sl,h.get? f=some ⟨.type "function",od,.func fd,sl⟩∧mP t cs c fd
def dz (c:Addr)(qual:Str):HO:=.ext fun h=>∃o vs tk,h.get? c=some o∧o.data=.fields vs∧vs[1]?=some (.str qual tk)
def cG (c:Addr)(v:V):HO:=.ext fun h=>∃u o,aO v u∧h.get? c=some o∧o.data=.cell (some u)
abbrev bX (H:Hp):List Addr→List V→Prop:=Paired fun c v=>H c=some (cG c v)
structure cQ (H:Hp)(f:Addr)(t:dj)(cs:List Addr)(cvs:List V):Prop where
 ex:∃c,H f=some (dO f t cs c)∧H c=some (dz c t.qual)
 cells:bX H cs cvs
theorem bX.mem {H:Hp}{cs:List Addr}{cvs:List V}(h:bX H cs cvs):∀c∈cs,∃v,H c=some (cG c v):=by
 induction h with
 |nil=>intro c hc;cases hc
 |cons r t ih=>
  intro c hc
  rcases Gh.mp hc with rfl|hc
  ·exact⟨_,r⟩
  ·exact ih c hc
theorem bX.get {H:Hp}{cs:List Addr}{cvs:List V}(h:bX H cs cvs):∀{i:Nat}{v:V},cvs[i]? =some v→∃c,cs[i]? =some c∧H c=some (cG c v):=by
 induction h with
 |nil=>intro i v e;cases e
 | @cons c w cs ws r t ih=>
   intro i v e
   cases i with
   |zero=>cases e;exact⟨c,rfl,r⟩
   |succ i=>exact ih e
def bB (cs:List Addr)(H:Hp):Hp:=fun b=>if b∈cs then none else H b
def bL (cs:List Addr)(H H':Hp):Hp:=fun b=>if b∈cs then H b else H' b
theorem cz {cs:List Addr}{H:Hp}{b:Addr}(h:b∈cs):bB cs H b=none:=if_pos h
theorem br {cs:List Addr}{H:Hp}{b:Addr}(h:b∉cs):bB cs H b=H b:=if_neg h
theorem jD {cs:List Addr}{H H':Hp}{b:Addr}(h:b∈cs):bL cs H H' b=H b:=if_pos h
theorem bY {cs:List Addr}{H H':Hp}{b:Addr}(h:b∉cs):bL cs H H' b=H' b:=if_neg h
theorem bX.notin {H:Hp}{cs:List Addr}{cvs:List V}(h:bX H cs cvs){b:Addr}{o:HO}(e:H b=some o)(hn:∀φ,o≠.ext φ):b∉cs:=fun hb=>by
 obtain⟨v,ev⟩:=h.mem b hb
 rw[e]at ev
 exact hn _ (FY ev)
theorem bX.hide {H:Hp}{cs:List Addr}{cvs:List V}(h:bX H cs cvs){b:Addr}{o:HO}(e:H b=some o)(hn:∀φ,o≠.ext φ):bB cs H b=some o:=by
 rw[br (h.notin e hn)];exact e
theorem au.hide {H H':Hp}(cs:List Addr)(s:au (bB cs H) H'):au H (bL cs H H'):=fun b o e=>by
 by_cases hb:b∈cs
 ·rw[jD hb];exact e
 ·rw[bY hb];exact s _ _ (by rw[br hb];exact e)
section
variable {P:Gd}{w:GH}{fs:List Addr}{H H':Hp}{h h':Heap}{cs:List Addr}{cvs:List V}
theorem wF (hc:bX H cs cvs)(ok:HOk P w H h):HOk P w (bB cs H) h:=fun b o e=>by
 by_cases hb:b∈cs
 ·rw[cz hb]at e;cases e
 ·rw[br hb]at e
  exact(ok b o e).stay (fun c u _ q=>q) (fun c q=>hc.hide q fun φ z=>nomatch z) fun c xs q=>hc.hide q fun φ z=>nomatch z
theorem lx (hc:bX H cs cvs)(hfs:∀b∈fs,H b=none)(ok:HOk P w H h)(u:Un fs [] (bB cs H) H' h h')(ok':HOk P w H' h'):Un fs [] H (bL cs H H') h h'∧HOk P w (bL cs H H') h':=by
 have obj:∀c∈cs,∃v o,H c=some (cG c v)∧h.get? c=some o∧h'.get? c=some o∧H' c=none:=fun c hm=>by
  obtain⟨v,ev⟩:=hc.mem c hm
  obtain⟨_,⟨o,eo⟩,_⟩:=(show aY P w H h c (cG c v)from ok c _ ev)
  refine⟨v,o,ev,eo,u.keep c o eo (cz hm) (fun z=>?_) (by simp),u.free c o eo (cz hm) (by simp)⟩
  rw[hfs c z]at ev;cases ev
 have nin:∀b,H b=none→b∉cs:=fun b e hb=>by
  obtain⟨v,ev⟩:=hc.mem b hb
  rw[e]at ev;cases ev
 have nin':∀b o,H' b=some o→b∉cs:=fun b o e hb=>by
  obtain⟨_,_,_,_,_,z⟩:=obj b hb
  rw[e]at z;cases z
 refine⟨⟨fun b o e n hb hx=>u.keep b o e (by rw[br (nin b n)];exact n) hb hx,fun b o e n hb hx=>u.slot b o e (by rw[br (nin b n)];exact n) hb hx,
  fun b o e n hx=>by rw[bY (nin b n)];exact u.free b o e (by rw[br (nin b n)];exact n) hx,u.there,fun b xs e=>?_,fun b o v e=>?_,fun b ps e=>?_⟩,fun b o e=>?_⟩
 ·have hb:=hc.notin e fun φ z=>nomatch z
  rw[bY hb];exact u.tups b xs (by rw[br hb];exact e)
 ·have hb:=hc.notin e fun φ z=>nomatch z
  rw[bY hb];exact u.frzs b o v (by rw[br hb];exact e)
 ·have hb:=hc.notin e fun φ z=>nomatch z
  rw[bY hb];exact u.tbls b ps (by rw[br hb];exact e)
 ·by_cases hb:b∈cs
  ·rw[jD hb]at e
   obtain⟨v,o',ev,e1,e2,_⟩:=obj b hb
   rw[e]at ev;cases ev
   obtain⟨φ1,_,φ3⟩:=(show aY P w H h b (cG b v)from ok b _ e)
   exact⟨φ3 h h' φ1 fun q hq=>by rw[e1]at hq;cases hq;exact e2,⟨o',e2⟩,φ3⟩
  ·rw[bY hb]at e
   exact(ok' b o e).stay (fun c u _ q=>q) (fun c q=>by rw[bY (nin' c _ q)];exact q) fun c xs q=>by rw[bY (nin' c _ q)];exact q
theorem CR.back {outer:List Env}{s s':FI}{Q:VK}{E:XK}{r:Lb}(hc:bX H cs cvs)(hfs:∀b∈frs outer,H b=none)(ok:HOk P w H s.heap)
  (h:CR (CX1 P w) outer P w (bB cs H) s (fun v H'=>Q v (bL cs H H')) (fun c a H'=>E c a (bL cs H H')) r s'):CR (CX1 P w) outer P w H s Q E r s':=by
 cases r with
 |error e=>
  obtain⟨a,C,d,H',rfl,F,q⟩:=h
  obtain⟨u,k⟩:=lx hc hfs ok F.un F.hok
  have na:a∉cs:=fun hb=>by
   obtain⟨v,ev⟩:=hc.mem a hb
   obtain⟨_,⟨o,eo⟩,_⟩:=(show aY P w H s.heap a (cG a v)from ok a _ ev)
   rw[F.new]at eo;cases eo
  obtain⟨oe,vs,a0,T,oT,ts,t1,t2,td,t3,t4,t5,t6,t7,t8,t9,t10,t11⟩:=F.tr
  have nT:T∉cs:=fun hb=>by
   obtain⟨v,ev⟩:=hc.mem T hb
   obtain⟨_,⟨o,eo⟩,_⟩:=(show aY P w H s.heap T (cG T v)from ok T _ ev)
   rw[t10]at eo;cases eo
  exact⟨a,C,d,_,rfl,⟨F.os,F.bare,u,k,F.new,by rw[bY na];exact F.free,⟨oe,vs,a0,T,oT,ts,t1,t2,td,t3,t4,t5,t6,t7,t8,t9,t10,by rw[bY nT];exact t11⟩⟩,q⟩
 |ok fl=>
  cases fl with
  |ret u=>
   obtain⟨v,H',os,bare,un,hok,rv,q⟩:=h
   obtain⟨u',k⟩:=lx hc hfs ok un hok
   exact⟨v,_,os,bare,u',k,rv,q⟩
  |next=>exact Gm h
  |brk=>exact Gm h
  |cont=>exact Gm h
end
structure jo (P:Gd)(w:GH)(K:pz)(mg:Str→Option tx)(base:Heap)(k:Nat)(t:dj)(sp:Sp):Prop where
 run:∀(A:GC)(outer:List Env)(s:FI)(H:Hp)(f:Addr)(cs:List Addr)(us:List tx)(vs cvs:List V)(Q:VK)(E:XK),bn k A→gB P w K mg base A outer s H→cQ H f t cs cvs→aJ vs us→vs.length=t.ps.length→
  sp (vs++cvs) (bB cs H) (fun v H'=>Q v (bL cs H H')) (fun c a H'=>E c a (bL cs H H'))→codeAny (model P w) A (.call (.ref f) ⟨us,[]⟩) (CR (CX1 P w) outer P w H s Q E) s
def eQ (N:List Str)(vs cvs:List V):St:=vs.map some++(Li (N.length- vs.length- cvs.length) none++cvs.map some)
def je (P:Gd)(w:GH)(K:pz)(mg:Str→Option tx)(base:Heap)(N:List Str)(qual:Str)(scope:Scope)(f c:Addr)(cl:List (Str×Addr))(A:GC)(outer:List Env)(s:FI)(H:Hp)(E:XK):Cx where
 prog:=P
 w:=w
 K:=K
 mg:=mg
 base:=base
 A:=A.deeper (Kt qual scope s.heap.objs.size f (.ref c) cl)
 N:=N
 s₀:=s
 H₀:=H
 env:=Kt qual scope s.heap.objs.size f (.ref c) cl
 outer:=outer
 stack:=Kt qual scope s.heap.objs.size f (.ref c) cl::outer
 ex:=[]
 calm:=true
 fn:=fun _=>false
 pn:=[]
 xe:=fun e s'=>wpAny (model P w) (A.deeper (Kt qual scope s.heap.objs.size f (.ref c) cl)) (leaving (Kt qual scope s.heap.objs.size f (.ref c) cl) e) (fun _ s''=>CX1 P w outer H s E e s'') (fun e' s''=>CX1 P w outer H s E e' s'') s'
structure ga (N ps ys:List Str)(sc:Scope):Prop where
 kind:sc.kind=.function
 co:sc.isCoroutine=false
 gen:sc.isGenerator=false
 nd:N.Nodup
 pre:N.take ps.length=ps
 suf:N.drop (N.length- ys.length)=ys
 le:ps.length+ys.length≤N.length
 par:∀x∈ps,sc.names.lookup x=some .local
 nocell:∀x∈sc.names,x.2≠.cell
 fr:∀x∈ys,sc.names.lookup x=some .free
 frs:∀y∈sc.names,y.2=.free→y.1∈ys
theorem jT {ys:List Str}{cs:List Addr}(hl:cs.length=ys.length)(nd:ys.Nodup):∀{i:Nat}{y:Str}{c:Addr},ys[i]? =some y→cs[i]? =some c→(ys.zip cs).lookup y=some c:=by
 induction ys generalizing cs with
 |nil=>intro i y c e;cases e
 |cons a r ih=>
  intro i y c e1 e2
  cases cs with
  |nil=>cases e2
  |cons b cs=>
   cases i with
   |zero=>cases e1;cases e2;show(HL _ ((_,_)::_))=_;rw[Ie];simp
   |succ i=>
    have hne:y≠a:=fun e=>(Hl.mp nd).1 (e▸Ga (show r[i]? =some y from e1))
    show(HL y ((a,b)::r.zip cs))=_
    rw[Ie,show(y==a)=false from by simpa using hne]
    exact ih (by simpa using hl) (Hl.mp nd).2 (show r[i]? =some y from e1) (show cs[i]? =some c from e2)
theorem fB {ys:List Str}{cs:List Addr}:∀{y:Str}{c:Addr},(ys.zip cs).lookup y=some c→∃i:Nat,ys[i]? =some y∧cs[i]? =some c:=by
 induction ys generalizing cs with
 |nil=>intro y c e;cases e
 |cons a r ih=>
  intro y c e
  cases cs with
  |nil=>cases e
  |cons b cs=>
   have e:(HL y ((a,b)::r.zip cs))=some c:=e
   rw[Ie]at e
   by_cases hy:(y==a)=true
   ·rw[hy]at e;cases e;exact⟨0,by simpa using(eq_of_beq hy).symm,rfl⟩
   ·rw[show(y==a)=false from by simpa using hy]at e
    obtain⟨i,h1,h2⟩:=ih e
    exact⟨i+1,h1,h2⟩
theorem kQ {ps:List Str}{us:List tx}(nd:ps.Nodup):∀{i:Nat}{x:Str}{u:tx},ps[i]? =some x→us[i]? =some u→(ps.zip us).reverse.lookup x=some u:=by
 induction ps generalizing us with
 |nil=>intro i x u e;cases e
 |cons a r ih=>
  intro i x u e1 e2
  cases us with
  |nil=>cases e2
  |cons b us=>
   show(HL x ((a,b)::r.zip us).reverse)=_
   rw[IK,List.lookup_append]
   cases i with
   |zero=>
    cases e1;cases e2
    have:(r.zip us).reverse.lookup a=none:=by
     rw[List.lookup_eq_none_iff]
     intro p hp
     have:=(Ik (List.mem_reverse.mp hp)).1
     simp only[beq_eq_false_iff_ne,ne_eq,bne_iff_ne]
     intro e
     exact(Hl.mp nd).1 (by rw[←e]at this;exact this)
    rw[this];simp
   |succ i=>
    rw[ih (Hl.mp nd).2 (show r[i]? =some x from e1) (show us[i]? =some u from e2)];rfl
section
variable {P:Gd}{w:GH}{K:pz}{mg:Str→Option tx}{base:Heap}{N ps ys:List Str}{qual:Str}{scope:Scope}{f c:Addr}{A:GC}{outer:List Env}{s:FI}{H:Hp}{E:XK}{us:List tx}{vs cvs:List V}{cs:List Addr}{h1:Heap}{tk:Nat}
theorem pb (S:ga N ps ys scope)(hd:A.handled=none)(e0:gB P w K mg base A outer s H)(ca:bX H cs cvs)(hcs:cs.Nodup)(hcl:cs.length=ys.length)(hl:vs.length=ps.length)(r:aJ vs us)
  (hns:h1.Ns s.heap.objs.size (fun x=>(ps.zip us).reverse.lookup x))(hk:∀b o,s.heap.get? b=some o→h1.get? b=some o):
  Inv (je P w K mg base N qual scope f c (ys.zip cs) A outer s (bB cs H) E) [] (eQ N vs cvs) (bB cs H) {s with heap:=h1,toks:=tk}:=by
 have ndY:ys.Nodup:=by rw[←S.suf];exact S.nd.sublist (List.drop_sublist _ _)
 have ndP:ps.Nodup:=by rw[←S.pre];exact S.nd.sublist (MJ _ _)
 have lcv:cvs.length=ys.length:=by rw[←hcl];exact(Paired.length ca).symm
 have cellOf:∀c∈cs,∃v,h1.IsCell c v:=fun c hm=>by
  obtain⟨v,ev⟩:=ca.mem c hm
  obtain⟨⟨u,o,_,eo,hd⟩,_,_⟩:=(show aY P w H s.heap c (cG c v)from e0.hok c _ ev)
  exact⟨_,o,hk _ _ eo,hd⟩
 have memC:∀x c,(ys.zip cs).lookup x=some c→c∈cs:=fun x c e=>by
  obtain⟨i,_,e2⟩:=fB e
  exact Ga e2
 have noA:∀b:Addr,b∉(je P w K mg base N qual scope f c (ys.zip cs) A outer s (bB cs H) E).ex:=fun b z=>absurd (show b∈([]:List Addr)from z) (by simp)
 have hid:∀b,H b=none→bB cs H b=none:=fun b e=>by
  by_cases hb:b∈cs
  ·exact cz hb
  ·rw[br hb];exact e
 refine⟨⟨e0.mod,S.kind,rfl,rfl,gV _,fun y z c h1 h2=>?_,fun y hy=>?_,fun y c hf _=>?_,fun _=>hd,LG e0.frames,.inr ⟨rfl,rfl⟩,fun b z=>absurd z (noA b),fun b o e=>⟨(e0.bs b o e).1,hid b (e0.bs b o e).2⟩,e0.bsz,fun b _ _=>noA b,fun b z=>absurd z (noA b),e0.funs,fun b hb=>hid b (e0.frf b hb)⟩,
  rfl,e0.bare,Un.kept hk,⟨_,hns,fun i y v q1 q2 q3=>?_⟩,fun y c h=>cellOf c (memC y c h),hid _ (e0.hok.fresh (gV _)),fun y c h=>cz (memC y c h),fun p hp=>absurd (show p∈([]:List (Addr×Obj))from hp) (by simp),(wF ca e0.hok).kept hk,?_⟩
 ·obtain⟨i,e1,e2⟩:=fB (show(ys.zip cs).lookup y=some c from h1)
  obtain⟨j,e3,e4⟩:=fB (show(ys.zip cs).lookup z=some c from h2)
  have:i=j:=by
   obtain⟨a1,b1⟩:=FN.mp e2
   obtain⟨a2,b2⟩:=FN.mp e4
   exact(MZ hcs).mp (b1.trans b2.symm)
  subst this
  rw[e1]at e3;exact FY e3
 ·have hy:scope.names.lookup y=some .cell∨scope.names.lookup y=some .free:=hy
  rcases hy with hy|hy
  ·exact absurd rfl (S.nocell _ (Hj hy))
  ·obtain⟨i,hi,e⟩:=Md.mp (S.frs _ (Hj hy) rfl)
   have hi2:i<cs.length:=by omega
   exact⟨cs[i],jT hcl ndY (FN.mpr ⟨hi,e⟩) (FQ hi2)⟩
 ·exact absurd (show false=true from hf) FZ
 ·unfold eQ at q2
  by_cases hi:i<vs.length
  ·rw[Iq (by simpa using hi),GD]at q2
   have ha:vs[i]?=some v:=by
    cases e:vs[i]? with
    |none=>rw[e]at q2;cases q2
    |some a=>rw[e]at q2;cases q2;rfl
   obtain⟨u,hu,rv⟩:=r.get ha
   have hp:ps[i]?=some y:=by
    rw[←S.pre,Iy (by omega)];exact q1
   exact⟨u,rv,.inl ⟨S.par y (Ga hp),kQ ndP hp hu⟩⟩
  ·rw[HF (by simpa using hi),FH]at q2
   by_cases hj:i- vs.length<N.length- vs.length- cvs.length
   ·rw[Iq (by simpa using hj),Lw]at q2
    split at q2<;>cases q2
   ·rw[HF (by simpa using hj),JN,GD]at q2
    have ha:cvs[i- vs.length- (N.length- vs.length- cvs.length)]?=some v:=by
     cases e:cvs[i- vs.length- (N.length- vs.length- cvs.length)]? with
     |none=>rw[e]at q2;cases q2
     |some a=>rw[e]at q2;cases q2;rfl
    have hle:=S.le
    have hiN:i<N.length:=(FN.mp q1).1
    have hx:i- vs.length- (N.length- vs.length- cvs.length)=i- (N.length- ys.length):=by omega
    rw[hx]at ha
    have hy:ys[i- (N.length- ys.length)]?=some y:=by
     have e1:N.drop (N.length- ys.length)=ys:=S.suf
     have e2:(N.drop (N.length- ys.length))[i- (N.length- ys.length)]?=some y:=by
      rw[ME]
      rw[show N.length- ys.length+(i- (N.length- ys.length))=i by omega];exact q1
     rw[e1]at e2;exact e2
    obtain⟨c,ec,hc⟩:=ca.get ha
    obtain⟨⟨u,o,ru,eo,hdo⟩,_,_⟩:=(show aY P w H s.heap c (cG c v)from e0.hok c _ hc)
    exact⟨u,ru,.inr ⟨.inr (S.fr y (Ga hy)),c,jT hcl ndY hy ec,o,hk _ _ eo,hdo⟩⟩
 ·unfold eQ
  show _=N.length
  have:=S.le
  rw[pv,pv,FH,FH,JN]
  omega
end
section
variable {P:Gd}{w:GH}{K:pz}{mg:Str→Option tx}{base:Heap}{k:Nat}{t:dj}{N:List Str}{sp:Sp}
theorem Av {body:List Stmt}(hb:t.body=.stmts body)(S:ga N t.ps t.ys t.scope)
  (hbody:∀(f c:Addr)(cl:List (Str×Addr))(A:GC)(outer:List Env)(s:FI)(H:Hp)(vs cvs:List V)(Q:VK)(E:XK),bn k (A.deeper (Kt t.qual t.scope s.heap.objs.size f (.ref c) cl))→vs.length=t.ps.length→cvs.length=t.ys.length→sp (vs++cvs) H Q E→
   ∃td,PSs (je P w K mg base N t.qual t.scope f c cl A outer s H E) body td∧td {nx:=fun _ H'=>Q .non H',rt:=Q} (eQ N vs cvs) H):jo P w K mg base (k+1) t sp:=by
 refine⟨fun A outer s H f cs us vs cvs Q E hr e0 ca r hl hsp=>?_⟩
 obtain⟨c,hf,hcc⟩:=ca.ex
 have KX:K.In s.heap:=e0.mod.kin.keeps fun b o e=>(e0.bs b o e).1
 have lim:s.heap.NoLimit:=e0.mod.nolimit.keeps fun b o e=>(e0.bs b o e).1
 obtain⟨⟨od,fd,sl,ho,h1,h2,h3,h4,h5,h6,h7,h8,h9,h10⟩,_,_⟩:=(show aY P w H s.heap f (dO f t cs c)from e0.hok f _ hf)
 obtain⟨⟨o,vs',tk,hco,hdo,hv⟩,_,_⟩:=(show aY P w H s.heap c (dz c t.qual)from e0.hok c _ hcc)
 have hcd:s.heap.CodeRec fd.code fd.qualname:=⟨c,o,vs',tk,h6,hco,hdo,by rw[h1];exact hv⟩
 refine Ip (IY (R:=CR (CX1 P w) outer P w (bB cs H) s (fun v H'=>Q v (bL cs H H')) (fun c a H'=>E c a (bL cs H H'))) hr.depth ho rfl (by rw[h3];exact S.co) (by rw[h3];exact S.gen) (h2.trans hb) hcd ?_) fun r s' h=>CR.back ca.cells e0.frf e0.hok h
 rw[h8 us (by rw[←r.length];exact hl),h3,h4,h5,h1,h6,h7]
 refine FK (Ko S.nocell (fun y hy=>S.par y.1 (Ik hy).1) (fun h' hns hsb=>⟨lim.fresh _ hsb,?_⟩) S.kind)
 have hk:∀b o,s.heap.get? b=some o→h'.get? b=some o:=fun b o e=>hsb.extBut b o (Gf (FM e)) (cW _ e)
 have lcv:cvs.length=t.ys.length:=by rw[←h10];exact(Paired.length ca.cells).symm
 obtain⟨td,ht,hq⟩:=hbody f c (t.ys.zip cs) A outer s (bB cs H) vs cvs _ _ (hr.deeper _) hl lcv hsp
 have I:=pb (tk:=s.toks+(t.ps.zip us).length) (qual:=t.qual) (f:=f) (c:=c) (E:=fun c a H'=>E c a (bL cs H H')) S hr.hd e0 ca.cells h9 h10 hl r hns hk
 show codeAny _ _ (.func body (Kt t.qual t.scope s.heap.objs.size f (.ref c) (t.ys.zip cs))) _ _
 refine La ?_
 refine Gj (ht [] _ (eQ N vs cvs) _ _ I hq) (fun fl s' hs=>?_) fun e s' hs=>hs
 cases fl with
 |ret u=>
  obtain⟨v,σ',H',J,rv,q⟩:=hs
  exact⟨v,H',J.os,J.bare,J.base,J.hok,rv,q⟩
 |next=>
  obtain⟨σ',H',J,q⟩:=hs
  exact⟨V.non,H',J.os,J.bare,J.base,J.hok,rfl,q⟩
 |brk=>
  obtain⟨_,_,_,q⟩:=hs
  exact Gm q
 |cont=>
  obtain⟨_,_,_,q⟩:=hs
  exact Gm q
end
def BM (mg:Str→Option tx)(h:Heap):Prop:=∃bm ob,mg "__builtins__"=some (.ref bm)∧bm≠builtinsNs∧h.get? bm=some ob∧ob.cls=.type "module"∧ob.dict=some builtinsNs∧ob.data=.plain
section
variable {X:Cx}{pins:List (Addr×Obj)}{σ:St}{H:Hp}{s:FI}{P c:Addr}{ps:Array tx}{t:dj}{cs:List Addr}{h':Heap}{tk:Nat}{fd:FX}
theorem uB {more:Array tx}(I:Inv X pins σ H s)(hP:H P=some (.tbl ps))(hx:Ml P s.heap h')(hge:s.heap.objs.size≤c)(hlt:c<h'.objs.size)(hrec:h'.CodeRec (.ref c) t.qual)
  (htb:h'.get? P=some (LU (ps++more)))(hfd:mP t cs c fd):
  Inv X pins σ (upd (upd (upd H P (.tbl (ps++more))) c (dz c t.qual)) h'.objs.size (dO h'.objs.size t cs c)) {s with heap:=h'.push {cls:=.type "function",data:=.func fd},toks:=tk}:=by
 have hcn:H c=none:=I.hok.fresh hge
 have hfn:H h'.objs.size=none:=I.hok.fresh (HK (Hs hge hlt))
 have ncP:c≠P:=(aq hP hcn).symm
 have nfP:h'.objs.size≠P:=(aq hP hfn).symm
 have ncf:c≠h'.objs.size:=Gf hlt
 have old:∀b o,s.heap.get? b=some o→b≠c∧b≠h'.objs.size:=fun b o e=>⟨Gf (Ge (FM e) hge),Gf (Ge (FM e) (HK (Hs hge hlt)))⟩
 have keepP:∀b o,b≠P→s.heap.get? b=some o→(h'.push {cls:=.type "function",data:=.func fd}).get? b=some o:=fun b o hb e=>cW _ (hx b o hb e)
 have neP:∀b,H b=none→b≠P:=fun b e z=>by rw[z,hP]at e;cases e
 have obj:∀b o,H b=some o→∃u,s.heap.get? b=some u:=fun b o e=>nX (I.hok b o e)
 have same:∀b o,H b=some o→b≠P→(upd (upd (upd H P (.tbl (ps++more))) c (dz c t.qual)) h'.objs.size (dO h'.objs.size t cs c)) b=some o:=fun b o e hb=>by
  rw[al (aq e hfn),al (aq e hcn),al hb];exact e
 refine I.un ⟨fun b o e n hb hx'=>keepP b o (neP b n) e,fun b o e n hb hx'=>⟨o.slots,keepP b o (neP b n) e⟩,fun b o e n hx'=>?_,fun b o e hx'=>?_,fun b xs e=>same b _ e (aL e hP (fun z=>nomatch z)),fun b o u e=>same b _ e (aL e hP (fun z=>nomatch z)),fun b qs e=>?_⟩ fun b o e=>?_
 ·rw[al (old b o e).2,al (old b o e).1,al (neP b n)];exact n
 ·by_cases hb:b=P
  ·subst hb;exact⟨_,cW _ htb⟩
  ·exact⟨o,keepP b o hb e⟩
 ·by_cases hb:b=P
  ·subst hb
   rw[hP]at e;cases e
   exact⟨more,by rw[al nfP.symm,al ncP.symm,aj]⟩
  ·exact⟨#[],by rw[same b _ e hb];simp⟩
 ·by_cases hf:b=h'.objs.size
  ·subst hf
   rw[aj]at e;cases e
   refine⟨⟨_,fd,_,FO _ rfl,hfd⟩,⟨_,FO _ rfl⟩,?_⟩
   rintro h1 h2 ⟨od,fd',sl,e1,e2⟩ k
   exact⟨od,fd',sl,k _ e1,e2⟩
  ·rw[al hf]at e
   by_cases hc:b=c
   ·subst hc
    rw[aj]at e;cases e
    obtain⟨c2,oc,vs,tq,e0,e1,e2,e3⟩:=hrec
    cases e0
    refine⟨⟨oc,vs,tq,cW _ e1,e2,e3⟩,⟨_,cW _ e1⟩,?_⟩
    rintro h1 h2 ⟨o,vs,tk,a1,a2,a3⟩ k
    exact⟨o,vs,tk,k _ a1,a2,a3⟩
   ·rw[al hc]at e
    by_cases hp:b=P
    ·subst hp
     rw[aj]at e;cases e
     exact cW _ htb
    ·rw[al hp]at e
     refine(I.hok b o e).stay (fun a u ha q=>keepP a u ?_ q) (fun a q=>same a _ q (aL q hP (fun z=>nomatch z))) fun a xs q=>same a _ q (aL q hP (fun z=>nomatch z))
     rcases ha with rfl|ha
     ·exact hp
     ·exact aL ha hP (fun z=>nomatch z)
theorem vm (I:Inv X pins σ H s)(hk:∀b o,s.heap.get? b=some o→h'.get? b=some o)(hsz:s.heap.objs.size≤h'.objs.size)(hfd:mP t cs c fd):
  Inv X pins σ (upd H h'.objs.size (dO h'.objs.size t cs c)) {s with heap:=h'.push {cls:=.type "function",data:=.func fd},toks:=tk}:=by
 refine I.laid (a:=h'.objs.size) (o:=dO h'.objs.size t cs c) (fun b u e=>cW _ (hk b u e)) hsz ⟨⟨_,fd,_,FO _ rfl,hfd⟩,⟨_,FO _ rfl⟩,?_⟩
 rintro h1 h2 ⟨od,fd',sl,e1,e2⟩ k
 exact⟨od,fd',sl,k _ e1,e2⟩
end
def tW (P:Addr)(pos:Pos)(t:dj)(cs:List Addr):TE:=fun _ H Q=>∃ps,H P=some (.tbl ps)∧TriplesOk ps.toList∧
 ((codeAmong pos ps.toList=none∧∀c f,H c=none→H f=none→c≠f→Q (.ref f) (upd (upd (upd H P (.tbl (ps++#[rawInt pos.line,rawInt pos.col,.ref c]))) c (dz c t.qual)) f (dO f t cs c)))∨
  ∃c,codeAmong pos ps.toList=some (.ref c)∧∀f,H f=none→Q (.ref f) (upd H f (dO f t cs c)))
section
variable {X:Cx}{c0 P:Addr}{params:Arguments}{scope:Scope}{pos:Pos}{t:dj}{cs:List Addr}
theorem wX {pins:List (Addr×Obj)}{σ:St}{H:Hp}{s:FI}{ps:Array tx}(I:Inv X pins σ H s)(hP:H P=some (.tbl ps))(B:BM X.mg X.base):
  s.heap.get? P=some (LU ps)∧s.heap.Ns mainGlobals X.mg∧mainGlobals≠P∧s.heap.BuiltinsAt X.mg P:=by
 have hPo:s.heap.get? P=some (LU ps):=I.hok P _ hP
 have hg:s.heap.Ns mainGlobals X.mg:=I.mod.glob.keeps I.bk
 have hgP:mainGlobals≠P:=fun q=>by
  obtain⟨o,es,ep,e,hd,_⟩:=hg
  rw[q,hPo]at e;cases e;cases hd
 obtain⟨bm,ob,b1,b2,b3,b4,b5,b6⟩:=B
 have b3':=I.bk _ _ b3
 refine⟨hPo,hg,hgP,bm,ob,b1,b2,fun q=>?_,fun q=>?_,b3',b4,b5,b6⟩
 ·obtain⟨o,es,ep,e,hd,_⟩:=hg
  rw[q,e]at b3';cases b3';rw[hd]at b6;cases b6
 ·rw[q,hPo]at b3';cases b3';cases b4
theorem wn (i:Nat){name:Str}{body:List Stmt}(hN:X.N.Nodup)(B:BM X.mg X.base)(C:Jx X.base c0 P)(hcode:X.env.code=.ref c0)(hcl:closureFor scope X.env=pure (t.ys.zip cs))(nd:cs.Nodup)(hl:cs.length=t.ys.length)
  (hq:qualnameIn X.env name name=t.qual)(hb:t.body=.stmts body)(hs:t.scope=scope)
  (hbind:∀(cl:List (Str×Addr))(doc pm cdv ct:tx)(us:List tx),us.length=t.ps.length→bindArgs (W.fnX name t.qual params body scope cl .none .none doc pm none cdv ct) ⟨us,[]⟩=pure (t.ps.zip us))
  (hi:X.N[i]?=some name:=by rfl)(hx:Loc X.env.scope name:=by first|exact .inl rfl|exact .inr rfl)(hf:X.fn name=true∨X.env.scope.names.lookup name=some .local:=by first|exact .inl rfl|exact .inr rfl)
  (hd0:params.defaults=[]:=by rfl)(hk0:params.kw_defaults=[]:=by rfl)(ha:annTrees params none X.env=[]:=by rfl):
  QS X (.FunctionDef name params body [] none [] scope none name pos) (aB (tW P pos t cs) (aw i)):=⟨fun pins s σ H D I h=>by
 obtain⟨ps,hP,ht,h⟩:=h
 obtain⟨hPo,hg,hgP,hB⟩:=wX I hP B
 have hfd:∀(doc pm ct:tx)(c:Addr),mP t cs c (W.fnX name t.qual params body scope (t.ys.zip cs) .none .none doc pm none (.ref c) ct):=fun doc pm ct c=>⟨rfl,hb.symm,hs.symm,rfl,rfl,rfl,rfl,hbind _ _ _ _ _,nd,hl⟩
 refine W.nestDef_K hd0 hk0 ha ?_
 rw[hq]
 rcases h with⟨hn,q⟩|⟨c,hff,q⟩
 ·refine W.makeFunction_K hcl I.ok.glob hg hcode (C.keeps I.bk) hPo ht hn hgP hB fun c ctv doc h' tk hx' hge hlt hrec htb=>?_
  have I2:=uB (tk:=tk) (cs:=cs) I hP hx' hge hlt hrec htb (hfd doc ((X.mg "__name__").getD .none) ctv c)
  exact fZ I2 hN hi hx (v:=.ref h'.objs.size) rfl (fun s' I3=>⟨_,_,I3,q c h'.objs.size (I.hok.fresh hge) (I.hok.fresh (HK (Hs hge hlt))) (Gf hlt)⟩) hf
 ·refine W.makeFunction_hit hcl I.ok.glob hg hcode (C.keeps I.bk) hPo ht hff hB fun ctv doc h' tk hk hsz=>?_
  have I2:=vm (tk:=tk) (cs:=cs) I hk hsz (hfd doc ((X.mg "__name__").getD .none) ctv c)
  exact fZ I2 hN hi hx (v:=.ref h'.objs.size) rfl (fun s' I3=>⟨_,_,I3,q h'.objs.size (I.hok.fresh hsz)⟩) hf⟩
end
section
variable {X:Cx}{k:Nat}{E:St→XK}{x:Str}{p pos:Pos}{e:Expr}{es:List Expr}{ta:TE}
abbrev dS:=List (dj×Sp)
def jV (ks:dS)(f:Addr)(vs:List V)(H:Hp)(Q:VK)(E:XK):Prop:=∃ts∈ks,∃cs cvs,cQ H f ts.1 cs cvs∧vs.length=ts.1.ps.length∧ts.2 (vs++cvs) (bB cs H) (fun v H'=>Q v (bL cs H H')) (fun c a H'=>E c a (bL cs H H'))
def cA (ks:dS)(E:St→XK)(ta:TE)(t:TA):TE:=fun σ H Q=>ta σ H fun x H1=>∃f,x=.ref f∧(∃ts∈ks,∃cs cvs,cQ H1 f ts.1 cs cvs)∧t σ H1 fun vs H2=>jV ks f vs H2 Q (E σ)
theorem gJ {P:Gd}{w:GH}{H:Hp}{h:Heap}{f:Addr}{t:dj}{cs:List Addr}{cvs:List V}(ok:HOk P w H h)(c:cQ H f t cs cvs):W.FnAt f h:=by
 obtain⟨c',hf,_⟩:=c.ex
 obtain⟨⟨od,fd,sl,ho,_⟩,_,_⟩:=(show aY P w H h f (dO f t cs c')from ok f _ hf)
 exact⟨_,_,_,_,ho⟩
def kK (P:Gd)(w:GH)(K:pz)(mg:Str→Option tx)(base:Heap)(k:Nat)(ks:dS):Prop:=∀ts∈ks,jo P w K mg base k ts.1 ts.2
theorem cm {ks:dS}{t:TA}(hk:kK X.prog X.w X.K X.mg X.base k ks)(hr:bn k X.A)(hx:dX (CX1 X.prog X.w) X E)(hg:QE X (.Name x p) ta)(ha:QA X (e::es) t)(hs:aS (e::es)=true:=by rfl):
  QE X (.Call (.Name x p) (e::es) [] pos) (cA ks E ta t):=⟨fun pins s σ H Q I h=>by
 have h':(bF e&&aS es)=true:=hs
 refine GL (thn (hg.out pins s σ H _ I h) fun u s1 ⟨y,H1,I1,ry,f,ey,⟨ts,hts,cs,cvs,ca⟩,q⟩=>?_)
 subst ey
 obtain rfl:u=FT f:=ry
 refine Mx (gJ I1.hok ca) (thn (ha.out pos pins s1 σ H1 _ I1 q) fun us s2 ⟨vs,H2,I2,rv,ts2,hm2,cs2,cvs2,ca2,hl,hsp⟩=>⟨gJ I2.hok ca2,?_⟩)
  (aT (FP.mp h').1 es X.env) (bw (FP.mp h').2)
 refine KN (Ip ((hk ts2 hm2).run X.A X.stack s2 H2 f cs2 us vs cvs2 Q (E σ) hr I2.env0 ca2 rv hl hsp) fun r s' hq=>?_)
 cases r with
 |error e=>exact hx pins σ H2 s2 e s' I2 hq
 |ok fl=>
  cases fl with
  |ret u=>exact I2.after hq
  |next=>exact Gm hq
  |brk=>exact Gm hq
  |cont=>exact Gm hq⟩
end
structure kA where
 nx:St→Hp→Prop
 rt:St→VK
abbrev TSM:=kA→St→Hp→Prop
def SPM (X:Cx)(pins:List (Addr×Obj))(D:kA)(f:Flow)(s':FI):Prop:=
 match f with
 |.next=>∃σ' H',Inv X pins σ' H' s'∧D.nx σ' H'
 |.ret u=>∃v σ' H',Inv X pins σ' H' s'∧aO v u∧D.rt σ' v H'
 |_=>False
structure QM (X:Cx)(st:Stmt)(t:TSM):Prop where
 out:∀(pins:List (Addr×Obj))(s:FI)(σ:St)(H:Hp)(D:kA),Inv X pins σ H s→t D σ H→wpAny (model X.prog X.w) X.A (exec st X.env) (SPM X pins D) X.xe s
structure QMs (X:Cx)(st:List Stmt)(t:TSM):Prop where
 out:∀(pins:List (Addr×Obj))(s:FI)(σ:St)(H:Hp)(D:kA),Inv X pins σ H s→t D σ H→wpAny (model X.prog X.w) X.A (execs st X.env) (SPM X pins D) X.xe s
def tZ (t u:TSM):TSM:=fun D σ H=>t {D with nx:=fun σ' H'=>u D σ' H'} σ H
def pH (t:TS):TSM:=fun D σ H=>t {nx:=D.nx,rt:=fun _ _=>False} σ H
def tU (te:TE):TSM:=fun D σ H=>te σ H (D.rt σ)
section
variable {X:Cx}{st:Stmt}{sts l m:List Stmt}{t u:TSM}{tS:TS}{e c:Expr}{te:TE}{tc:TT}{pos:Pos}
theorem rG (h:QS X st tS):QM X st (pH tS):=⟨fun pins s σ H D I hq=>thn (h.out pins s σ H _ I hq) fun f s1 q=>by
 cases f with
 |next=>exact q
 |ret v=>obtain⟨_,_,_,_,_,z⟩:=q;exact z.elim
 |brk=>obtain⟨_,_,_,z⟩:=q;exact z.elim
 |cont=>obtain⟨_,_,_,z⟩:=q;exact z.elim⟩
theorem wc (h:QE X e te):QM X (.Return (some e) pos) (tU te):=⟨fun pins s σ H D I hq=>
 NN (thn (h.out pins s σ H _ I hq) fun v s1 ⟨x,H1,I1,r1,q1⟩=>⟨x,σ,H1,I1,r1,q1⟩)⟩
theorem sv (h1:QM X st t)(h2:QMs X sts u):QMs X (st::sts) (tZ t u):=⟨fun pins s σ H D I h=>by
 refine JS (thn (h1.out pins s σ H _ I h) fun f s1 q=>?_)
 cases f with
 |next=>
  obtain⟨σ',H',I',q⟩:=q
  exact h2.out pins s1 σ' H' D I' q
 |ret v=>exact q
 |brk=>exact q
 |cont=>exact q⟩
theorem wk (h1:QM X st t):QMs X [st] t:=⟨fun pins s σ H D I h=>by
 refine JS (thn (h1.out pins s σ H D I h) fun f s1 q=>?_)
 cases f with
 |next=>exact Jt q
 |ret v=>exact q
 |brk=>exact q
 |cont=>exact q⟩
end
def dm:List (Nat×Addr)→St→Hp→Hp
 |[],_,H=>H
 |(i,c)::r,σ,H=>match σ[i]? with
  |some (some v)=>dm r σ (upd H c (cG c v))
  |_=>dm r σ H
theorem jH {P:Gd}{w:GH}{fs:List Addr}{H:Hp}{h h':Heap}{σ:St}:∀(cs:List (Nat×Addr))(H':Hp),(cs.map (·.2)).Nodup→(∀p∈cs,H' p.2=none∧h.objs.size≤p.2∧∀v,σ[p.1]? =some (some v)→∃u o,aO v u∧h'.get? p.2=some o∧o.data=.cell (some u))→
  Un fs [] H H' h h'→HOk P w H' h'→Un fs [] H (dm cs σ H') h h'∧HOk P w (dm cs σ H') h'
 |[],H',_,_,u,ok=>⟨u,ok⟩
 |(i,c)::r,H',nd,hc,u,ok=>by
  unfold dm
  have ndr:=(Hl.mp nd).2
  have hcr:∀p∈r,H' p.2=none∧h.objs.size≤p.2∧∀v,σ[p.1]? =some (some v)→∃u o,aO v u∧h'.get? p.2=some o∧o.data=.cell (some u):=fun p hp=>hc p (GF _ hp)
  split
  ·rename_i v hv
   obtain⟨hn,hge,hcell⟩:=hc (i,c) Gu
   have hn:H' c=none:=hn
   have hge:h.objs.size≤c:=hge
   obtain⟨uv,o,ru,eo,hd⟩:=hcell v hv
   have eo:h'.get? c=some o:=eo
   refine jH r (upd H' c (cG c v)) ndr (fun p hp=>⟨?_,(hcr p hp).2⟩) ⟨u.keep,u.slot,fun b ob e n hx=>?_,u.there,fun b xs e=>?_,fun b ob z e=>?_,fun b ps e=>?_⟩ fun b ob e=>?_
   ·have:p.2≠c:=fun z=>(Hl.mp nd).1 (by rw[←z];exact HC.mpr ⟨p,hp,rfl⟩)
    rw[al this];exact(hcr p hp).1
   ·rw[al (Gf (Ge (FM e) hge))];exact u.free b ob e n hx
   ·have z:=u.tups b xs e;rw[al (aq z hn)];exact z
   ·have z:=u.frzs b ob _ e;rw[al (aq z hn)];exact z
   ·obtain⟨more,z⟩:=u.tbls b ps e;exact⟨more,by rw[al (aq z hn)];exact z⟩
   ·by_cases hb:b=c
    ·subst hb
     rw[aj]at e;cases e
     refine⟨⟨uv,o,ru,eo,hd⟩,⟨o,eo⟩,?_⟩
     rintro h1 h2 ⟨u',o',r',e',d'⟩ k
     exact⟨u',o',r',k _ e',d'⟩
    ·rw[al hb]at e
     exact(ok b ob e).stay (fun a q _ z=>z) (fun a q=>by rw[al (aq q hn)];exact q) fun a xs q=>by rw[al (aq q hn)];exact q
  ·exact jH r H' ndr hcr u ok
theorem Fun.okM {P:Gd}{w:GH}{K:pz}{mg:Str→Option tx}{base:Heap}{x qual:Str}{st:Stmt}{f c0:Addr}{fd:FX}{N ps:List Str}{k:Nat}{sp:Sp}{caps:Nat→List (Nat×Addr)}(F:Fun K x qual st f fd)(hcd:fd.code=.ref c0)(S:aD N ps (av st))(len:∀vs H Q E,sp vs H Q E→vs.length=ps.length)
  (hcaps:∀(L:Nat)(p:Nat×Addr),p∈caps L→∃y,N[p.1]? =some y∧(av st).names.lookup y=some .cell∧(cellsFrom (L+1) (av st).names []).lookup y=some p.2)(hnd:∀L,((caps L).map (·.2)).Nodup)
  (hbody:∀(A:GC)(outer:List Env)(s:FI)(H:Hp)(vs:List V)(Q:VK)(E:XK),bn k (A.deeper (envOfC qual (av st) s.heap.objs.size f (.ref c0)))→sp vs H Q E→
   ∃t,QMs (fA (CX1 P w) P w K mg base N qual (av st) f (.ref c0) A outer s H E) (bf st) t∧t {nx:=fun σ H'=>(∀p∈caps s.heap.objs.size,H' p.2=none)→Q .non (dm (caps s.heap.objs.size) σ H'),rt:=fun σ v H'=>(∀p∈caps s.heap.objs.size,H' p.2=none)→Q v (dm (caps s.heap.objs.size) σ H')} (cJ N vs) H):aM P w K mg base (CX1 P w) (k+1) f fd ps sp:=by
 obtain⟨oc,od,kV,doc,pm,an,cdv,ct,osl,rfl,lk,hcd'⟩:=F.ex
 obtain rfl:cdv=.ref c0:=hcd
 refine⟨len,fun A outer s H args us vs Q E hr e0 hb r hsp=>?_⟩
 have hl:=len _ _ _ _ hsp
 have KX:K.In s.heap:=e0.mod.kin.keeps fun b o e=>(e0.bs b o e).1
 have lim:s.heap.NoLimit:=e0.mod.nolimit.keeps fun b o e=>(e0.bs b o e).1
 have hkind:∀y∈ps.zip us,(av st).names.lookup y.1=some .local∨((av st).names.lookup y.1=some .cell∧((cellsFrom (s.heap.objs.size+1) (av st).names []).lookup y.1).isSome=true):=fun⟨n,v⟩ hy=>by
  rcases S.par n (Ik hy).1 with q|q
  ·exact .inl q
  ·exact .inr ⟨q,KP _ _ _ (.inl q)⟩
 refine IY hr.depth (KX _ _ lk) rfl S.co S.gen rfl (W.codeRec_of KX hcd') (hb _ _ _ _ ?_)
 refine LK S.kind hkind fun env he s1 x=>?_
 subst he
 refine⟨lim.keeps x.toInCall.keep,La ?_⟩
 obtain⟨t,ht,hq⟩:=hbody A outer s H vs Q E (hr.deeper _) hsp
 have I:Inv (fA (CX1 P w) P w K mg base N qual (av st) f (.ref c0) A outer s H E) [] (cJ N vs) H s1:=lS S hr.hd e0 hl r x
 refine Gj (ht.out [] s1 (cJ N vs) H _ I hq) (fun fl s' hs=>?_) fun e s' hs=>hs
 have fin:∀{σ':St}{H':Hp}{v:V}{u:tx},Inv (fA (CX1 P w) P w K mg base N qual (av st) f (.ref c0) A outer s H E) [] σ' H' s'→aO v u→((∀p∈caps s.heap.objs.size,H' p.2=none)→Q v (dm (caps s.heap.objs.size) σ' H'))→CE outer P w H s Q u s':=
  fun{σ' H' v u} J rv q=>by
   have free:∀p∈caps s.heap.objs.size,H' p.2=none:=fun p hp=>by
    obtain⟨y,_,_,hc⟩:=hcaps _ p hp
    exact J.freeC y p.2 hc
   have hcond:∀p∈caps s.heap.objs.size,H' p.2=none∧s.heap.objs.size≤p.2∧∀v,σ'[p.1]? =some (some v)→∃u o,aO v u∧s'.heap.get? p.2=some o∧o.data=.cell (some u):=fun p hp=>by
    obtain⟨y,hy,hk,hc⟩:=hcaps _ p hp
    refine⟨free p hp,J.ok.cab y p.2 rfl hc,fun v hv=>?_⟩
    obtain⟨m,_,hloc⟩:=J.loc
    obtain⟨u',r',lk'⟩:=hloc p.1 y v hy hv (.inr (.inl hk))
    rcases lk' with⟨z,_⟩|⟨_,c,ec,o,eo,hd⟩
    ·have z:(av st).names.lookup y=some .local:=z
     rw[hk]at z;cases z
    ·have ec:(cellsFrom (s.heap.objs.size+1) (av st).names []).lookup y=some c:=ec
     rw[hc]at ec;cases ec
     exact⟨u',o,r',eo,hd⟩
   obtain⟨un,ok⟩:=jH (P:=P) (w:=w) (σ:=σ') (caps s.heap.objs.size) H' (hnd _) hcond J.base J.hok
   exact⟨v,_,J.os,J.bare,un,ok,rv,q free⟩
 cases fl with
 |ret u=>
  obtain⟨v,σ',H',J,rv,q⟩:=hs
  exact fin J rv q
 |next=>
  obtain⟨σ',H',J,q⟩:=hs
  exact fin (v:=V.non) (u:=HE) J rfl q
 |brk=>exact Gm hs
 |cont=>exact Gm hs
theorem rA {P:Gd}{w:GH}{K:pz}{mg mb:Str→Option tx}{CX:CXT}{k:Nat}{fa a:Addr}{fd:FX}{x:Str}{sp:Sp}{s₁:FI}{vs:List tx}{ns:List Int}{tabs:List (Addr×Addr)}
  (KX:K.In s₁.heap)(hns:s₁.heap.Ns mainGlobals mg)(hb:s₁.heap.Ns builtinsNs mb)(hbb:∀x:Str,x≠"__name__"→mb x=bootBuiltins x)(hlim:s₁.heap.NoLimit)(hg:s₁.gens=#[])(hB:BM mg s₁.heap)
  (hT:∀q∈tabs,Jx s₁.heap q.1 q.2∧s₁.heap.get? q.2=some (LU #[]))(hKT:LV K=true)
  (ha:s₁.heap.get? a=some {cls:=.type "list",data:=.seq vs.toArray})(hi:Nw vs ns)(hl:ns.length≤sizeLine)(hr:bn k callerA)
  (F:∀base:Heap,K.In base→base.Ns mainGlobals mg→BM mg base→(∀q∈tabs,Jx base q.1 q.2)→aM P w K mg base CX k fa fd [x] sp)(hbind:∀(s:FI)(u:tx),MA s fd ⟨[u],[]⟩ [(x,u)])
  (hsp:∀H:Hp,(∀q∈tabs,H q.2=some (.tbl #[]))→SqL K H a (ns.map V.int)→sp [.ref a] H (fun v _=>v=.bl true) fun _ _ _=>False)
  (hCX:∀H e s',CX [] H s₁ (fun _ _ _=>False) e s'→False):
  codeAny (model P w) callerA (.call (.ref fa) ⟨[.ref a],[]⟩) (fun r s'=>r=.ok (.ret (.bool true))∧OldK s₁.heap s'.heap∧s'.os=s₁.os∧Kj s'.gens) s₁:=by
 have rv:=lQ hi
 have lenV:=hi.length
 have tabK:∀q∈tabs,K.lookup q.2=none:=fun q hq=>by
  cases e:K.lookup q.2 with
  |none=>rfl
  |some o=>
   have e2:=KX _ _ e
   rw[(hT q hq).2]at e2;cases e2
   have:=Ht.mp hKT _ (W.mem_of_lookupK e)
   exact absurd (show false=true from this) FZ
 have tabA:∀q∈tabs,q.2≠a:=fun q hq e=>by
  have e2:=(hT q hq).2
  rw[e,ha]at e2;cases e2
 have core:∀H:Hp,(∀q∈tabs,H q.2=some (.tbl #[]))→SqL K H a (ns.map V.int)→HOk P w H s₁.heap→(∀b,H b≠none→(b=a∧∃o xs,H b=some (.frz o (.lst xs)))∨∃q∈tabs,q.2=b)→(∀b,H b≠none→K.lookup b=none)→
   codeAny (model P w) callerA (.call (.ref fa) ⟨[.ref a],[]⟩) (fun r s'=>r=.ok (.ret (.bool true))∧OldK s₁.heap s'.heap∧s'.os=s₁.os∧Kj s'.gens) s₁:=by
  intro H hO hS hok hA hK
  have base_of:∀{b:Addr}{o:Obj},s₁.heap.get? b=some o→H b=none→(fY s₁.heap H).get? b=some o:=fun e n=>vF e n
  have noA:∀{b:Addr}{o:Obj},s₁.heap.get? b=some o→o.cls≠.none→o.cls≠.type "list"→H b=none:=fun{b o} e c1 c2=>by
   cases q:H b with
   |none=>rfl
   |some u=>
    rcases hA b (by rw[q];simp)with⟨rfl,_⟩|⟨p,hp,rfl⟩
    ·rw[ha]at e;cases e;exact absurd rfl c2
    ·rw[(hT p hp).2]at e;cases e;exact absurd rfl c1
  have noD:∀{b:Addr}{o:Obj}{es:Array DictEntry}{ep:Nat},s₁.heap.get? b=some o→o.data=.dict es ep→H b=none:=fun{b o es ep} e d=>by
   cases q:H b with
   |none=>rfl
   |some u=>
    rcases hA b (by rw[q];simp)with⟨rfl,_⟩|⟨p,hp,rfl⟩
    ·rw[ha]at e;cases e;cases d
    ·rw[(hT p hp).2]at e;cases e;cases d
  have nsK:∀{b:Addr}{m:Str→Option tx},s₁.heap.Ns b m→(fY s₁.heap H).Ns b m:=fun{b m}⟨o,es,ep,e,d,r⟩=>⟨o,es,ep,base_of e (noD e d),d,r⟩
  have hKb:K.In (fY s₁.heap H):=fun b o e=>base_of (KX b o e) (by
   cases q:H b with
   |none=>rfl
   |some u=>rw[hK b (by rw[q];simp)]at e;cases e)
  have hBb:BM mg (fY s₁.heap H):=by
   obtain⟨bm,ob,b1,b2,b3,b4,b5,b6⟩:=hB
   exact⟨bm,ob,b1,b2,base_of b3 (noA b3 (by rw[b4];intro z;cases z) (by rw[b4];intro z;exact absurd (LX z) (by decide))),b4,b5,b6⟩
  have hCb:∀q∈tabs,Jx (fY s₁.heap H) q.1 q.2:=fun q hq=>by
   obtain⟨o,vs,file,tf,flags,tg,inF,text,tt,e1,e2,r⟩:=(hT q hq).1
   exact⟨o,vs,file,tf,flags,tg,inF,text,tt,base_of e1 (noA e1 (by rw[e2];intro z;cases z) (by rw[e2];intro z;exact absurd (LX z) (by decide))),e2,r⟩
  have hM:Mod K mg (fY s₁.heap H):=⟨hKb,nsK hns,⟨mb,nsK hb,hbb⟩,let ⟨mc,h1,h2⟩:=hlim;⟨mc,nsK h1,h2⟩⟩
  have e0:gB P w K mg (fY s₁.heap H) callerA [] s₁ H:=⟨rfl,hM,fun b o e=>wG e,JR (rC _ _),trivial,fun b hb=>absurd (show b∈([]:List Addr)from hb) (by simp),hok,.of_eq hg⟩
  refine Ip ((F _ hKb (nsK hns) hBb hCb).run callerA [] s₁ H ⟨[.ref a],[]⟩ [.ref a] [.ref a] _ _ hr e0 (hbind s₁ (.ref a)) (.cons rfl .nil) (hsp H hO hS)) fun r s' h=>?_
  cases r with
  |error e=>exact(hCX H e s' h).elim
  |ok fl=>
   cases fl with
   |next=>exact Gm h
   |brk=>exact Gm h
   |cont=>exact Gm h
   |ret u=>
    obtain⟨v,H',os,bare,un,hok',r',q⟩:=h
    have q':v=.bl true:=q
    subst q'
    obtain rfl:u=HA true:=r'
    have all:∀b o,s₁.heap.get? b=some o→s'.heap.get? b=some o∨∃q∈tabs,q.2=b∧∃more,s'.heap.get? b=some (LU more):=fun b o e=>by
     cases q:H b with
     |none=>exact .inl (un.keep b o e q (by intro z;exact absurd (show b∈([]:List Addr)from z) (by simp)) (by simp))
     |some u=>
      rcases hA b (by rw[q];simp)with⟨rfl,ob,xs,z⟩|⟨p,hp,rfl⟩
      ·have z2:=un.frzs b ob _ z
       obtain⟨e1,_⟩:=hok b _ z
       obtain⟨e2,_⟩:=hok' b _ z2
       rw[e]at e1;cases e1
       exact .inl e2
      ·obtain⟨more,z2⟩:=un.tbls p.2 _ (hO p hp)
       exact .inr ⟨p,hp,rfl,_,hok' p.2 _ z2⟩
    refine⟨rfl,⟨fun b o e=>?_,fun b o e=>?_⟩,os,bare⟩
    ·rcases all b o e with z|⟨p,hp,rfl,more,z⟩
     ·exact .inl z
     ·have e2:=(hT p hp).2
      rw[e]at e2;cases e2
      exact .inr (.inl ⟨((hT p hp).1.tab (hT p hp).2).isCodeTable,rfl,#[],more,rfl,by rw[Array.empty_append];exact z⟩)
    ·rcases all b o e with z|⟨p,hp,rfl,more,z⟩
     ·exact⟨_,z⟩
     ·exact⟨_,z⟩
 cases hk:K.lookup a with
 |some o=>
  have e:=KX a o hk
  rw[ha]at e
  cases e
  refine core (fun b=>if b∈tabs.map (·.2)then some (.tbl #[])else none) (fun q hq=>if_pos (HC.mpr ⟨q,hq,rfl⟩)) (.inr ⟨_,vs.toArray,_,hk,rfl,rfl,rfl,by rw[FL,lenV];exact hl,by simpa using rv⟩) (fun b u z=>?_) (fun b z=>?_) fun b z=>?_
  ·by_cases hb:b∈tabs.map (·.2)
   ·have z':=(if_pos hb).symm.trans z
    cases z'
    obtain⟨q,hq,rfl⟩:=HC.mp hb
    exact(hT q hq).2
   ·have z':=(if_neg hb).symm.trans z
    cases z'
  ·by_cases hb:b∈tabs.map (·.2)
   ·obtain⟨q,hq,e⟩:=HC.mp hb
    exact .inr ⟨q,hq,e⟩
   ·exact absurd (if_neg hb) z
  ·by_cases hb:b∈tabs.map (·.2)
   ·obtain⟨q,hq,rfl⟩:=HC.mp hb
    exact tabK q hq
   ·exact absurd (if_neg hb) z
 |none=>
  refine core (fun b=>if b=a then some (.frz {cls:=.type "list",data:=.seq vs.toArray} (.lst (ns.map V.int)))else if b∈tabs.map (·.2)then some (.tbl #[])else none)
   (fun q hq=>by show(if q.2=a then _ else _)=_;rw[if_neg (tabA q hq),if_pos (HC.mpr ⟨q,hq,rfl⟩)]) (.inl (.inr ⟨{cls:=.type "list",data:=.seq vs.toArray},if_pos rfl⟩)) (fun b u z=>?_) (fun b z=>?_) fun b z=>?_
  ·by_cases hb:b=a
   ·have z':=(if_pos hb).symm.trans z
    cases z'
    subst hb
    exact⟨ha,by rw[FH];exact hl,vs,_,rv,ha⟩
   ·have z':(if b∈tabs.map (·.2)then some (HO.tbl #[])else none)=some u:=(if_neg hb).symm.trans z
    by_cases hb2:b∈tabs.map (·.2)
    ·rw[if_pos hb2]at z';cases z'
     obtain⟨q,hq,rfl⟩:=HC.mp hb2
     exact(hT q hq).2
    ·rw[if_neg hb2]at z';cases z'
  ·by_cases hb:b=a
   ·exact .inl ⟨hb,_,_,if_pos hb⟩
   ·by_cases hb2:b∈tabs.map (·.2)
    ·obtain⟨q,hq,e⟩:=HC.mp hb2
     exact .inr ⟨q,hq,e⟩
    ·exact absurd ((if_neg hb).trans (if_neg hb2)) z
  ·by_cases hb:b=a
   ·rw[hb];exact hk
   ·by_cases hb2:b∈tabs.map (·.2)
    ·obtain⟨q,hq,rfl⟩:=HC.mp hb2
     exact tabK q hq
    ·exact absurd ((if_neg hb).trans (if_neg hb2)) z
theorem vq {l:W.OpenLaw}{n k:Nat}{q:Gd}{loose:List Str}{XP:(Str→Option tx)→Heap→Prop}{YP:GH→Heap→Prop}{d:DefRec}{K:Params→pz}{CX:GH→CXT}{x:Str}{names:List Str}
  (hn:l.most=some n)(hn2:n≤sizeLine)(hdf:d.params.defaults=[])(hr:bn k callerA)
  (hY:∀(w:GH)(h:Heap),YP w h→(K w.params).In h)
  (hq:∀y∈names,((KJ q).find? fun e=>e.name==y).isSome=true)
  (F:∀(w:GH)(mg:Str→Option tx)(fa:Addr)(h:Heap),(K w.params).In h→h.Ns mainGlobals mg→mg d.name=some (.ref fa)→
   ∃(fd:FX)(tabs:List (Addr×Addr))(sp:Sp),(∀(s:FI)(u:tx),MA s fd ⟨[u],[]⟩ [(x,u)])∧LV (K w.params)=true∧(∀t∈tabs,∃y∈names,KA (K w.params) y=some t)∧
    (∀base:Heap,(K w.params).In base→base.Ns mainGlobals mg→BM mg base→(∀t∈tabs,Jx base t.1 t.2)→aM l.prog w (K w.params) mg base (CX w) k fa fd [x] sp)∧
    ∀(H:Hp)(a:Addr)(ns:List Int),ns.length≤n→(∀t∈tabs,H t.2=some (.tbl #[]))→SqL (K w.params) H a (ns.map V.int)→sp [.ref a] H (fun v _=>v=.bl true) fun _ _ _=>False)
  (hCX:∀(w:GH)(H:Hp)(s:FI)(e:tx)(s':FI),CX w [] H s (fun _ _ _=>False) e s'→False):
  W.WalkO q loose XP YP l.row.toRowW d [] (fun f vs=>Mu f vs):=by
 refine Att.attach_call hn hdf fun w s₀ s₁ mg mb fa o pm cd doc a vs ns G Y ho hd hcd hmg hobj hints hlen hg=>?_
 have KX:=hY w _ Y
 obtain⟨fd,tabs,sp,hb,hKT,htabs,hF,hsp⟩:=F w mg fa _ KX G.T.g hmg
 refine rA (tabs:=tabs) KX G.T.g G.T.b G.T.builtins G.T.nolimit hg G.T.bmain (fun t ht=>?_) hKT hobj hints (Gk hlen hn2) hr hF hb (fun H hO hS=>hsp H a ns hlen hO hS) fun H e s'=>hCX w H s₁ e s'
 obtain⟨y,hy,e⟩:=htabs t ht
 obtain⟨dd,hdd⟩:=GO.mp (hq y hy)
 exact W.tab_of G.T KX hdd e
section
variable {X:Cx}
theorem SPM.unwish {E:tx→FI→Prop}{pins:List (Addr×Obj)}{D:kA}{f:Flow}{s':FI}(h:SPM (X.wish E) pins D f s'):SPM X pins D f s':=by
 cases f with
 |next=>obtain⟨σ',H',I,q⟩:=h;exact⟨σ',H',I.unwish,q⟩
 |brk=>exact h
 |cont=>exact h
 |ret u=>obtain⟨v,σ',H',I,r,q⟩:=h;exact⟨v,σ',H',I.unwish,r,q⟩
theorem QMs.nox {st:List Stmt}{t:TSM}(h:QMs X.nox st t):QMs X st t:=⟨fun pins s σ H D I hw=>
 Gj (h.out pins s σ H D (I.wish _) hw) (fun _ _ q=>SPM.unwish q) fun _ _ z=>Gm z⟩
theorem jo.mono {P:Gd}{w:GH}{K:pz}{mg:Str→Option tx}{base:Heap}{j k:Nat}{t:dj}{sp:Sp}(F:jo P w K mg base j t sp)(h:j≤k):jo P w K mg base k t sp:=
 ⟨fun A outer s H f cs us vs cvs Q E hr=>F.run A outer s H f cs us vs cvs Q E (hr.mono h)⟩
def oU:V→List V→Hp→VK→Prop:=fun x vs H Q=>∃a y d r H',x=.ref a∧vs=[y,d]∧Fd H a y d r H'∧Q r H'
theorem rp (hu:X.A.units+1<cLine):MtR X "dict.setdefault" oU:=by
 intro pins s σ H x xs v us Q I rx rs h
 obtain⟨a,y,d,r,H',rfl,rfl,g,q⟩:=h
 obtain rfl:v=FT a:=rx
 obtain⟨uy,ud,rfl,ry,rd⟩:=kE rs
 rcases g with⟨g,rfl⟩|⟨g,p,rfl⟩
 ·rcases g with⟨kvs,k,e,rfl,l⟩|⟨kvs,k,b,e,rfl,eb,l⟩
  ·obtain⟨z,hd,vs,rel,dd⟩:=jg I.hok e
   obtain⟨w',hw,rw'⟩:=cS.some_of (v:=r) (o:=valueAt vs k) (by rw[l];exact rel.val k)
   exact MO Hw dd.typeIs HV (HP _ _ _) (Nq (bW X.prog X.w) a (jf ry) hd ud)
    ⟨vs,dd,by rw[←rel.length];exact z,(fun v' hv'=>by rw[hw]at hv';cases hv';exact⟨r,H',I.tok _,rw',q⟩),(fun hn=>by rw[hw]at hn;cases hn)⟩
  ·cases (show uy=FT b from ry)
   obtain⟨z,hd,xs,rel,dd⟩:=jU I.hok e
   obtain⟨w',hw,rw'⟩:=cS.some_of (v:=r) (o:=(atKey xs k).map (·.2)) (by rw[l];exact rel.val k)
   obtain⟨pp,hp,hp2⟩:=Lr.mp hw
   refine GN Hw dd.typeIs HV ?_ (HP _ _ _)
   unfold Iw.«dict.setdefault»
   refine ah ?_
   unfold Ki
   refine ah (MK dd.typeIs ?_)
   show wpAny _ _ (pure (a,FT b,some ud)) _ _ s
   refine FK ?_
   show wpAny _ _ (if (a==sysModules)=true then _ else(dictSetDefault a (.ref b) ud>>=_)) _ _ s
   rw[if_neg (by rw[hd];exact FZ)]
   refine ah (eS (IM hu) (gN I.hok eb) dd (fun p' hp'=>?_) (fun hn=>?_) (by rw[←Paired.length rel];exact z))
   ·rw[hp]at hp';cases hp'
    exact FK ⟨_,rfl,⟨r,H',I.tok _,by rw[hp2];exact rw',q⟩⟩
   ·rw[hp]at hn;cases hn
 ·rcases g with⟨kvs,k,e,rfl,l⟩|⟨kvs,k,b,e,rfl,eb,l⟩
  ·rcases p with⟨kvs',k',e',ey,lz,rfl⟩|⟨kvs',k',b',e',ey,_⟩
   ·have ek:k=k':=by cases k<;>cases k'<;>first|(cases ey;rfl)|cases ey
    subst ek
    obtain⟨z,hd,vs,rel,dd⟩:=wg I.hok e'
    have ee:kvs=kvs':=by
     rcases e with e|⟨o,e⟩
     ·rw[e']at e;cases e;rfl
     ·rw[e']at e;cases e
    subst ee
    have hn:valueAt vs k=none:=cS.none_of (by rw[l];exact rel.val k)
    refine MO Hw dd.typeIs HV (HP _ _ _) (Nq (bW X.prog X.w) a (jf ry) hd ud)
     ⟨vs,dd,by rw[←rel.length];exact z,(fun v' hv'=>by rw[hn]at hv';cases hv'),fun _ h' dd' hs=>?_⟩
    have he:∃q,h'.get? a=some q:=let ⟨q,_,_,hq,_⟩:=dd';⟨q,hq⟩
    have hl:(bZ kvs k r).length≤sizeLine:=by have:=dQ kvs k r;omega
    exact⟨r,_,jj I (by rw[e'];exact HM) hs he (rc hl hd (rel.put k rd) dd'),rd,q⟩
   ·cases k<;>cases ey
  ·rcases p with⟨kvs',k',e',ey,_⟩|⟨kvs',k',b',e',ey,eb',lz,rfl⟩
   ·cases k'<;>cases ey
   ·cases ey
    have ek:k=k':=gQ (HO.tup.inj (FY (eb.symm.trans eb')))
    subst ek
    cases (show uy=FT b from ry)
    obtain⟨z,hd,xs,rel,dd⟩:=pY I.hok e'
    have ee:kvs=kvs':=by
     rcases e with e|⟨o,e⟩
     ·rw[e']at e;cases e;rfl
     ·rw[e']at e;cases e
    subst ee
    have hn:atKey xs k=none:=by
     have:=cS.none_of (o:=(atKey xs k).map (·.2)) (by rw[l];exact rel.val k)
     exact Option.map_eq_none_iff.mp this
    refine GN Hw dd.typeIs HV ?_ (HP _ _ _)
    unfold Iw.«dict.setdefault»
    refine ah ?_
    unfold Ki
    refine ah (MK dd.typeIs ?_)
    show wpAny _ _ (pure (a,FT b,some ud)) _ _ s
    refine FK ?_
    show wpAny _ _ (if (a==sysModules)=true then _ else(dictSetDefault a (.ref b) ud>>=_)) _ _ s
    rw[if_neg (by rw[hd];exact FZ)]
    refine ah (eS (IM hu) (gN I.hok eb) dd (fun p' hp'=>?_) (fun _ h' dd' hs=>?_) (by rw[←Paired.length rel];exact z))
    ·rw[hn]at hp';cases hp'
    ·obtain⟨q',es,ep,hq,h2,h3,h4,_,h5⟩:=dd'
     have hl:(bZ kvs k r).length≤sizeLine:=by have:=dQ kvs k r;omega
     refine FK ⟨_,rfl,⟨r,_,jj (ob:=.dT (bZ kvs k r)) I (by rw[e'];exact HM) hs ⟨q',hq⟩ ⟨hl,hd,_,(rel.put k eb rd).keeps fun c ys ec=>?_,q',es,ep,hq,h2,h3,h4,h5⟩,rd,q⟩⟩
     rw[al (aL ec e' (fun z=>nomatch z))]
     exact ec
def Its (z:Str):It:=⟨fun i _=>i<z.length,fun i H x H'=>H'=H∧∃c,z.cps[i]?=some c∧x=.str ⟨#[c]⟩,fun i _=>z.length≤i⟩
theorem vv {P:Gd}{w:GH}{K:pz}{tg:Expr}(z:Str)(t:Tok)(it:Addr):iK P w K tg (Its z) [it] it (fun i h=>h.IsStrIter it "str_ascii_iterator" z t i)where
 mem:=by simp
 obj:=fun i h st b hb=>by
  have e:b=it:=by simpa using hb
  subst e
  obtain⟨o,e,c,d⟩:=st
  exact⟨o,e,fun v z=>by rw[d]at z;cases z⟩
 keep:=fun i h h' st k=>let ⟨o,ho,r⟩:=st;⟨o,k it (by simp) o ho,r⟩
 item:=by
  intro X hP hw hK hc i pins s σ H E I hf st hg
  subst hP hw hK
  obtain⟨f0,f1,f2,f3,f4,f5⟩:=hf it (by simp)
  have hi:i<z.cps.size:=hg
  refine wpAny_pyNext_ascii_item st (c:=z.cps[i]) (GV hi) fun h' st' sb=>?_
  have I1:Inv X pins σ H {s with heap:=h',toks:=s.toks+1}:=I.turned (t':=s.toks+1) (fun b o hb e=>(sb.2 b hb).trans e) f0 f1 f3 f4 f5
  obtain⟨o,e,c,d⟩:=id st'
  exact⟨_,rfl,iZ (s:={s with heap:=h',toks:=s.toks+1}) e c d (by decide) ⟨.str ⟨#[z.cps[i]]⟩,H,I1,⟨_,rfl⟩,⟨rfl,_,GV hi,rfl⟩,st',fun b hb=>(hf b hb).1⟩⟩
 done:=by
  intro X hP hw hK hc i pins s σ H E I hf st hg
  subst hP hw hK
  obtain⟨f0,f1,f2,f3,f4,f5⟩:=hf it (by simp)
  exact wpAny_pyNext_ascii_end (I.ok.hd hc) st (JE (show z.cps.size≤i from hg)) fun h' eb=>⟨rfl,I.turned (t':=s.toks) (fun b o hb e=>eb b o hb e) f0 f1 f3 f4 f5⟩
 self:=fun A i s Q E st h=>by
  refine NK st.typeIs KI (GN KI st.typeIs F.entry_str_ascii_iterator_iter ?_ (F.args_str_ascii_iterator_iter_1 _))
  show wpAny _ _ (ret (.ref it)) _ _ s
  exact FK ⟨_,rfl,"str_ascii_iterator",_,st.typeIs,F.slot_str_ascii_iterator_next.lookup,h⟩
variable {a:Expr}{ta:TE}{tg:Expr}
def dN (K:pz)(tl:TE):TI:=fun σ H R=>tl σ H fun x H1=>match x with
 |.str z=>z.cps.all (·<128)=true∧R (Its z) H1
 |x=>∃a,x=.ref a∧(((∃xs,SqL K H1 a xs)∧R (Itl K a) H1)∨((∃xs,SqT K H1 a xs)∧R (Itt K a) H1))
theorem dq (h:QE X a ta):QI X tg a (dN X.K ta):=⟨fun pins s σ H R I hw=>by
 refine thn (h.out pins s σ H _ I hw) fun v s1 ⟨x,H1,I1,r1,q1⟩=>?_
 cases x with
 |str z=>
  obtain⟨t,rfl⟩:=r1
  refine wpAny_pyIter_ascii q1.1 ?_
  refine⟨s1.heap.objs.size,[s1.heap.objs.size],_,_,H1,rfl,I1.kept (t':=s1.toks) fun b o e=>cW _ e,vv z t _,⟨_,FO _ rfl,rfl,rfl⟩,fun b hb=>?_,q1.2⟩
  have e:b=s1.heap.objs.size:=by simpa using hb
  subst e
  exact I1.fpOk (gV _) (I1.hok.fresh (gV _))
 |ref c=>
  obtain⟨a,e,q⟩:=q1
  cases e
  cases r1
  rcases q with⟨⟨xs,hq⟩,q⟩|⟨⟨xs,hq⟩,q⟩
  ·obtain⟨its,rv,p,hz⟩:=I1.list hq
   refine KM (uK p) ?_
   refine⟨s1.heap.objs.size,[s1.heap.objs.size],_,_,H1,rfl,I1.kept (t':=s1.toks) fun b o e=>cW _ e,sP _ _,⟨_,FO _ rfl,rfl,rfl⟩,fun b hb=>?_,q⟩
   have e:b=s1.heap.objs.size:=by simpa using hb
   subst e
   exact I1.fpOk (gV _) (I1.hok.fresh (gV _))
  ·obtain⟨its,rv,p,hz⟩:=I1.tuple hq
   refine Ny (show s1.heap.IsTuple c its.toArray from p) ?_
   refine⟨s1.heap.objs.size,[s1.heap.objs.size],_,_,H1,rfl,I1.kept (t':=s1.toks) fun b o e=>cW _ e,qN _ _,⟨_,FO _ rfl,rfl,rfl⟩,fun b hb=>?_,q⟩
   have e:b=s1.heap.objs.size:=by simpa using hb
   subst e
   exact I1.fpOk (gV _) (I1.hok.fresh (gV _))
 |_=>obtain⟨_,e,_⟩:=q1;cases e⟩
theorem xH:OpR X (binaryOp .Mult) (fun x y H Q=>∃z n,x=.str z∧y=.int n∧(-1000≤n∧n≤1000∧z.length≤1000)∧Q (.str (Txt.mul z n)) H):=by
 intro pins s σ H x y v u Q I rx ry h
 obtain⟨z,n,rfl,rfl,⟨h1,h2,h3⟩,q⟩:=h
 obtain⟨t,rfl⟩:=rx
 obtain⟨t',rfl⟩:=ry
 refine SB.mul ⟨?_,fun hn _=>?_,fun hn _=>?_⟩ fun t' k=>⟨.str _,H,I.tok k,⟨_,rfl⟩,q⟩
 ·rw[decide_eq_false (by omega),decide_eq_false (by omega)];rfl
 ·intro hgt
  have h5:(1000:Int)≤(2^63- 1)/n:=Int.le_ediv_of_mul_le (by omega) (by omega)
  omega
 ·have h6:z.length*n.toNat≤1000*1000:=Nat.mul_le_mul h3 (by omega)
  exact decide_eq_false (by rw[HR];omega)
end
theorem yG {J:It}{n:Nat}{it:Nat→V}{Pk:Hp→Prop}{g:TG}{tb:TS}{D:eZ}{σ:St}{H:Hp}(T:cK J n it Pk)(Pv:Nat→St→Hp→Prop)(h0:Pv 0 σ H)(hl:∀i σ H,i≤n→Pv i σ H→Pk H)
  (hs:∀i σ H,i<n→Pv i σ H→g (it i) σ H fun σ2 H2=>tb {D with nx:=Pv (i+1),ct:=Pv (i+1),bk:=D.nx} σ2 H2)(hd:∀σ H,Pv n σ H→D.nx σ H):
  ∃W:Nat→Nat→St→Hp→Prop,(∃m,W 0 m σ H)∧∀i m σ H,W i m σ H→
   (J.stop i H∧D.nx σ H)∨(J.go i H∧∃N:St→Hp→Prop,(∀σ' H',N σ' H'→∃m',m'<m∧W (i+1) m' σ' H')∧∀x H',J.yld i H x H'→g x σ H' fun σ2 H2=>tb {D with nx:=N,ct:=N,bk:=D.nx} σ2 H2):=by
 refine⟨fun i m σ H=>m=n- i∧i≤n∧Pv i σ H,⟨n,by simp,Gc _,h0⟩,?_⟩
 rintro i m σ H ⟨rfl,hi,p⟩
 have q:=hl i σ H hi p
 by_cases hlt:i<n
 ·refine .inr ⟨T.go i H hlt q,Pv (i+1),fun σ' H' p'=>⟨n- (i+1),by omega,rfl,hlt,p'⟩,fun x H' y=>?_⟩
  obtain⟨rfl,rfl⟩:=T.yld i H x H' hlt q y
  exact hs i σ _ hlt p
 ·have e:i=n:=by omega
  subst e
  exact .inl ⟨T.stop H q,hd σ H p⟩
theorem pK {α β:Type}(f:β→α→β)(b:β)(l:List α)(i:Nat)(x:α)(h:l[i]?=some x):(l.take (i+1)).foldl f b=f ((l.take i).foldl f b) x:=by
 rw[Nx,h];simp
theorem eF {α β:Type}{f:α→β}{l:List α}{i:Nat}{x:β}(h:(l.map f)[i]?=some x):∃a,l[i]?=some a∧x=f a:=by
 rw[GD]at h
 cases e:l[i]? with
 |none=>rw[e]at h;cases h
 |some a=>rw[e]at h;cases h;exact⟨a,rfl,rfl⟩
theorem cQ.keep {H H':Hp}{f:Addr}{t:dj}{cs:List Addr}{cvs:List V}(k:∀b φ,H b=some (.ext φ)→H' b=some (.ext φ))(c:cQ H f t cs cvs):cQ H' f t cs cvs:=by
 obtain⟨⟨a,h1,h2⟩,h3⟩:=c
 refine⟨⟨a,k _ _ h1,k _ _ h2⟩,?_⟩
 clear h1 h2
 induction h3 with
 |nil=>exact .nil
 |cons r t ih=>exact .cons (k _ _ r) ih
theorem lO (k:List Key):(k.map kV).all iR=true:=by
 rw[List.all_map,Ht]
 intro x _
 cases x<;>rfl
def bK:Key→Ld
 |.inl i=>.int i
 |.inr z=>.str z
theorem dh {K:pz}{H:Hp}:∀k:List Key,DatVs K H (k.map kV) (k.map bK)
 |[]=>.nil
 |.inl i::r=>.cons (.int i) (dh r)
 |.inr z::r=>.cons (.str z) (dh r)
theorem fh {K:pz}{H:Hp}{a:Addr}{k:List Key}(h:H a=some (.tup (k.map kV))):du K H (.ref a) (.tuple (k.map bK)):=.tup (SqT.of h) (dh k)
theorem fo:∀k l:List Key,Lc (k.map bK) (l.map bK)=decide (k=l)
 |[],[]=>by rfl
 |[],_::_=>by rw[decide_eq_false (by simp)];rfl
 |_::_,[]=>by rw[decide_eq_false (by simp)];rfl
 |a::r,b::s=>by
  show((bK a).eqv (bK b)&&Lc (r.map bK) (s.map bK))=_
  rw[fo r s]
  have e:(bK a).eqv (bK b)=decide (a=b):=by
   cases a<;>cases b
   ·rename_i i j
    show decide (i=j)=decide (Iv i=Iv j)
    simp
   ·show false=_;simp
   ·show false=_;simp
   ·rename_i i j
    show(i==j)=decide ((Iu i:Key)=Iu j)
    by_cases h:i=j<;>simp[h]
  rw[e]
  by_cases h1:a=b<;>by_cases h2:r=s<;>simp[h1,h2]
def rZ:Key→Bool
 |.inl _=>true
 |.inr z=>JF z
theorem cC:∀{k:List Key},k.all rZ=true→Hi (k.map bK)=true
 |[],_=>rfl
 |.inl i::r,h=>cC (k:=r) (by rw[NF]at h;exact h)
 |.inr z::r,h=>by
  rw[NF,Hu]at h
  show(JF z&&Hi (r.map bK))=true
  rw[show JF z=true from h.1,cC h.2];rfl
theorem eO:∀k:List Key,Gi (k.map bK)=0
 |[]=>rfl
 |.inl i::r=>by show max 0 (Gi (r.map bK))=0;rw[eO r];rfl
 |.inr i::r=>by show max 0 (Gi (r.map bK))=0;rw[eO r];rfl
theorem tc1 {i:Nat}{σ:St}{x:V}{H:Hp}{R:List V→Hp→Prop}(e:σ[i]?=some (some x))(h:R [x] H):af (ae i) ak σ H R:=by
 unfold af ak ae
 rw[e];exact h
theorem yU (k:List Key):(GX (k.map bK)).depth≤150:=by show Gi (k.map bK)+1≤150;rw[eO];decide
theorem sG {k l:List Key}(h:(!(GX (k.map bK)).eqv (.tuple (l.map bK)))=true):k≠l:=fun e=>by
 have h:(!PyData.eqvAll (k.map bK) (l.map bK))=true:=h
 rw[fo,decide_eq_true e]at h;cases h
theorem xQ {k l:List Key}(h:(!(GX (k.map bK)).eqv (.tuple (l.map bK)))=false):k=l:=by
 have h:(!PyData.eqvAll (k.map bK) (l.map bK))=false:=h
 rw[fo]at h
 simpa using h
def lD (K:pz)(ns:List Str):Bool:=decide ((ns.map fun n=>(KA K n).map (·.2)).Nodup)
theorem uF {l:List Addr}(h:(l.map some).Nodup):l.Nodup:=Oh some (fun a b h e=>h (congrArg some e)) h
section
variable {X:Cx}
def vP:R2:=fun _ _ _ _=>False
theorem xu:OpR X (binaryOp .Mult) vP:=fun _ _ _ _ _ _ _ _ _ _ _ _ h=>h.elim
def kH:R2:=fun x y H Q=>match x,y with
 |.str z,.int n=>(-1000≤n∧n≤1000∧z.length≤1000)∧Q (.str (Txt.mul z n)) H
 |.ref a,.int n=>vP (.ref a) (.int n) H Q
 |x,y=>vo x y H Q
theorem qO:OpR X (binaryOp .Mult) kH:=(xH.or (xu.or DP)).imp fun x y H Q q=>by
 unfold kH at q
 split at q
 ·exact .inl ⟨_,_,rfl,rfl,q.1,q.2⟩
 ·exact .inr (.inl q)
 ·exact .inr (.inr q)
end
section
variable {X:Cx}
theorem zD:OpR X (compareOp .Is) (fun x y H Q=>∃b c,x=.bl b∧y=.bl c∧Q (.bl (decide (b=c))) H):=by
 intro pins s σ H x y v u Q I rx ry h
 obtain⟨b,c,rfl,rfl,q⟩:=h
 cases rx
 cases ry
 refine wpAny_is_plain (by rfl) (bh I q ?_)
 cases b<;>cases c<;>rfl
def qr:R2:=fun x y H Q=>match x,y with
 |.bl b,.bl c=>Q (.bl (decide (b=c))) H
 |x,y=>vy x y H Q
theorem DR:OpR X (compareOp .Is) qr:=(zD.or oIs).imp fun x y H Q q=>by
 unfold qr at q
 split at q
 ·exact .inl ⟨_,_,rfl,rfl,q⟩
 ·exact .inr q
theorem Ah {x y:Str}{px py ep pos:Pos}{ek:Nat}{e:Expr}{te:TE}(i j:Nat)(hN:X.N.Nodup)(hc:X.calm=true)(he:QE X e te)(hi:X.N[i]?=some x:=by rfl)(hj:X.N[j]?=some y:=by rfl)
  (hx:Loc X.env.scope x:=by first|exact .inl rfl|exact .inr rfl)(hy:Loc X.env.scope y:=by first|exact .inl rfl|exact .inr rfl)
  (fx:X.fn x=true∨X.env.scope.names.lookup x=some .local:=by first|exact .inl rfl|exact .inr rfl)(fy:X.fn y=true∨X.env.scope.names.lookup y=some .local:=by first|exact .inl rfl|exact .inr rfl)
  (hs:swapsWithSole [.Tuple [.Name x px,.Name y py] ek ep] e pos.line X.env=pure false:=by rfl)(hw:swappedStores [.Tuple [.Name x px,.Name y py] ek ep] e X.env=pure none:=by rfl):
  QS X (.Assign [.Tuple [.Name x px,.Name y py] ek ep] e pos) (aB te (jE X.K 2 (dI (aw i) (dI (aw j) jJ)))):=
 ⟨sK he.out (sB hc (hJ (gK hN hi hx fx) (hJ (gK hN hj hy fy) pe))) hs hw⟩
end
end L2
namespace HT
open PySem PyProof.Rows
theorem sub_tuple_dict:isSubtype (.type "tuple") (.type "dict")=pure false:=by rw[HS];kernel_rfl
theorem lj:isSubtype (.type "dict") (.type "tuple")=pure false:=by rw[HS];kernel_rfl
theorem qm (l b:Addr)(o:Obj)(hc:o.cls=.type "dict")(o2:Obj)(hc2:o2.cls=.type "tuple"):
  Meets (Iw.«dict.__eq__» ⟨[.ref l,.ref b],[]⟩) (fun _ R s=>s.heap.get? l=some o∧s.heap.get? b=some o2∧R (.ok (.ret .notImplemented)) s):=
 .of_wp fun prog w A R s h=>by
  obtain⟨hp,g,d,tk,os⟩:=s;obtain⟨hl,hb,h⟩:=h;obtain⟨cls,dd,data,sl⟩:=o;obtain⟨cls2,dd2,data2,sl2⟩:=o2
  simp only at hc hc2;subst hc hc2
  have f1:=sub_tuple_dict;wp_walk using Ke hl,Ke hb;exact⟨_,rfl,h⟩
theorem oH (l b:Addr)(o:Obj)(hc:o.cls=.type "tuple")(o2:Obj)(hc2:o2.cls=.type "dict"):
  Meets (Iw.«tuple.__eq__» ⟨[.ref l,.ref b],[]⟩) (fun _ R s=>s.heap.get? l=some o∧s.heap.get? b=some o2∧R (.ok (.ret .notImplemented)) s):=
 .of_wp fun prog w A R s h=>by
  obtain⟨hp,g,d,tk,os⟩:=s;obtain⟨hl,hb,h⟩:=h;obtain⟨cls,dd,data,sl⟩:=o;obtain⟨cls2,dd2,data2,sl2⟩:=o2
  simp only at hc hc2;subst hc hc2
  have f1:=lj;wp_walk using Ke hl,Ke hb;exact⟨_,rfl,h⟩
end HT
namespace L2
open PySem PySem.Spec PyProof.Rows
section
variable {X:Cx}
def wt (K:pz):R2:=fun x y H Q=>∃a b ys,x=.ref a∧y=.ref b∧((∃kvs,H a=some (.dK kvs))∨∃kvs,H a=some (.dT kvs))∧SqT K H b ys∧Q (.bl false) H
theorem xC (hu:X.A.units<cLine):OpR X (compareOp .Eq) (wt X.K):=by
 intro pins s σ H x y v u Q I rx ry h
 obtain⟨a,b,ys,rfl,rfl,ha,hb,q⟩:=h
 cases rx
 cases ry
 obtain⟨its,_,p1,_⟩:=I.tuple hb
 obtain⟨o2,ho2,hc2,_⟩:=id p1
 obtain⟨o,ho,hc⟩:∃o,s.heap.get? a=some o∧o.cls=.type "dict":=by
  rcases ha with⟨kvs,e⟩|⟨kvs,e⟩
  ·obtain⟨_,_,_,_,o,_,_,h1,h2,_⟩:=(show aY X.prog X.w H s.heap a (.dK kvs)from I.hok a _ e)
   exact⟨o,h1,h2.1⟩
  ·obtain⟨_,_,_,_,o,_,_,h1,h2,_⟩:=(show aY X.prog X.w H s.heap a (.dT kvs)from I.hok a _ e)
   exact⟨o,h1,h2.1⟩
 have hne:a≠b:=fun e=>by
  subst e
  rw[ho]at ho2;cases ho2
  rw[hc]at hc2;exact absurd hc2 (by simp)
 show wpAny _ _ (richCompare .Eq (.ref a) (.ref b)) _ _ s
 exact SeqAt.rc_eq_decline_or (k:=false) ⟨_,ho,hc⟩ ⟨_,ho2,hc2⟩ (by decide) F.sub_tuple_dict F.slot_dict_eq MG
  (fun _ hq=>Mi F.slot_dict_eq ⟨_,ho,hc⟩ F.entry_dict_eq (F.args_dict_eq_2 _ _) (HT.qm a b o hc o2 hc2) ⟨ho,ho2,hq⟩)
  (fun _ hq=>Mi MG ⟨_,ho2,hc2⟩ F.entry_tuple_eq (F.args_tuple_eq_2 _ _) (HT.oH b a o2 hc2 o hc) ⟨ho2,ho,hq⟩)
  (fun _ hq=>wpAny_isSame_ref_other hne ho ho2 (by rw[hc];simp) hq) (.inr hu) ⟨.bl false,H,I,rfl,q⟩
def bJ (K:pz):R2:=fun x y H Q=>match x,y with
 |.ref a,.ref b=>Az K (.ref a) (.ref b) H Q∨qD K (.ref a) (.ref b) H Q∨wt K (.ref a) (.ref b) H Q
 |.ref a,y=>qD K (.ref a) y H Q
 |x,.ref b=>qD K x (.ref b) H Q
 |x,y=>mEq x y H Q
theorem bP (hu:X.A.units+150<cLine):OpR X (compareOp .Eq) (bJ X.K):=((zX (by omega)).or ((Aj hu).or ((xC (by omega)).or oEq))).imp fun x y H Q q=>by
 unfold bJ at q
 split at q
 ·exact q.elim .inl fun z=>z.elim (fun z=>.inr (.inl z)) fun z=>.inr (.inr (.inl z))
 ·exact .inr (.inl q)
 ·exact .inr (.inl q)
 ·exact .inr (.inr (.inr q))
end
end L2
namespace HT
open PySem PyProof.Rows
theorem jK:typeLookup (.type "tuple") "__reversed__"=pure none:=by rw[Hg,GG];kernel_rfl
theorem iA:Manifest.owners.lookup (String.ofList ['d','e','s','r','e','v','e','r'].reverse)=some Manifest.sig_reversed:=by kernel_rfl
theorem dk:Slot "reversed" "__next__" "reversed.__next__":=
 .of (owner:="reversed") (n:="__next__") (by rw[Hg,GG];kernel_rfl) (by decide+kernel) (by decide+kernel) (by decide+kernel)
  (by first|exact .inl (by decide+kernel)|exact .inr (by decide+kernel)) (by rw[HS];kernel_rfl)
theorem gL:entryFor table "reversed.__next__"=some Iw.«reversed.__next__»:=entryFor_of_tree (by kernel_rfl)
theorem ip (a:tx):argsOk "reversed.__next__" ⟨[a],[]⟩:=by
 unfold argsOk;rw[Mr (id:="reversed.__next__") (n:=['_','_','t','x','e','n','_','_']) (o:=['d','e','s','r','e','v','e','r']) (by kernel_rfl) iA];kernel_rfl
theorem iw:Slot "reversed" "__iter__" "reversed.__iter__":=
 .of (owner:="reversed") (n:="__iter__") (by rw[Hg,GG];kernel_rfl) (by decide+kernel) (by decide+kernel) (by decide+kernel)
  (by first|exact .inl (by decide+kernel)|exact .inr (by decide+kernel)) (by rw[HS];kernel_rfl)
theorem me (a:tx):argsOk "reversed.__iter__" ⟨[a],[]⟩:=by
 unfold argsOk;rw[Mr (id:="reversed.__iter__") (n:=['_','_','r','e','t','i','_','_']) (o:=['d','e','s','r','e','v','e','r']) (by kernel_rfl) iA];kernel_rfl
theorem lv:entryFor table "reversed.__iter__"=some Iw.«dict_keyiterator.__iter__»:=
 entryFor_alias (id':="dict_keyiterator.__iter__") (by kernel_rfl) (by first|rfl|decide+kernel|(unfold String.splitOn;simp+decide [String.splitOnAux])) (by decide+kernel) (by kernel_rfl)
theorem ml:Slot "reversed" "__init__" "object.__init__":=
 .of (owner:="object") (n:="__init__") (by rw[Hg,GG];kernel_rfl) (by decide+kernel) (by decide+kernel) (by decide+kernel)
  (by first|exact .inl (by decide+kernel)|exact .inr (by decide+kernel)) (by rw[HS];kernel_rfl)
theorem pM:TypeCalled "reversed" "reversed.__new__" "object.__init__":=
 ⟨by decide+kernel,PySem.F.create_reversed,⟨_,_,PySem.F.mro_reversed⟩,PySem.F.made_reversed,by decide+kernel,PySem.F.sub_reversed_self,ml⟩
theorem oo:isSubtype (.type "tuple") (.type "dict")=pure false:=by rw[HS];kernel_rfl
def iD (t:Addr)(i:Int):Obj:={cls:=.type "reversed",data:=.fields #[.ref t,rawInt i]}
theorem mm (t:Addr)(items:Array tx):Meets (Iw.«reversed.__new__» ⟨[.type "reversed",.ref t],[]⟩) (fun _ R s=>KF s.heap t items∧(items.size:Int)<2^63∧
  R (.ok (.ret (.ref s.heap.objs.size))) {s with heap:=s.heap.push (iD t ((items.size:Int)- 1)),toks:=s.toks+1+1}):=
 .of_wp fun prog w A R s h=>by
  obtain⟨ht,hz,h⟩:=h
  unfold Iw.«reversed.__new__»
  refine ah (Ig (newClass_reversed _) ?_)
  try dsimp only
  refine ah (Ig (a:=()) (by first|rfl|kernel_rfl) ?_)
  refine ah (Ig (a:=()) (by first|rfl|kernel_rfl) ?_)
  try dsimp only
  refine ah (Hv ht.typeIs jK ?_)
  try dsimp only
  refine ah (ah (Je (T:="tuple") (b:=false) ht.typeIs oo ?_))
  rw[if_neg (by simp)]
  refine ah (Hv (r:=some (.builtin "tuple.__getitem__")) ht.typeIs slot_tuple_getitem.lookup ?_)
  show wpAny _ _ (if (["tuple.__getitem__","str.__getitem__","bytes.__getitem__","bytearray.__getitem__","memoryview.__getitem__","numpy.ndarray.__getitem__","sqlite3.Row.__getitem__"].contains "tuple.__getitem__")=true then _ else _) _ _ s
  rw[if_pos (by decide)]
  refine FK ?_
  rw[if_neg (by simp)]
  refine ah (len_tuple ht hz ?_)
  refine ah (Ig (a:=some ((items.size:Nat):Int)) rfl ?_)
  show wpAny _ _ (newObj (.type "reversed") (.fields #[.ref t,rawInt ((items.size:Int)- 1)])>>=_) _ _ _
  exact ah (Hn (FK ⟨_,rfl,h⟩))
section
variable {prog:Gd}{w:GH}{A:GC}{E:tx→FI→Prop}{s:FI}
theorem eT {t:Addr}{items:Array tx}{Q:tx→FI→Prop}(ht:KF s.heap t items)(hz:(items.size:Int)<2^63)
  (h:Q (.ref s.heap.objs.size) {s with heap:=s.heap.push (iD t ((items.size:Int)- 1)),toks:=s.toks+1+1}):wpAny (model prog w) A (call (.type "reversed") [.ref t]) Q E s:=
 callType_new pM (by decide) (PySem.F.typeCall_reversed_1 _) (PySem.F.newCall_reversed_1 _) (fun obj=>PySem.F.args_object_init_2 obj _) PySem.F.entry_reversed_new (mm t items) ⟨ht,hz,⟨_,FO _ rfl,rfl⟩,h⟩
def eI (h:Heap)(a t:Addr)(i:Int):Prop:=h.get? a=some (iD t i)
theorem eI.typeIs {a t:Addr}{i:Int}(x:eI s.heap a t i):s.TypeIs (.ref a) "reversed":=⟨_,x,rfl⟩
theorem iu {it t:Addr}{i:Nat}{items:Array tx}{x:tx}{Q:Option tx→FI→Prop}(hit:eI s.heap it t (i:Int))(ht:KF s.heap t items)(hz:(items.size:Int)<2^63)(hx:items[i]?=some x)
  (hQ:∀h',eI h' it t ((i:Int)- 1)→HU it s.heap h'→Q (some x) {s with heap:=h',toks:=s.toks+1}):wpAny (model prog w) A (pyNext (.ref it)) Q E s:=by
 have hi:i<items.size:=by
  rcases Mc i items.size with h|h
  ·exact h
  ·rw[JE h]at hx;cases hx
 unfold pyNext
 refine ah (IL (GM (name:=Ho "__next__") hit.typeIs dk
  (GN dk hit.typeIs gL ?_ (ip _))))
 unfold Iw.«reversed.__next__»
 refine ah (Ig (a:=(FT it,[])) rfl ?_)
 try dsimp only
 refine ah (Gx hit rfl (x:=.ref t) rfl ?_)
 refine ah (Gx hit rfl (x:=rawInt (i:Int)) rfl ?_)
 show wpAny _ _ (if (i:Int)<0 then _ else _) _ _ s
 rw[if_neg (by omega)]
 refine ah (Hv (r:=some (.builtin "tuple.__getitem__")) ht.typeIs slot_tuple_getitem.lookup ?_)
 rw[if_neg (by simp)]
 refine ah (Nl ?_)
 refine ah (IL (getItem_tuple (j:=i) (x:=x) ht (by omega) (by omega) ?_ hx ?_))
 ·unfold seqIndex?
  simp
  omega
 ·refine ah (Gx (s:={s with toks:=s.toks+1}) hit rfl (x:=rawInt (i:Int)) rfl ?_)
  refine ah (Hc hit (by simp) fun h' y sb=>?_)
  exact FK ⟨x,rfl,FK (hQ h' y sb)⟩
theorem iV {it t:Addr}{Q:Option tx→FI→Prop}(hh:A.handled=none)(hit:eI s.heap it t (-1))
  (hQ:∀h',Ml it s.heap h'→Q none {s with heap:=h'}):wpAny (model prog w) A (pyNext (.ref it)) Q E s:=by
 unfold pyNext
 refine ah (IL (GM (name:=Ho "__next__") hit.typeIs dk
  (GN dk hit.typeIs gL ?_ (ip _))))
 unfold Iw.«reversed.__next__»
 refine ah (Ig (a:=(FT it,[])) rfl ?_)
 try dsimp only
 refine ah (Gx hit rfl (x:=.ref t) rfl ?_)
 refine ah (Gx hit rfl (x:=rawInt (-1)) rfl ?_)
 show wpAny _ _ (if (-1:Int)<0 then _ else _) _ _ s
 rw[if_pos (by decide)]
 refine ah (Jo ?_)
 refine ah (ah (Hc hit (by simp) fun h1 y1 s1=>?_))
 refine Hc y1 (by simp) fun h2 y2 s2=>?_
 first
 |show wpAny _ _ (newExc (.type "StopIteration") []>>=_) _ _ _
 |(refine ah ?_;show wpAny _ _ (newExc (.type "StopIteration") []>>=_) _ _ _)
 refine ah ?_
 simp only[newExc,newTuple]
 refine ah (Hn ?_ (by size_fits))
 refine ah (m:=firstArgMember _ _) (Ig (a:=HE) (by first|rfl|(simp only[firstArgMember];rfl)) ?_)
 refine Hn ?_ (by size_fits)
 simp only[raiseNew]
 refine ah (wpAny_handled ?_)
 first|rw[show A.in1.handled=none from hh]|rw[hh]
 refine ah (FK (wpAny_throw ?_))
 refine ah (Je (T:="StopIteration") (b:=true) ⟨_,FO _ rfl,rfl⟩ isSubtype_stop ?_)
 have eb:Ml it s.heap h2:=fun c o hc e=>s2.extBut _ _ hc (s1.extBut _ _ hc e)
 exact FK (hQ _ ((eb.push _).push _))
theorem jx {it t:Addr}{i:Int}{Q:tx→FI→Prop}(hit:eI s.heap it t i)(h:Q (.ref it) s):wpAny (model prog w) A (pyIter (.ref it)) Q E s:=by
 refine NK hit.typeIs iw (GN iw hit.typeIs lv ?_ (me _))
 show wpAny _ _ (ret (.ref it)) _ _ s
 exact FK ⟨_,rfl,"reversed",_,hit.typeIs,dk.lookup,h⟩
end
end HT
namespace L2
open PySem PySem.Spec PyProof.Rows
def zN (K:pz)(a:Addr)(xs:List V):It:=
 ⟨fun i H=>SqT K H a xs∧i<xs.length,fun i H x H'=>H'=H∧xs.reverse[i]?=some x,fun i _=>xs.length≤i⟩
theorem tF {P:Gd}{w:GH}{K:pz}{tg:Expr}(a it:Addr)(xs:List V):iK P w K tg (zN K a xs) [it] it (fun i h=>i≤xs.length∧HT.eI h it a ((xs.length:Int)- 1- i))where
 mem:=by simp
 obj:=fun i h st b hb=>by
  have e:b=it:=by simpa using hb
  subst e
  exact⟨_,st.2,fun v z=>by cases z⟩
 keep:=fun i h h' st k=>⟨st.1,k it (by simp) _ st.2⟩
 item:=by
  intro X hP hw hK hc i pins s σ H E I hf st hg
  subst hP hw hK
  obtain⟨hq,hi⟩:=hg
  obtain⟨its,rv,p,hz⟩:=I.tuple hq
  obtain⟨f0,f1,f2,f3,f4,f5⟩:=hf it (by simp)
  have hl:=rv.length
  obtain⟨x,hx⟩:∃x,xs[xs.length- 1- i]?=some x:=⟨_,FQ (by omega)⟩
  obtain⟨u,hu,ru⟩:=rv.get hx
  have hrx:xs.reverse[i]?=some x:=by rw[HH hi];exact hx
  have e1:(xs.length:Int)- 1- i=((xs.length- 1- i:Nat):Int):=by omega
  have st2:=st.2
  rw[e1]at st2
  refine HT.iu st2 (show KF s.heap a its.toArray from p) (by rw[FL];rw[HR]at hz;omega) (x:=u) (by simpa using hu) fun h' st' sb=>?_
  have I1:Inv X pins σ H {s with heap:=h',toks:=s.toks+1}:=I.turned (t':=s.toks+1) (fun b o hb e=>(sb.2 b hb).trans e) f0 f1 f3 f4 f5
  have e2:((xs.length- 1- i:Nat):Int)- 1=(xs.length:Int)- 1- ((i+1:Nat):Int):=by omega
  rw[e2]at st'
  exact⟨u,rfl,iZ (s:={s with heap:=h',toks:=s.toks+1}) st' rfl rfl (by decide) ⟨x,H,I1,ru,⟨rfl,hrx⟩,⟨hi,st'⟩,fun b hb=>(hf b hb).1⟩⟩
 done:=by
  intro X hP hw hK hc i pins s σ H E I hf st hg
  subst hP hw hK
  obtain⟨f0,f1,f2,f3,f4,f5⟩:=hf it (by simp)
  have hi:xs.length≤i:=hg
  have e1:(xs.length:Int)- 1- i= -1:=by have:=st.1;omega
  have st2:=st.2
  rw[e1]at st2
  exact HT.iV (I.ok.hd hc) st2 fun h' eb=>⟨rfl,I.turned (t':=s.toks) (fun b o hb e=>eb b o hb e) f0 f1 f3 f4 f5⟩
 self:=fun A i s Q E st h=>HT.jx st.2 h
theorem gz:bootBuiltins "reversed"=some (.type "reversed"):=by decide+kernel
section
variable {X:Cx}{a:Expr}{t:TA}{p pos:Pos}{tg:Expr}
def qf:List V→Hp→VK→Prop:=fun xs H Q=>match xs with|[.int i,.int j]=>Q (.int (if j>i then j else i)) H|_=>False
theorem FD (hc:X.calm=true):bH X (.builtin "max") qf:=fun pins s σ H xs us Q I r q=>by
 unfold qf at q
 split at q
 ·exact qX hc pins s σ H _ us Q I r ⟨_,_,rfl,q⟩
 ·exact q.elim
theorem vD:OpR X (binaryOp .FloorDiv) (rI (fun _ j=>0<j∧j<1267650600228229401496703205376) fun i j=>.int (i/j)):=opI fun i j _ _ _ _ _ hc q=>by
 have h1:(0:Int)<j:=hc.1
 have h2:j<1267650600228229401496703205376:=hc.2
 have h3:j.natAbs.log2<100:=(KY (by omega)).mpr (Nat.lt_of_lt_of_eq (m:=1267650600228229401496703205376) (by omega) (by decide))
 exact floordiv_int (by omega) (by rw[Int.fdiv_eq_ediv_of_nonneg i (by omega)];exact q) (.inl (PyProof.noPylong_of_log2 (by omega)))
def iC:R2:=fun x y H Q=>match x,y with|.int i,.int j=>(0<j∧j<1267650600228229401496703205376)∧Q (.int (i/j)) H|_,_=>False
theorem nN:OpR X (binaryOp .FloorDiv) iC:=vD.imp fun x y H Q q=>by
 unfold iC at q
 split at q
 ·exact⟨_,_,rfl,rfl,q.1,q.2⟩
 ·exact q.elim
end
section
variable {α:Type}{l:List α}
theorem Cv (h:l.length=0):l=[]:=List.length_eq_zero_iff.mp h
theorem gn (h:l.length=1):∃a0,l=[a0]:=by
 cases l with
 |nil=>simp at h
 |cons a l=>
  obtain rfl:=Cv (l:=l) (by simpa using h)
  exact⟨a,rfl⟩
theorem wz (h:l.length=2):∃a0 a1,l=[a0,a1]:=by
 cases l with
 |nil=>simp at h
 |cons a l=>
  obtain⟨b0,rfl⟩:=gn (l:=l) (by simpa using h)
  exact⟨a,b0,rfl⟩
theorem vQ (h:l.length=3):∃a0 a1 a2,l=[a0,a1,a2]:=by
 cases l with
 |nil=>simp at h
 |cons a l=>
  obtain⟨b0,b1,rfl⟩:=wz (l:=l) (by simpa using h)
  exact⟨a,b0,b1,rfl⟩
theorem wa (h:l.length=4):∃a0 a1 a2 a3,l=[a0,a1,a2,a3]:=by
 cases l with
 |nil=>simp at h
 |cons a l=>
  obtain⟨b0,b1,b2,rfl⟩:=vQ (l:=l) (by simpa using h)
  exact⟨a,b0,b1,b2,rfl⟩
theorem AW (h:l.length=5):∃a0 a1 a2 a3 a4,l=[a0,a1,a2,a3,a4]:=by
 cases l with
 |nil=>simp at h
 |cons a l=>
  obtain⟨b0,b1,b2,b3,rfl⟩:=wa (l:=l) (by simpa using h)
  exact⟨a,b0,b1,b2,b3,rfl⟩
end
theorem bn.le {A:GC}{m n:Nat}(h:bn m A)(d:n≤m:=by first|decide|omega):bn n A:=h.mono d
theorem scF {N P:List Str}{sc:Scope}(h1:sc.kind=.function:=by rfl)(h2:sc.isCoroutine=false:=by rfl)(h3:sc.isGenerator=false:=by rfl)(h4:N.Nodup:=by decide+kernel)(h5:N.take P.length=P:=by rfl)
 (h6:∀x∈P,sc.names.lookup x=some .local∨sc.names.lookup x=some .cell:=by decide+kernel)(h7:∀y∈sc.names,y.2≠.free:=by decide+kernel):aD N P sc:=⟨h1,h2,h3,h4,h5,h6,h7⟩
structure Fm (K:pz)(mg:Str→Option tx)(x qual:Str)(st:Stmt)(a:Addr)(d:FX)(ps:List Str):Prop where
 f:Fun K x qual st a d
 m:mg x=some (.ref a)
 b:bI K d ps []
structure Fa (K:pz)(x qual:Str)(st:Stmt)(a:Addr)(d:FX):Prop where
 m:IS K mainGlobals x=some (some (.ref a))
 f:Fun K x qual st a d
section
variable {P:Gd}{w:GH}{K:pz}{mg:Str→Option tx}{base h:Heap}{x qual:Str}{st:Stmt}{a:Addr}{d:FX}{ps:List Str}
theorem bd {oc:tx}{od an:Option Addr}{osl:Array (Option tx)}{kV doc pm cdv ct:tx}(m:IS K mainGlobals x=some (some (.ref a)))(l:K.lookup a=some ⟨oc,od,.func (IT x qual (bS st) (bf st) (av st) .none kV doc pm an cdv ct),osl⟩)
 (c:Ng K cdv qual=true)(k:Ka K (.ref a)=true):Fa K x qual st a (IT x qual (bS st) (bf st) (av st) .none kV doc pm an cdv ct):=⟨m,cO l c k⟩
theorem Fa.code (F:Fa K x qual st a d)(X:K.In h)(G:h.Ns mainGlobals mg){z t:Addr}(ht:KA K x=some (z,t)):d.code=.ref z:=by
 obtain⟨oc,od,kV,doc,pm,an,cdv,ct,osl,e,lk,hcd⟩:=F.f.ex
 exact W.law_code X G ht (JI X G F.m) (X _ _ lk) rfl
theorem Fun.bt {p:Str}(F:Fun K x qual st a d)(hb:∀(kV doc pm:tx)(an:Option Addr)(cdv ct v:tx),bindArgs (IT x qual (bS st) (bf st) (av st) .none kV doc pm an cdv ct) ⟨[v],[]⟩=pure [(p,v)]:=by intros;rfl)(s:FI)(v:tx):MA s d ⟨[v],[]⟩ [(p,v)]:=by
 obtain⟨oc,od,kV,doc,pm,an,cdv,ct,osl,rfl,lk,hcd⟩:=F.ex
 exact .of_eq (hb kV doc pm an cdv ct v)
theorem Fun.b1 {p0:Str}(F:Fun K x qual st a d)(hb:∀(kV doc pm:tx)(an:Option Addr)(cdv ct u0:tx),bindArgs (IT x qual (bS st) (bf st) (av st) .none kV doc pm an cdv ct) ⟨[u0],[]⟩=pure (Jm [p0] [u0]):=by intros;rfl):bI K d [p0] []:=F.binds fun kV doc pm an cdv ct us hl=>by
 obtain⟨u0,rfl⟩:=L2.gn hl
 exact hb kV doc pm an cdv ct u0
theorem Fa.fm1 {p0:Str}(F:Fa K x qual st a d)(X:K.In h)(G:h.Ns mainGlobals mg)(hb:∀(kV doc pm:tx)(an:Option Addr)(cdv ct u0:tx),bindArgs (IT x qual (bS st) (bf st) (av st) .none kV doc pm an cdv ct) ⟨[u0],[]⟩=pure (Jm [p0] [u0]):=by intros;rfl):Fm K mg x qual st a d [p0]:=⟨F.f,JI X G F.m,F.f.b1 hb⟩
theorem Fun.b2 {p0 p1:Str}(F:Fun K x qual st a d)(hb:∀(kV doc pm:tx)(an:Option Addr)(cdv ct u0 u1:tx),bindArgs (IT x qual (bS st) (bf st) (av st) .none kV doc pm an cdv ct) ⟨[u0,u1],[]⟩=pure (Jm [p0,p1] [u0,u1]):=by intros;rfl):bI K d [p0,p1] []:=F.binds fun kV doc pm an cdv ct us hl=>by
 obtain⟨u0,u1,rfl⟩:=L2.wz hl
 exact hb kV doc pm an cdv ct u0 u1
theorem Fa.fm2 {p0 p1:Str}(F:Fa K x qual st a d)(X:K.In h)(G:h.Ns mainGlobals mg)(hb:∀(kV doc pm:tx)(an:Option Addr)(cdv ct u0 u1:tx),bindArgs (IT x qual (bS st) (bf st) (av st) .none kV doc pm an cdv ct) ⟨[u0,u1],[]⟩=pure (Jm [p0,p1] [u0,u1]):=by intros;rfl):Fm K mg x qual st a d [p0,p1]:=⟨F.f,JI X G F.m,F.f.b2 hb⟩
theorem Fun.b3 {p0 p1 p2:Str}(F:Fun K x qual st a d)(hb:∀(kV doc pm:tx)(an:Option Addr)(cdv ct u0 u1 u2:tx),bindArgs (IT x qual (bS st) (bf st) (av st) .none kV doc pm an cdv ct) ⟨[u0,u1,u2],[]⟩=pure (Jm [p0,p1,p2] [u0,u1,u2]):=by intros;rfl):bI K d [p0,p1,p2] []:=F.binds fun kV doc pm an cdv ct us hl=>by
 obtain⟨u0,u1,u2,rfl⟩:=L2.vQ hl
 exact hb kV doc pm an cdv ct u0 u1 u2
theorem Fa.fm3 {p0 p1 p2:Str}(F:Fa K x qual st a d)(X:K.In h)(G:h.Ns mainGlobals mg)(hb:∀(kV doc pm:tx)(an:Option Addr)(cdv ct u0 u1 u2:tx),bindArgs (IT x qual (bS st) (bf st) (av st) .none kV doc pm an cdv ct) ⟨[u0,u1,u2],[]⟩=pure (Jm [p0,p1,p2] [u0,u1,u2]):=by intros;rfl):Fm K mg x qual st a d [p0,p1,p2]:=⟨F.f,JI X G F.m,F.f.b3 hb⟩
theorem Fun.b4 {p0 p1 p2 p3:Str}(F:Fun K x qual st a d)(hb:∀(kV doc pm:tx)(an:Option Addr)(cdv ct u0 u1 u2 u3:tx),bindArgs (IT x qual (bS st) (bf st) (av st) .none kV doc pm an cdv ct) ⟨[u0,u1,u2,u3],[]⟩=pure (Jm [p0,p1,p2,p3] [u0,u1,u2,u3]):=by intros;rfl):bI K d [p0,p1,p2,p3] []:=F.binds fun kV doc pm an cdv ct us hl=>by
 obtain⟨u0,u1,u2,u3,rfl⟩:=L2.wa hl
 exact hb kV doc pm an cdv ct u0 u1 u2 u3
theorem Fa.fm4 {p0 p1 p2 p3:Str}(F:Fa K x qual st a d)(X:K.In h)(G:h.Ns mainGlobals mg)(hb:∀(kV doc pm:tx)(an:Option Addr)(cdv ct u0 u1 u2 u3:tx),bindArgs (IT x qual (bS st) (bf st) (av st) .none kV doc pm an cdv ct) ⟨[u0,u1,u2,u3],[]⟩=pure (Jm [p0,p1,p2,p3] [u0,u1,u2,u3]):=by intros;rfl):Fm K mg x qual st a d [p0,p1,p2,p3]:=⟨F.f,JI X G F.m,F.f.b4 hb⟩
theorem Fun.b5 {p0 p1 p2 p3 p4:Str}(F:Fun K x qual st a d)(hb:∀(kV doc pm:tx)(an:Option Addr)(cdv ct u0 u1 u2 u3 u4:tx),bindArgs (IT x qual (bS st) (bf st) (av st) .none kV doc pm an cdv ct) ⟨[u0,u1,u2,u3,u4],[]⟩=pure (Jm [p0,p1,p2,p3,p4] [u0,u1,u2,u3,u4]):=by intros;rfl):bI K d [p0,p1,p2,p3,p4] []:=F.binds fun kV doc pm an cdv ct us hl=>by
 obtain⟨u0,u1,u2,u3,u4,rfl⟩:=L2.AW hl
 exact hb kV doc pm an cdv ct u0 u1 u2 u3 u4
theorem Fa.fm5 {p0 p1 p2 p3 p4:Str}(F:Fa K x qual st a d)(X:K.In h)(G:h.Ns mainGlobals mg)(hb:∀(kV doc pm:tx)(an:Option Addr)(cdv ct u0 u1 u2 u3 u4:tx),bindArgs (IT x qual (bS st) (bf st) (av st) .none kV doc pm an cdv ct) ⟨[u0,u1,u2,u3,u4],[]⟩=pure (Jm [p0,p1,p2,p3,p4] [u0,u1,u2,u3,u4]):=by intros;rfl):Fm K mg x qual st a d [p0,p1,p2,p3,p4]:=⟨F.f,JI X G F.m,F.f.b5 hb⟩
theorem Fun.okS {CX:CXT}{N:List Str}{k:Nat}{sp:Sp}{t:TS}(F:Fun K x qual st a d)(S:aD N ps (av st))(len:∀vs H Q E,sp vs H Q E→vs.length=ps.length)
  (hrd:∀(vs:List V)(H:Hp)(Q:VK)(E:XK),sp vs H Q E→t {nx:=fun _ H'=>Q .non H',rt:=Q} (cJ N vs) H)
  (hq:∀(cdv:tx)(A:GC)(outer:List Env)(s:FI)(H:Hp)(E:XK),bn k (A.deeper (envOfC qual (av st) s.heap.objs.size a cdv))→QSs (fA CX P w K mg base N qual (av st) a cdv A outer s H E).nox (bf st) t):aM P w K mg base CX (k+1) a d ps sp:=
 F.okN S len fun cdv A outer s H vs Q E hr h=>⟨t,(hq cdv A outer s H E hr).out,hrd vs H Q E h⟩
end
section
variable {X:Cx}{x q:Str}{e:Expr}{es:List Expr}{t:TA}{p pos:Pos}{st:Stmt}{f:Addr}{fd:FX}{ps:List Str}{k:Nat}{sp:Sp}
theorem aI {P:Gd}{w:GH}(F:aM X.prog X.w X.K X.mg X.base (CX1 P w) k f fd ps sp)(hr:bn k X.A)(M:Fm X.K X.mg x q st f fd ps)
 (ha:QA X (e::es) t)(hg:Gl X x:=by rfl)(hdb:(x==("__debug__":Str))=false:=by decide)(hs:aS (e::es)=true:=by rfl):QE X (.Call (.Name x p) (e::es) [] pos) (az sp (fun _=>E0) t):=xJ F hr M.m M.f.kp M.b aX ha hg hdb hs
end
def sF (ks:dS)(C:Addr)(m:Str)(E:St→XK)(ta:TE)(t:TA):TE:=fun σ H Q=>ta σ H fun x H1=>∃a dx fs f,x=.ref a∧H1 a=some (.ins C dx fs)∧fs.lookup m=some (.ref f)∧(∃ts∈ks,∃cs cvs,cQ H1 f ts.1 cs cvs)∧t σ H1 fun vs H2=>jV ks f vs H2 Q (E σ)
section
variable {X:Cx}{pins:List (Addr×Obj)}{σ:St}{H:Hp}{s:FI}{A:GC}{E:tx→FI→Prop}{a C dx:Addr}{fs:List (Str×V)}{v:V}
theorem jW {m:Str}{pl:Sem Bool}{Q:tx×List tx→FI→Prop}(I:Inv X pins σ H s)(e:H a=some (.ins C dx fs))(c:Cls X.K C)(n:cU X.K C m)(l:fs.lookup m=some v)
  (h:∀u s',Inv X pins σ H s'→aO v u→Q (u,[]) s'):wpAny (model X.prog X.w) A (getMethod (.ref a) m pl) Q E s:=by
 obtain⟨mA,O,r,_,_,_⟩:=gP I.hok e
 obtain⟨od,J,hl⟩:=O.look
 exact W.method_usual (r:=none) I.kIn J (JH (c.get m)).1 (JH (c.get m)).2 n rfl (ke I e c n l h)
end
section
variable {X:Cx}{k:Nat}{C:Addr}{E:St→XK}{m:Str}{pos apos:Pos}{e o:Expr}{es:List Expr}{ta:TE}{t:TA}
theorem wZ {pl:Sem Bool}{ks:dS}(hk:kK X.prog X.w X.K X.mg X.base k ks)(hr:bn k X.A)(hx:dX (CX1 X.prog X.w) X E)(he:QE X o ta)(c:Cls X.K C)(n:cU X.K C m)(ha:QA X (e::es) t)
  (hs:aS (e::es)=true:=by rfl)
  (ht:eval (.Call (.Attribute o m apos) (e::es) [] pos) X.env=(do
   let ov←eval o X.env
   standAt apos.atName
   let (f,first)←holding [ov] (getMethod ov m pl)
   callWith pos f first (backTo pos (starEach (e::es) X.env)) (backToKw pos (keywordEach [] X.env))):=by rfl):
  QE X (.Call (.Attribute o m apos) (e::es) [] pos) (sF ks C m E ta t):=⟨fun pins s σ H Q I h=>by
 have h':(bF e&&aS es)=true:=hs
 refine JU (pl:=pl) (thn (he.out pins s σ H _ I h) fun u s1 ⟨x,H1,I1,rx,a,dx,fs,f,ex,ea,l,⟨ts,hts,cs,cvs,ca⟩,q⟩=>?_) ht
 subst ex
 obtain rfl:u=FT a:=rx
 refine jW I1 ea c n l fun w s2 I2 rw2=>?_
 obtain rfl:w=FT f:=rw2
 refine Mx (gJ I2.hok ca) (thn (ha.out pos pins s2 σ H1 _ I2 q) fun us s3 ⟨vs,H2,I3,rv,ts2,hm2,cs2,cvs2,ca2,hl,hsp⟩=>⟨gJ I3.hok ca2,?_⟩)
  (aT (FP.mp h').1 es X.env) (bw (FP.mp h').2)
 refine KN (Ip ((hk ts2 hm2).run X.A X.stack s3 H2 f cs2 us vs cvs2 Q (E σ) hr I3.env0 ca2 rv hl hsp) fun r s' hq=>?_)
 cases r with
 |error e=>exact hx pins σ H2 s3 e s' I3 hq
 |ok fl=>
  cases fl with
  |ret u=>exact I3.after hq
  |next=>exact Gm hq
  |brk=>exact Gm hq
  |cont=>exact Gm hq⟩
end
end L2
namespace HT
open PySem PyProof.Rows
theorem sj:typeLookup (.type "list_reverseiterator") "__len__"=pure none:=by rw[Hg,GG];kernel_rfl
theorem ut:typeLookup (.type "list_reverseiterator") "__length_hint__"=pure (some (.builtin "list_reverseiterator.__length_hint__")):=by rw[Hg,GG];kernel_rfl
section
variable {prog:Gd}{w:GH}{A:GC}{s:FI}{R:Lb→FI→Prop}
variable {I:Addr}{fp wr:List Addr}{G:Array JA→Array JA→Prop}{n:Nat}{P:Nat→tx→Prop}{St:Nat→FI→Prop}
theorem qM (W:NA prog w A.in1 I fp wr G n P St)(hT:∀i s,St i s→s.TypeIs (.ref I) "list_reverseiterator")(S:Addr)(res:tx)(c₀:Nat)(hst:St 0 s)(hSf:S∉fp)(hI:I∈fp)
  (hS:s.heap.get? S=some {cls:=.type "list",data:=.seq #[] c₀})
  (hR:∀s' acc' c',Moved (S::wr) G s s'→s'.heap.get? S=some {cls:=.type "list",dict:=none,data:=.seq acc' c',slots:=#[]}→Mz P acc' n→R (.ok (.ret res)) s')(hn:n≤sizeLine):
  wpAny (model prog w) A.in1 (Gg (.ref S) (.ref I) res)
   (fun fin s'=>match fin with|.done f=>R (.ok f) s'|.again c'=>c'.quiet=true∧codeAny (model prog w) A c' R s') (fun e s'=>R (.error e) s') s:=by
 have hSI:S≠I:=fun e=>hSf (e▸hI)
 have h1:Hk (.ref S) (.ref I)=false:=by simp[Hk,hSI]
 unfold Gg
 refine ah (Jz (hT 0 _ hst) ?_)
 rw[if_neg (by rw[h1];decide)]
 refine ah (W.self 0 _ _ _ hst ?_)
 refine ah (Hf ?_)
 unfold IJ
 refine ah (Hv (hT 0 _ hst) sj ?_)
 show wpAny _ A.in1 (specialOf (FT I) (Ho "__length_hint__")>>=_) _ _ _
 refine ah (Hv (hT 0 _ hst) ut ?_)
 generalize hid:("list_reverseiterator.__length_hint__":String)=id0
 wp_delta
 rw[show splitId id0=some ("list_reverseiterator","__length_hint__")from by subst hid;decide+kernel]
 subst hid
 refine ah (Je (b:=true) (hT 0 _ hst) (by rw[HS];kernel_rfl) ?_)
 refine FK ?_
 rw[if_neg (by decide)]
 exact FK ⟨Jk GS _,Nd W hn _ hSf _ n 0 _ _ _ rfl (Gc _) hst hS (Nu P) fun s' acc' c' hm hS' hacc=>hR s' acc' c' hm hS' hacc⟩
theorem mf (W:NA prog w A.in1 I fp wr G n P St)(hT:∀i s,St i s→s.TypeIs (.ref I) "list_reverseiterator")(S:Addr)(hst:St 0 s)(hSf:S∉fp)(hI:I∈fp)
  (hS:s.heap.get? S=some {cls:=.type "list",data:=.seq #[]})
  (hR:∀s' acc' c',Moved (S::wr) G s s'→s'.heap.get? S=some {cls:=.type "list",dict:=none,data:=.seq acc' c',slots:=#[]}→Mz P acc' n→R (.ok (.ret .none)) s')(hn:n≤sizeLine):
  wpAny (model prog w) A.in1 (Iw.«list.__init__» ⟨[.ref S,.ref I],[]⟩)
   (fun fin s'=>match fin with|.done f=>R (.ok f) s'|.again c'=>c'.quiet=true∧codeAny (model prog w) A c' R s') (fun e s'=>R (.error e) s') s:=by
 show wpAny _ A.in1 (do let old←Hx (.ref S);Jb (.ref S) (fun _=>#[]);letGo old.toList.reverse;Gg (.ref S) (.ref I) .none) _ _ s
 refine ah ?_
 unfold Hx
 refine ah (Hq hS rfl (FK ?_))
 show wpAny _ A.in1 (updateSeq S (fun _=>#[])>>=fun _=>letGo (#[]:Array tx).toList.reverse>>=fun _=>Gg (.ref S) (.ref I) .none) _ _ s
 refine ah (HY hS rfl ?_)
 have hS₂:=Gy (GR (fun _=>(#[]:Array tx))) hS rfl
 have oth:∀b o,b≠S→s.heap.get? b=some o→(s.heap.update S (GR (fun _=>(#[]:Array tx)))).get? b=some o:=
  fun b o hb e=>(Gq _ _ (Gt hb)).trans e
 refine ah (JO ?_)
 refine qM (hn:=hn) W hT S .none _ (W.frame 0 s _ s.toks hst (gV _) fun b hb o e=>oth b o (fun h=>hSf (h▸hb)) e) hSf hI hS₂ fun s' acc' c' hm hS' hacc=>?_
 exact hR s' acc' c' (Ma W.gtrans ((My W.grefl).then_heap (gV _) fun b o hb e=>oth b o (fun h=>hb (h▸Gu)) e) hm) hS' hacc
end
section
variable {prog:Gd}{w:GH}{A:GC}{E:tx→FI→Prop}{s:FI}
variable {I:Addr}{fp wr:List Addr}{G:Array JA→Array JA→Prop}{n:Nat}{P:Nat→tx→Prop}{St:Nat→FI→Prop}
theorem md {Q:tx→FI→Prop}(W:NA prog w A.in1.in1 I fp wr G n P St)(hT:∀i s,St i s→s.TypeIs (.ref I) "list_reverseiterator")(hst:St 0 s)(hfp:∀b∈fp,b<s.heap.objs.size)(hI:I∈fp)
  (hQ:∀s' acc' c',Moved (s.heap.objs.size::wr) G {s with heap:=s.heap.push {cls:=.type "list",data:=.seq #[]}} s'→
   s'.heap.get? s.heap.objs.size=some {cls:=.type "list",dict:=none,data:=.seq acc' c',slots:=#[]}→Mz P acc' n→Q (.ref s.heap.objs.size) s')(hn:n≤sizeLine):
  wpAny (model prog w) A (call (.type "list") [.ref I]) Q E s:=by
 have hSf:s.heap.objs.size∉fp:=fun hm=>GP _ (hfp _ hm)
 refine LS (Q₁:=fun obj s₁=>obj=.ref s.heap.objs.size∧s₁={s with heap:=s.heap.push {cls:=.type "list",data:=.seq #[]}}) KS (Kg _) Kh
  (Mt _ ⟨rfl,rfl⟩) fun obj s₁ h₁=>?_
 obtain⟨rfl,rfl⟩:=h₁
 have hS:(s.heap.push {cls:=.type "list",data:=.seq #[]}).get? s.heap.objs.size=some {cls:=.type "list",data:=.seq #[]}:=FO _ rfl
 refine⟨⟨_,hS,rfl⟩,JW _ _,mf (hn:=hn) W hT _ (W.frame 0 s _ s.toks hst (gV _) fun b _ o e=>cW _ e) hSf hI hS fun s' acc' c' hm hS' hacc=>?_⟩
 exact⟨rfl,hQ s' acc' c' hm hS' hacc⟩
end
end HT
namespace L2
open PySem PySem.Spec PyProof.Rows
def oi (K:pz):List V→Hp→VK→Prop:=fun xs H Q=>∃c ys,xs=[.ref c]∧SqL K H c ys∧∀l,H l=none→Q (.ref l) (upd H l (.lst ys.reverse))
section
variable {X:Cx}{pins:List (Addr×Obj)}{σ:St}{H:Hp}{s:FI}
theorem uz {Q:VK}{c:Addr}{ys:List V}(hc:X.calm=true)(I:Inv X pins σ H s)(hq:SqL X.K H c ys)(q:∀l,H l=none→Q (.ref l) (upd H l (.lst ys.reverse))):
  wpAny (model X.prog X.w) X.A (call (.type "reversed") [.ref c]) (fun u s2=>wpAny (model X.prog X.w) X.A (call (.type "list") [u]) (EP X pins σ Q) X.xe s2) X.xe s:=by
 obtain⟨its,r',pl,hz⟩:=I.list hq
 have hlen:=r'.length
 have hl:=pl.isList
 refine Nz hl ?_
 have hcs:c<s.heap.objs.size:=by obtain⟨o,ho,_⟩:=hl;exact FM ho
 have hne:c≠s.heap.objs.size:=Gf hcs
 have W:=(Walks.listRev (prog:=X.prog) (w:=X.w) (A:=X.A.in1.in1) (I.ok.hd hc) s.heap.objs.size c hne its.toArray).toS
 have hl2:(s.heap.push (revObj c ((its.toArray.size:Int)- 1))).IsList c its.toArray:=hl.at fun o e=>cW _ e
 have hz':its.toArray.size≤sizeLine:=by rw[FL];omega
 have hsz:(s.heap.push (revObj c ((its.toArray.size:Int)- 1))).objs.size=s.heap.objs.size+1:=HB _ _
 refine HT.md (s:={s with heap:=s.heap.push (revObj c ((its.toArray.size:Int)- 1))}) W (fun i s3 st=>st.2.1.typeIs) ⟨Gc _,⟨_,FO _ rfl,rfl,by show Mm _=Mm _;simp⟩,hl2⟩ (fun b hb=>?_) (by simp) (fun s' acc' c' hm hS' hacc=>?_) hz'
 ·show b<(s.heap.push _).objs.size
  rw[hsz]
  rcases Gh.mp hb with z|z
  ·rw[z];exact Hb _
  ·rw[FU.mp z];exact MX hcs
 ·have e1:acc'.toList=its.reverse:=by
   refine Ks fun j=>?_
   by_cases hj:j<its.length
   ·have hj2:j<acc'.size:=by rw[hacc.1,FL];exact hj
    have ea:acc'[j]?=some acc'[j]:=GV hj2
    have hp:its.toArray[its.toArray.size- 1- j]?=some acc'[j]:=hacc.2 j _ ea
    rw[JK,ea,HH hj,←hp]
    simp
   ·rw[Hm (by rw[HW,hacc.1,FL];omega),Hm (by simp;omega)]
  have hw:∀b o,s.heap.get? b=some o→s'.heap.get? b=some o:=fun b o e=>by
   have hb:=FM e
   refine hm.heap b o (fun z=>?_) (cW _ (cW _ e))
   rcases Gh.mp z with z|z
   ·have z:b=(s.heap.push (revObj c ((its.toArray.size:Int)- 1))).objs.size:=z
    rw[hsz]at z
    rw[z]at hb
    exact GP _ (Mb (Hb _) hb)
   ·rw[FU.mp z]at hb
    exact GP _ hb
  have es:s'={s with heap:=s'.heap,toks:=s'.toks}:=by
   have h1:=hm.gens
   have h2:=hm.drawn
   have h3:=hm.os
   cases s'
   cases h1;cases h2;cases h3
   rfl
  have hS2:s'.heap.get? (s.heap.objs.size+1)=some {cls:=.type "list",dict:=none,data:=.seq its.reverse.toArray c',slots:=#[]}:=by
   rw[←hsz,hS',←e1]
  have new:aY X.prog X.w (upd H (s.heap.objs.size+1) (.lst ys.reverse)) s'.heap (s.heap.objs.size+1) (.lst ys.reverse):=⟨by rw[Kd];exact hz,its.reverse,c',r'.reverse,hS2⟩
  refine⟨.ref (s.heap.objs.size+1),upd H (s.heap.objs.size+1) (.lst ys.reverse),?_,?_,q _ (I.hok.fresh (IN _))⟩
  ·rw[es];exact I.laid hw (IN _) new
  ·show FT _=FT _
   rw[hsz]
end
section
variable {X:Cx}{a:Expr}{t:TA}{p1 p2 pos1 pos2:Pos}
theorem lA:bootBuiltins "list"=some (.type "list"):=by decide+kernel
theorem rn (hm1:X.mg "list"=none)(hm2:X.mg "reversed"=none)(hc:X.calm=true)(ha:QA X [a] t)(hg1:Gl X "list":=by rfl)(hg2:Gl X "reversed":=by rfl)(hs:aS [a]=true:=by rfl):
  QE X (.Call (.Name "list" p1) [.Call (.Name "reversed" p2) [a] [] pos2] [] pos1) (tCB (oi X.K) t):=⟨fun pins s σ H Q I h=>by
 have h':(bF a&&aS [])=true:=hs
 refine GL (dB I hg1 hm1 lA ?_ (by decide) (by decide))
 refine GB ?_ rfl rfl
 show wpAny _ _ (spliced ((false,eval (.Call (.Name "reversed" p2) [a] [] pos2) X.env)::backTo pos1 (starEach [] X.env))) _ _ s
 refine Jj ?_
 refine GL (dB I hg2 hm2 gz ?_ (by decide) (by decide))
 refine GB (thn (ha.out pos2 pins s σ H _ I h) fun us s1 ⟨vs,H1,I1,r1,q1⟩=>?_)
  (aT (FP.mp h').1 [] X.env) (bw (FP.mp h').2)
 obtain⟨c,ys,rfl,hq,q⟩:=q1
 obtain⟨u,rfl,ru⟩:=fK r1
 cases ru
 refine Gj (uz hc I1 hq q) (fun u s2 z=>?_) fun _ _ z=>z
 exact Jv z⟩
end
end L2
namespace HT
open PySem PyProof.Rows
abbrev ib (f0 f1:tx)(TI TO:Addr):Obj:={cls:=.type "zip",dict:=none,data:=.fields #[f0,f1,.bool false,.ref TI,.ref TO],slots:=#[]}
structure eX (h:Heap)(z TI TO i1 i2 l t S:Addr)(k:Nat):Prop where
 z:(k=0∧h.get? z=some (ib .none (.bool false) TI TO))∨∃T f oT,h.get? z=some (ib (rawInt (T:Addr)) (.bool f) TI TO)∧h.get? T=some oT∧T≠z∧T≠TO∧T≠i1∧T≠i2∧T≠S
 ti:IZ h TI (.ref i1) (.ref i2)
 to:∃a b,IZ h TO a b
 j1:h.IsListIter i1 l k
 j2:h.IsTupleIter i2 t k
section
variable {prog:Gd}{w:GH}{A:GC}{E:tx→FI→Prop}{s:FI}
theorem ph {z TI TO T:Addr}{f:Bool}{oT:Obj}(hz:s.heap.get? z=some (ib (rawInt T) (.bool f) TI TO))(hTt:s.heap.get? T=some oT):
  wpAny (model prog w) A (Gn (.ref z)) (fun b s1=>b=false∧∃h₁,s1={s with heap:=h₁}∧h₁.get? z=some (ib (rawInt T) (.bool true) TI TO)∧HU z s.heap h₁) (fun _ _=>False) s:=by
 unfold Gn
 refine ah (Gx hz rfl (x:=rawInt T) rfl ?_)
 show wpAny _ _ (loadIfAlive ((T:Int).toNat) >>= _) _ _ _
 rw[Im]
 refine ah (W.kdx_alive hTt ?_)
 simp only[Option.isNone_some,HI,if_false]
 refine ah (Gx hz rfl (x:=.bool f) rfl ?_)
 cases f with
 |true=>
  rw[if_neg (show ¬((HA true !=HA true)=true)from FZ)]
  exact FK ⟨rfl,s.heap,rfl,hz,Heap.SameBut.refl _ _⟩
 |false=>
  rw[if_pos (show(HA false !=HA true)=true from rfl)]
  exact ah (Hc hz (by simp) fun h₃ he₃ hs₃=>FK ⟨rfl,h₃,rfl,he₃,hs₃⟩)
theorem pX {z TI TO i1 i2 l t S:Addr}{k:Nat}{xs ys:Array tx}{x y a b:tx}{Q:Option tx→FI→Prop}(D:Kk z TI TO i1 i2 l t)(hz:NT s.heap z TI TO .none)(hTI:IZ s.heap TI (.ref i1) (.ref i2))(hTO:IZ s.heap TO a b)
  (h1:s.heap.IsListIter i1 l k)(h2:s.heap.IsTupleIter i2 t k)(ht1:s.heap.IsList l xs)(ht2:s.heap.IsTuple t ys)(hx:xs[k]? =some x)(hy:ys[k]? =some y)(hS:S<s.heap.objs.size)
  (hQ:∀h',eX h' z TI TO i1 i2 l t S (k+1)→IZ h' s.heap.objs.size x y→
   (∀c o,c≠z→c≠TO→c≠i1→c≠i2→s.heap.get? c=some o→h'.get? c=some o)→Q (some (.ref s.heap.objs.size)) {s with heap:=h'}):
  wpAny (model prog w) A (pyNext (.ref z)) Q E s:=by
 have hT:s.TypeIs (.ref z) "zip":=⟨_,hz,rfl⟩
 unfold pyNext
 refine ah (IL (GM (name:=Ho "__next__") hT IH (GN IH hT KR ?_ (KC _))))
 show wpAny _ _ (field (.ref z) 2 >>= _) _ _ _
 refine ah (Gx hz rfl (x:=.bool false) rfl ?_)
 show wpAny _ _ (field (.ref z) 3 >>= _) _ _ _
 refine ah (Gx hz rfl (x:=.ref TI) rfl (ah (Hq hTI rfl ?_)))
 show wpAny _ _ (Gn (.ref z) >>= _) _ _ _
 refine ah ?_
 unfold Gn
 refine ah (Gx hz rfl (x:=.none) rfl (FK ?_))
 simp only[if_true]
 refine ah (Jo (ah (Gx hz rfl (x:=.ref TO) rfl (ah (Hc hz (by simp) fun ha hza hsa=>ah ?_)))))
 replace hza:NT ha z TI TO .ellipsis:=hza
 simp only[MY,Nj,IA,Js]
 refine ah (ah (Mq ?_))
 show wpAny _ _ (GI (.ref i1) >>= _) _ _ _
 refine ah (MF (h1.at fun o e=>hsa.extBut _ _ D.i1z e) (ht1.at fun o e=>hsa.extBut _ _ D.l1z e) hx fun hb h1b hsb=>FK ?_)
 have hTOb:IZ hb TO a b:=hsb.extBut _ _ D.TOi1 (hsa.extBut _ _ D.TOz hTO)
 refine ah (Hq hTOb rfl (ah (Nb hTOb fun hc hTOc hsc=>?_)))
 replace hTOc:IZ hc TO x b:=hTOc
 refine ah (JO (FK ?_))
 refine ah (ah (Mq ?_))
 show wpAny _ _ (GI (.ref i2) >>= _) _ _ _
 refine ah (oa (h2.at fun o e=>hsc.extBut _ _ D.TOi2.symm (hsb.extBut _ _ D.i12.symm (hsa.extBut _ _ D.i2z e)))
  (ht2.at fun o e=>hsc.extBut _ _ D.l2TO (hsb.extBut _ _ D.l2i1 (hsa.extBut _ _ D.l2z e))) hy fun hd h2d hsd=>FK ?_)
 have hTOd:IZ hd TO x b:=hsd.extBut _ _ D.TOi2 hTOc
 refine ah (Hq hTOd rfl (ah (Nb hTOd fun he hTOe hse=>?_)))
 replace hTOe:IZ he TO x y:=hTOe
 refine ah (JO (FK (FK ?_)))
 refine ah (Hq hTOe rfl (ah (wpAny_newTuple ?_)))
 have hsz:he.objs.size=s.heap.objs.size:=by rw[hse.1,hsd.1,hsc.1,hsb.1,hsa.1]
 have hze:NT he z TI TO .ellipsis:=hse.extBut _ _ D.TOz.symm (hsd.extBut _ _ D.i2z.symm (hsc.extBut _ _ D.TOz.symm (hsb.extBut _ _ D.i1z.symm hza)))
 have hke:∀c o,c≠z→c≠TO→c≠i1→c≠i2→s.heap.get? c=some o→he.get? c=some o:=fun c o c1 c2 c3 c4 e=>
  hse.extBut _ _ c2 (hsd.extBut _ _ c4 (hsc.extBut _ _ c2 (hsb.extBut _ _ c3 (hsa.extBut _ _ c1 e))))
 have h1e:he.IsListIter i1 l (k+1):=h1b.at fun o e=>hse.extBut _ _ D.TOi1.symm (hsd.extBut _ _ D.i12 (hsc.extBut _ _ D.TOi1.symm e))
 have h2e:he.IsTupleIter i2 t (k+1):=h2d.at fun o e=>hse.extBut _ _ D.TOi2.symm e
 show wpAny _ _ (Jg (.ref z) (.ref he.objs.size) >>= _) _ _ _
 refine ah ?_
 unfold Jg
 have hzf:NT (he.push {cls:=.type "tuple",data:=.seq #[x,y]}) z TI TO .ellipsis:=cW _ hze
 refine ah (Hc hzf (by simp) fun hg hzg hsg=>?_)
 replace hzg:NT hg z TI TO (rawInt he.objs.size):=hzg
 refine Hc hzg (by simp) fun hh hzh hsh=>?_
 replace hzh:NT hh z TI TO (rawInt he.objs.size):=hzh
 have up:∀c o,c≠z→he.get? c=some o→hh.get? c=some o:=fun c o c1 e=>hsh.extBut _ _ c1 (hsg.extBut _ _ c1 (cW _ e))
 have hTh:IZ hh he.objs.size x y:=hsh.extBut _ _ (HJ (FM hze)) (hsg.extBut _ _ (HJ (FM hze)) (FO _ rfl))
 have n1:he.objs.size≠z:=HJ (FM hze)
 have n2:he.objs.size≠TO:=HJ (FM hTOe)
 have n3:he.objs.size≠i1:=by obtain⟨o,eo,_⟩:=h1e;exact HJ (FM eo)
 have n4:he.objs.size≠i2:=by obtain⟨o,eo,_⟩:=h2e;exact HJ (FM eo)
 have n5:he.objs.size≠S:=by rw[hsz];exact HJ hS
 rw[hsz]at hzh hTh n1 n2 n3 n4 n5
 have fin:=hQ hh ⟨.inr ⟨s.heap.objs.size,false,_,hzh,hTh,n1,n2,n3,n4,n5⟩,up _ _ D.TIz (hke _ _ D.TIz D.TITO D.TIi1 D.TIi2 hTI),⟨x,y,up _ _ D.TOz hTOe⟩,h1e.at fun o e=>up _ o D.i1z e,h2e.at fun o e=>up _ o D.i2z e⟩ hTh fun c o c1 c2 c3 c4 e=>up c o c1 (hke c o c1 c2 c3 c4 e)
 rw[←hsz]at fin
 exact FK ⟨_,rfl,FK fin⟩
theorem sm {z TI TO i1 i2 l t S T:Addr}{f:Bool}{oT:Obj}{k:Nat}{xs ys:Array tx}{x y:tx}{Q:Option tx→FI→Prop}(D:Kk z TI TO i1 i2 l t)(hz:s.heap.get? z=some (ib (rawInt T) (.bool f) TI TO))(hTt:s.heap.get? T=some oT)
  (nT:T≠z∧T≠TO∧T≠i1∧T≠i2∧T≠S)(hTI:IZ s.heap TI (.ref i1) (.ref i2))(hTO:∃a b,IZ s.heap TO a b)
  (h1:s.heap.IsListIter i1 l k)(h2:s.heap.IsTupleIter i2 t k)(ht1:s.heap.IsList l xs)(ht2:s.heap.IsTuple t ys)(hx:xs[k]? =some x)(hy:ys[k]? =some y)
  (hQ:∀h',eX h' z TI TO i1 i2 l t S (k+1)→IZ h' s.heap.objs.size x y→
   (∀c o,c≠z→c≠TO→c≠i1→c≠i2→s.heap.get? c=some o→h'.get? c=some o)→Q (some (.ref s.heap.objs.size)) {s with heap:=h'}):
  wpAny (model prog w) A (pyNext (.ref z)) Q E s:=by
 have hT:s.TypeIs (.ref z) "zip":=⟨_,hz,rfl⟩
 unfold pyNext
 refine ah (IL (GM (name:=Ho "__next__") hT IH (GN IH hT KR ?_ (KC _))))
 show wpAny _ _ (field (.ref z) 2 >>= _) _ _ _
 refine ah (Gx hz rfl (x:=.bool false) rfl ?_)
 show wpAny _ _ (field (.ref z) 3 >>= _) _ _ _
 refine ah (Gx hz rfl (x:=.ref TI) rfl (ah (Hq hTI rfl ?_)))
 show wpAny _ _ (Gn (.ref z) >>= _) _ _ _
 refine ah (Gj (ph hz hTt) (fun b s1 hb=>?_) fun _ _ e=>e.elim)
 obtain⟨rfl,ha,rfl,hza,hsa⟩:=hb
 simp only[HI,if_false]
 refine ah ?_
 rw[←Mp]
 simp only[IA,Js]
 refine ah (ah (Hf ?_))
 show wpAny _ _ (GI (.ref i1) >>= _) _ _ _
 refine ah (MF (h1.at fun o e=>hsa.extBut _ _ D.i1z e) (ht1.at fun o e=>hsa.extBut _ _ D.l1z e) hx fun hb h1b hsb=>FK (FK ?_))
 refine ah (ah (Hf ?_))
 show wpAny _ _ (GI (.ref i2) >>= _) _ _ _
 refine ah (oa (h2.at fun o e=>hsb.extBut _ _ D.i12.symm (hsa.extBut _ _ D.i2z e)) (ht2.at fun o e=>hsb.extBut _ _ D.l2i1 (hsa.extBut _ _ D.l2z e)) hy fun hd h2d hsd=>FK (FK (FK ?_)))
 refine ah (wpAny_newTuple (hsz:=by show 2≤sizeLine;decide) ?_)
 have hsz:hd.objs.size=s.heap.objs.size:=by rw[hsd.1,hsb.1,hsa.1]
 have hk:∀c o,c≠z→c≠TO→c≠i1→c≠i2→s.heap.get? c=some o→(hd.push {cls:=.type "tuple",data:=.seq #[x,y]}).get? c=some o:=fun c o c1 c2 c3 c4 e=>
  cW _ (hsd.extBut _ _ c4 (hsb.extBut _ _ c3 (hsa.extBut _ _ c1 e)))
 obtain⟨a,b,hTO⟩:=hTO
 have fin:=hQ (hd.push {cls:=.type "tuple",data:=.seq #[x,y]}) ⟨.inr ⟨T,true,oT,cW _ (hsd.extBut _ _ D.i2z.symm (hsb.extBut _ _ D.i1z.symm hza)),hk T oT nT.1 nT.2.1 nT.2.2.1 nT.2.2.2.1 hTt,nT⟩,
  hk _ _ D.TIz D.TITO D.TIi1 D.TIi2 hTI,⟨a,b,cW _ (hsd.extBut _ _ D.TOi2 (hsb.extBut _ _ D.TOi1 (hsa.extBut _ _ D.TOz hTO)))⟩,
  h1b.at fun o e=>cW _ (hsd.extBut _ _ D.i12 e),h2d.at fun o e=>cW _ e⟩ (by rw[←hsz];exact FO _ rfl) hk
 rw[←hsz]at fin
 exact FK ⟨_,rfl,FK fin⟩
theorem uN {z TI TO i1 i2 l t S:Addr}{k:Nat}{xs:Array tx}{Q:Option tx→FI→Prop}(hh:A.handled=none)(D:Kk z TI TO i1 i2 l t)(Z:eX s.heap z TI TO i1 i2 l t S k)
  (ht1:s.heap.IsList l xs)(hend:xs[k]?=none)
  (hQ:∀h',(∀c o,c≠z→c≠TO→c≠i1→c≠i2→s.heap.get? c=some o→h'.get? c=some o)→Q none {s with heap:=h'}):wpAny (model prog w) A (pyNext (.ref z)) Q E s:=by
 obtain⟨Zz,hTI,⟨a,b,hTO⟩,h1,h2⟩:=Z
 have hT:s.TypeIs (.ref z) "zip":=by rcases Zz with⟨_,e⟩|⟨_,_,_,e,_⟩<;>exact⟨_,e,rfl⟩
 have fin:∀h' e,(∀c o,c≠z→c≠TO→c≠i1→c≠i2→s.heap.get? c=some o→h'.get? c=some o)→(∃o,h'.get? e=some o∧o.cls=.type "StopIteration")→
   wpAny (model prog w) A (do if←isInstance (.ref e) (.type "StopIteration")then pure none else throw (.ref e)) Q E {s with heap:=h'}:=fun h' e hk ⟨o,ho,hc⟩=>
  ah (Je (T:="StopIteration") (b:=true) ⟨o,ho,hc⟩ isSubtype_stop (FK (hQ _ hk)))
 unfold pyNext
 refine ah (IL (GM (name:=Ho "__next__") hT IH (GN IH hT KR ?_ (KC _))))
 show wpAny _ _ (field (.ref z) 2>>=_) _ _ _
 rcases Zz with⟨_,hz⟩|⟨T,f,oT,hz,hTt,nT⟩
 ·refine ah (Gx hz rfl (x:=.bool false) rfl ?_)
  show wpAny _ _ (field (.ref z) 3>>=_) _ _ _
  refine ah (Gx hz rfl (x:=.ref TI) rfl (ah (Hq hTI rfl ?_)))
  show wpAny _ _ (Gn (.ref z)>>=_) _ _ _
  refine ah ?_
  unfold Gn
  refine ah (Gx hz rfl (x:=.none) rfl (FK ?_))
  simp only[if_true]
  refine ah (Jo (ah (Gx hz rfl (x:=.ref TO) rfl (ah (Hc hz (by simp) fun ha hza hsa=>ah ?_)))))
  replace hza:NT ha z TI TO .ellipsis:=hza
  simp only[MY,Nj,IA,Js]
  refine ah (ah (Mq ?_))
  show wpAny _ _ (GI (.ref i1)>>=_) _ _ _
  refine ah (ML hh (h1.at fun o e=>hsa.extBut _ _ D.i1z e) (ht1.at fun o e=>hsa.extBut _ _ D.l1z e) hend fun hb e hsb he=>?_)
  obtain⟨oe,hoe,hce⟩:=he
  have hzb:NT hb z TI TO .ellipsis:=hsb _ _ D.i1z.symm hza
  have hez:e≠z:=fun x=>by subst x;rw[hzb]at hoe;cases hoe;simp at hce
  exact Hc hzb (by simp) fun hc _ hsc=>fin hc e (fun c o c1 _ c3 _ x=>hsc.extBut _ _ c1 (hsb _ _ c3 (hsa.extBut _ _ c1 x))) ⟨oe,hsc.extBut _ _ hez hoe,hce⟩
 ·refine ah (Gx hz rfl (x:=.bool false) rfl ?_)
  show wpAny _ _ (field (.ref z) 3>>=_) _ _ _
  refine ah (Gx hz rfl (x:=.ref TI) rfl (ah (Hq hTI rfl ?_)))
  show wpAny _ _ (Gn (.ref z)>>=_) _ _ _
  refine ah (Gj (ph hz hTt) (fun b s1 hb=>?_) fun _ _ e=>e.elim)
  obtain⟨rfl,ha,rfl,hza,hsa⟩:=hb
  simp only[HI,if_false]
  refine ah ?_
  rw[←Mp]
  simp only[IA,Js]
  refine ah (ah (Hf ?_))
  show wpAny _ _ (GI (.ref i1)>>=_) _ _ _
  refine ah (ML hh (h1.at fun o e=>hsa.extBut _ _ D.i1z e) (ht1.at fun o e=>hsa.extBut _ _ D.l1z e) hend fun hb e hsb he=>?_)
  exact fin hb e (fun c o c1 _ c3 _ x=>hsb _ _ c3 (hsa.extBut _ _ c1 x)) he
structure iB (xs ys:Array tx)(lo:Addr)(h:Heap)(as:List Addr):Prop where
 rise:as.Pairwise (·<·)
 above:∀a∈as,lo≤a
 pairs:∀(j:Nat)(a:Addr),as[j]?=some a→∃x y,xs[j]?=some x∧ys[j]?=some y∧IZ h a x y
theorem iB.there {xs ys:Array tx}{lo:Addr}{h:Heap}{as:List Addr}(g:iB xs ys lo h as){a:Addr}(ha:a∈as):a<h.objs.size:=by
 obtain⟨j,hj⟩:=JM.mp ha
 obtain⟨_,_,_,_,e⟩:=g.pairs j a hj
 exact FM e
theorem eX.keepS {h h':Heap}{z TI TO i1 i2 l t S:Addr}{k:Nat}(Z:eX h z TI TO i1 i2 l t S k)(nS:S≠z∧S≠TI∧S≠TO∧S≠i1∧S≠i2)(hk:∀b o,b≠S→h.get? b=some o→h'.get? b=some o):eX h' z TI TO i1 i2 l t S k:=by
 obtain⟨Zz,hTI,⟨a,b,hTO⟩,h1,h2⟩:=Z
 refine⟨?_,hk _ _ nS.2.1.symm hTI,⟨a,b,hk _ _ nS.2.2.1.symm hTO⟩,h1.at fun o e=>hk _ o nS.2.2.2.1.symm e,h2.at fun o e=>hk _ o nS.2.2.2.2.symm e⟩
 rcases Zz with⟨e,hz⟩|⟨T,f,oT,hz,hTt,nT⟩
 ·exact .inl ⟨e,hk _ _ nS.1.symm hz⟩
 ·exact .inr ⟨T,f,oT,hk _ _ nS.1.symm hz,hk _ _ nT.2.2.2.2 hTt,nT⟩
theorem eX.item {z TI TO i1 i2 l t S:Addr}{k:Nat}{xs ys:Array tx}{x y:tx}{Q:Option tx→FI→Prop}(Z:eX s.heap z TI TO i1 i2 l t S k)(D:Kk z TI TO i1 i2 l t)
  (ht1:s.heap.IsList l xs)(ht2:s.heap.IsTuple t ys)(hx:xs[k]? =some x)(hy:ys[k]? =some y)(hS:S<s.heap.objs.size)
  (hQ:∀h',eX h' z TI TO i1 i2 l t S (k+1)→IZ h' s.heap.objs.size x y→
   (∀c o,c≠z→c≠TO→c≠i1→c≠i2→s.heap.get? c=some o→h'.get? c=some o)→Q (some (.ref s.heap.objs.size)) {s with heap:=h'}):
  wpAny (model prog w) A (pyNext (.ref z)) Q E s:=by
 obtain⟨Zz,hTI,⟨a,b,hTO⟩,h1,h2⟩:=Z
 rcases Zz with⟨_,hz⟩|⟨T,f,oT,hz,hTt,nT⟩
 ·exact pX D hz hTI hTO h1 h2 ht1 ht2 hx hy hS hQ
 ·exact sm D hz hTt nT hTI ⟨a,b,hTO⟩ h1 h2 ht1 ht2 hx hy hQ
end
section
variable {prog:Gd}{w:GH}{A:GC}{s:FI}{R:Lb→FI→Prop}{xs ys:Array tx}
theorem rP {z TI TO i1 i2 l t S lo:Addr}(hh:A.handled=none)(D:Kk z TI TO i1 i2 l t)(nS:S≠z∧S≠TI∧S≠TO∧S≠i1∧S≠i2)(nl:l≠S)(nt:t≠S)(below:∀b∈[z,TI,TO,i1,i2,S],b<lo)(hn:xs.size≤sizeLine)(hlen:xs.size=ys.size)(res:tx){h₁:Heap}
  (hR:∀h' tk acc c as,(∀b o,b∉[z,TI,TO,i1,i2,S]→h₁.get? b=some o→h'.get? b=some o)→h'.get? S=some {cls:=.type "list",dict:=none,data:=.seq acc c,slots:=#[]}→as.length=xs.size→iB xs ys lo h' as→
   acc.toList=as.map FT→R (.ok (.ret res)) {s with heap:=h',toks:=tk}):
  ∀(k i:Nat)(h:Heap)(tk c:Nat)(acc:Array tx)(as:List Addr),xs.size- i=k→i≤xs.size→eX h z TI TO i1 i2 l t S i→h.IsList l xs→h.IsTuple t ys→(∀b o,b∉[z,TI,TO,i1,i2,S]→h₁.get? b=some o→h.get? b=some o)→
   h.get? S=some {cls:=.type "list",dict:=none,data:=.seq acc c,slots:=#[]}→acc.toList=as.map FT→as.length=i→iB xs ys lo h as→lo≤h.objs.size→
   codeAny (model prog w) A (.builtin "list.extend.loop" ⟨[.ref S,.ref z,res],[]⟩) R {s with heap:=h,toks:=tk}:=by
 have inb:∀b,b∉[z,TI,TO,i1,i2,S]→b≠z∧b≠TO∧b≠i1∧b≠i2∧b≠S:=fun b hb=>by
  simp only[Gh,Ha,or_false,not_or]at hb
  exact⟨hb.1,hb.2.2.1,hb.2.2.2.1,hb.2.2.2.2.1,hb.2.2.2.2.2⟩
 have above:∀b,lo≤b→b≠z∧b≠TO∧b≠i1∧b≠i2∧b≠S:=fun b hb=>by
  have f:∀c∈[z,TI,TO,i1,i2,S],b≠c:=fun c hc=>HJ (Ge (below c hc) hb)
  exact⟨f z (by simp),f TO (by simp),f i1 (by simp),f i2 (by simp),f S (by simp)⟩
 intro k
 induction k with
 |zero=>
  intro i h tk c acc as hk hi hst hl ht hkeep hS hacc hal hG hIs
  have hin:i=xs.size:=by omega
  refine codeAny_builtin KB ?_
  rw[LF GS _]
  show wpAny _ A.in1 (pyNext (.ref z) >>= _) _ _ _
  refine ah (uN (s:={s with heap:=h,toks:=tk}) (A:=A.in1) hh D hst hl (JE (by omega)) fun h' he=>?_)
  refine FK (hR h' tk acc c as (fun b o h1 e=>?_) (he S _ nS.1 nS.2.2.1 nS.2.2.2.1 nS.2.2.2.2 hS) (by omega) ⟨hG.rise,hG.above,fun j a hj=>?_⟩ hacc)
  ·obtain⟨n1,n2,n3,n4,n5⟩:=inb b h1
   exact he b o n1 n2 n3 n4 (hkeep b o h1 e)
  ·obtain⟨x,y,e1,e2,e3⟩:=hG.pairs j a hj
   obtain⟨n1,n2,n3,n4,n5⟩:=above a (hG.above a (Ga hj))
   exact⟨x,y,e1,e2,he a _ n1 n2 n3 n4 e3⟩
 |succ k ih=>
  intro i h tk c acc as hk hi hst hl ht hkeep hS hacc hal hG hIs
  have hlt:i<xs.size:=by omega
  obtain⟨x,hx⟩:∃p,xs[i]? =some p:=⟨xs[i],GV hlt⟩
  obtain⟨y,hy⟩:∃p,ys[i]? =some p:=⟨ys[i],GV (by omega)⟩
  have hsz:acc.size=i:=by rw[←HW,hacc,FH,hal]
  refine codeAny_builtin KB ?_
  rw[LF GS _]
  show wpAny _ A.in1 (pyNext (.ref z) >>= _) _ _ _
  refine ah (eX.item (s:={s with heap:=h,toks:=tk}) (S:=S) hst D hl ht hx hy (FM hS) fun h' hst' hT hkp=>?_)
  dsimp only at hT hkp⊢
  have hS':=hkp S _ nS.1 nS.2.2.1 nS.2.2.2.1 nS.2.2.2.2 hS
  have up:∀b o,b≠S→h'.get? b=some o→(h'.update S (GR (·.push (FT h.objs.size)))).get? b=some o:=fun b o hb e=>(Gq _ _ (Gt hb)).trans e
  obtain⟨m1,m2,m3,m4,m5⟩:=above h.objs.size hIs
  have kl:∀o,h.get? l=some o→(h'.update S (GR (·.push (FT h.objs.size)))).get? l=some o:=fun o e=>up l o nl (hkp l o D.l1z D.l1TO D.l1i1 D.l1i2 e)
  have kt:∀o,h.get? t=some o→(h'.update S (GR (·.push (FT h.objs.size)))).get? t=some o:=fun o e=>up t o nt (hkp t o D.l2z D.l2TO D.l2i1 D.l2i2 e)
  show wpAny _ A.in1 (updateSeq S (·.push (FT h.objs.size)) >>= _) _ _ _
  refine ah ?_
  refine HY hS' rfl (FK ⟨Jk GS _,ih (i+1) _ tk _ (acc.push (FT h.objs.size)) (as++[h.objs.size]) (by omega) hlt (hst'.keepS nS up) (hl.at kl) (ht.at kt)
   (fun b o h1 e=>?_) (Gy _ hS' rfl) (by rw[Array.toList_push,hacc,Gb];rfl) (by rw[pv,hal];rfl) ⟨?_,?_,?_⟩ ?_⟩) (by rw[hsz];omega) (by show(acc.push (FT h.objs.size)).size≤sizeLine+1;rw[Array.size_push,hsz];omega)
  ·obtain⟨n1,n2,n3,n4,n5⟩:=inb b h1
   exact up b o n5 (hkp b o n1 n2 n3 n4 (hkeep b o h1 e))
  ·refine JT.mpr ⟨hG.rise,List.pairwise_singleton _ _,fun a ha b hb=>?_⟩
   rw[FU.mp hb]
   exact hG.there ha
  ·intro a ha
   rcases Gs.mp ha with ha|ha
   ·exact hG.above a ha
   ·rw[FU.mp ha];exact hIs
  ·intro j b hj
   rcases MV j as.length with h1|h1|h1
   ·rw[Iq h1]at hj
    obtain⟨x',y',e1,e2,e3⟩:=hG.pairs j b hj
    obtain⟨n1,n2,n3,n4,n5⟩:=above b (hG.above b (Ga hj))
    exact⟨x',y',e1,e2,up b _ n5 (hkp b _ n1 n2 n3 n4 e3)⟩
   ·subst h1
    have hb:h.objs.size=b:=by simpa using hj
    subst hb
    exact⟨x,y,by rw[hal];exact hx,by rw[hal];exact hy,up _ _ m5 hT⟩
   ·have hnone:(as++[h.objs.size])[j]? =none:=Hm (by rw[pv,LQ];omega)
    rw[hnone]at hj;cases hj
  ·have e:(h'.update S (GR (·.push (FT h.objs.size)))).get? h.objs.size=_:=up _ _ m5 hT
   exact HK (Hs hIs (FM e))
end
theorem sw:typeLookup (.type "zip") "__len__"=pure none:=by rw[Hg,GG];kernel_rfl
theorem qG:typeLookup (.type "zip") "__length_hint__"=pure none:=by rw[Hg,GG];kernel_rfl
section
variable {prog:Gd}{w:GH}{A:GC}{s:FI}{R:Lb→FI→Prop}{xs ys:Array tx}{z TI TO i1 i2 l t S:Addr}
theorem oA (hh:A.handled=none)(D:Kk z TI TO i1 i2 l t)(nS:S≠z∧S≠TI∧S≠TO∧S≠i1∧S≠i2)(nl:l≠S)(nt:t≠S)(hn:xs.size≤sizeLine)(hlen:xs.size=ys.size)(res:tx)(c₀:Nat)
  (Z:eX s.heap z TI TO i1 i2 l t S 0)(hz0:s.heap.get? z=some (ib .none (.bool false) TI TO))(hl:s.heap.IsList l xs)(ht:s.heap.IsTuple t ys)(hS:s.heap.get? S=some {cls:=.type "list",data:=.seq #[] c₀})
  (hR:∀h' tk acc c as,(∀b o,b∉[z,TI,TO,i1,i2,S]→s.heap.get? b=some o→h'.get? b=some o)→h'.get? S=some {cls:=.type "list",dict:=none,data:=.seq acc c,slots:=#[]}→as.length=xs.size→iB xs ys s.heap.objs.size h' as→
   acc.toList=as.map FT→R (.ok (.ret res)) {s with heap:=h',toks:=tk}):
  wpAny (model prog w) A.in1 (Gg (.ref S) (.ref z) res)
   (fun fin s'=>match fin with|.done f=>R (.ok f) s'|.again c'=>c'.quiet=true∧codeAny (model prog w) A c' R s') (fun e s'=>R (.error e) s') s:=by
 have hT:s.TypeIs (.ref z) "zip":=⟨_,hz0,rfl⟩
 have below:∀b∈[z,TI,TO,i1,i2,S],b<s.heap.objs.size:=fun b hb=>by
  obtain⟨_,hTI,⟨x,y,hTO⟩,⟨o1,e1,_⟩,⟨o2,e2,_⟩⟩:=Z
  simp only[Gh,Ha,or_false]at hb
  rcases hb with rfl|rfl|rfl|rfl|rfl|rfl
  ·exact FM hz0
  ·exact FM hTI
  ·exact FM hTO
  ·exact FM e1
  ·exact FM e2
  ·exact FM hS
 have key:∀(h:Heap)(c₁ tk:Nat),h.objs.size=s.heap.objs.size→(∀b o,b≠S→s.heap.get? b=some o→h.get? b=some o)→
   h.get? S=some {cls:=.type "list",data:=.seq #[] c₁}→codeAny (model prog w) A (.builtin "list.extend.loop" ⟨[.ref S,.ref z,res],[]⟩) R {s with heap:=h,toks:=tk}:=by
  intro h c₁ tk hz hk hS₁
  refine rP (s:=s) (h₁:=s.heap) hh D nS nl nt below hn hlen res (fun h' tk' acc c as hk' hS' hl hG hacc=>hR h' tk' acc c as hk' hS' hl hG hacc)
   xs.size 0 h tk c₁ #[] [] (Jq _) (Gc _) (Z.keepS nS hk) (hl.at fun o e=>hk l o nl e) (ht.at fun o e=>hk t o nt e) (fun b o hb e=>hk b o (fun q=>hb (by rw[q];simp)) e) hS₁ rfl rfl
   ⟨KZ,(fun _ ha=>nomatch ha),(fun j a hj=>by simp at hj)⟩ (JR hz.symm)
 unfold Gg
 refine ah (Jz (T:="zip") hT ?_)
 have h1:Hk (.ref S) (.ref z)=false:=by simp[Hk,nS.1]
 have h2:(JL "zip"==JL "list")=false:=by decide
 have h3:(JL "zip"==JL "tuple")=false:=by decide
 simp only[h1,h2,h3,NG,HI,if_false]
 refine ah (wpAny_pyIter_zip hz0 ?_)
 refine ah (Hf ?_)
 unfold IJ
 refine ah (Hv hT sw ?_)
 show wpAny _ A.in1 (specialOf (FT z) (Ho "__length_hint__")>>=_) _ _ _
 refine ah (Hv hT qG ?_)
 refine FK ?_
 refine wpAny_ite_split (fun _=>?_) (fun _=>FK ⟨Jk GS _,key _ c₀ _ rfl (fun b o _ e=>e) hS⟩)
 refine ah (Jo ?_)
 refine ah ?_
 show wpAny _ _ (updateSeq S (·.push .none)>>=fun _=>updateSeq S (·.pop)) _ _ _
 refine ah (HY hS rfl ?_)
 have hS₂:=Gy (GR (·.push HE)) hS rfl
 refine HY (hz:=by seq_fits) hS₂ rfl ?_
 have hS₃:=Gy (GR (·.pop)) hS₂ rfl
 refine FK ⟨Jk GS _,key _ _ _ ?_ (fun b o hb e=>?_) hS₃⟩
 ·rw[Kx,Kx]
 ·exact(Gq _ _ (Gt hb)).trans ((Gq _ _ (Gt hb)).trans e)
theorem rS (hh:A.handled=none)(D:Kk z TI TO i1 i2 l t)(nS:S≠z∧S≠TI∧S≠TO∧S≠i1∧S≠i2)(nl:l≠S)(nt:t≠S)(hn:xs.size≤sizeLine)(hlen:xs.size=ys.size)
  (Z:eX s.heap z TI TO i1 i2 l t S 0)(hz0:s.heap.get? z=some (ib .none (.bool false) TI TO))(hl:s.heap.IsList l xs)(ht:s.heap.IsTuple t ys)(hS:s.heap.get? S=some {cls:=.type "list",data:=.seq #[]})
  (hR:∀h' tk acc c as,(∀b o,b∉[z,TI,TO,i1,i2,S]→s.heap.get? b=some o→h'.get? b=some o)→h'.get? S=some {cls:=.type "list",dict:=none,data:=.seq acc c,slots:=#[]}→as.length=xs.size→iB xs ys s.heap.objs.size h' as→
   acc.toList=as.map FT→R (.ok (.ret .none)) {s with heap:=h',toks:=tk}):
  wpAny (model prog w) A.in1 (Iw.«list.__init__» ⟨[.ref S,.ref z],[]⟩)
   (fun fin s'=>match fin with|.done f=>R (.ok f) s'|.again c'=>c'.quiet=true∧codeAny (model prog w) A c' R s') (fun e s'=>R (.error e) s') s:=by
 show wpAny _ _ (do let old←Hx (.ref S);Jb (.ref S) (fun _=>#[]);letGo old.toList.reverse;Gg (.ref S) (.ref z) .none) _ _ s
 refine ah ?_
 unfold Hx
 refine ah (Hq hS rfl (FK ?_))
 show wpAny _ _ (updateSeq S (fun _=>#[]) >>= fun _=>letGo (#[]:Array tx).toList.reverse >>= fun _=>Gg (.ref S) (.ref z) .none) _ _ s
 refine ah (HY hS rfl ?_)
 have hS₂:=Gy (GR (fun _=>(#[]:Array tx))) hS rfl
 have oth:∀b o,b≠S→s.heap.get? b=some o→(s.heap.update S (GR (fun _=>(#[]:Array tx)))).get? b=some o:=
  fun b o hb e=>(Gq _ _ (Gt hb)).trans e
 refine ah (JO ?_)
 refine oA (s:={s with heap:=s.heap.update S (GR (fun _=>(#[]:Array tx)))}) hh D nS nl nt hn hlen .none _ (Z.keepS nS oth) (oth _ _ nS.1.symm hz0) (hl.at fun o e=>oth l o nl e) (ht.at fun o e=>oth t o nt e) hS₂ (fun h' tk acc c as hk hS' hl hG hacc=>?_)
 refine hR h' tk acc c as (fun b o hb e=>hk b o hb (oth b o (fun q=>hb (by rw[q];simp)) e)) hS' hl ?_ hacc
 have:(s.heap.update S (GR (fun _=>(#[]:Array tx)))).objs.size=s.heap.objs.size:=Kx ..
 rw[←this];exact hG
end
section
variable {prog:Gd}{w:GH}{A:GC}{E:tx→FI→Prop}{s:FI}{xs ys:Array tx}{z TI TO i1 i2 l t:Addr}
theorem sq {Q:tx→FI→Prop}(hh:A.handled=none)(D:Kk z TI TO i1 i2 l t)(hn:xs.size≤sizeLine)(hlen:xs.size=ys.size)
  (hz0:s.heap.get? z=some (ib .none (.bool false) TI TO))(hTI:IZ s.heap TI (.ref i1) (.ref i2))(hTO:∃a b,IZ s.heap TO a b)(j1:s.heap.IsListIter i1 l 0)(j2:s.heap.IsTupleIter i2 t 0)(hl:s.heap.IsList l xs)(ht:s.heap.IsTuple t ys)
  (hQ:∀h' tk acc c as,(∀b o,b∉[z,TI,TO,i1,i2]→s.heap.get? b=some o→h'.get? b=some o)→h'.get? s.heap.objs.size=some {cls:=.type "list",dict:=none,data:=.seq acc c,slots:=#[]}→as.length=xs.size→iB xs ys (s.heap.objs.size+1) h' as→
   acc.toList=as.map FT→Q (.ref s.heap.objs.size) {s with heap:=h',toks:=tk}):
  wpAny (model prog w) A (call (.type "list") [.ref z]) Q E s:=by
 refine LS (Q₁:=fun obj s₁=>obj=.ref s.heap.objs.size∧s₁={s with heap:=s.heap.push {cls:=.type "list",data:=.seq #[]}}) KS (Kg _) Kh
  (Mt _ ⟨rfl,rfl⟩) fun obj s₁ h₁=>?_
 obtain⟨rfl,rfl⟩:=h₁
 have hS:(s.heap.push {cls:=.type "list",data:=.seq #[]}).get? s.heap.objs.size=some {cls:=.type "list",data:=.seq #[]}:=FO _ rfl
 have up:∀b o,s.heap.get? b=some o→(s.heap.push {cls:=.type "list",data:=.seq #[]}).get? b=some o:=fun b o e=>cW _ e
 obtain⟨a,b,hTO⟩:=hTO
 have nn:∀b o,s.heap.get? b=some o→s.heap.objs.size≠b:=fun b o e=>HJ (FM e)
 have nS:s.heap.objs.size≠z∧s.heap.objs.size≠TI∧s.heap.objs.size≠TO∧s.heap.objs.size≠i1∧s.heap.objs.size≠i2:=by
  obtain⟨o1,e1,_⟩:=j1
  obtain⟨o2,e2,_⟩:=j2
  exact⟨nn _ _ hz0,nn _ _ hTI,nn _ _ hTO,nn _ _ e1,nn _ _ e2⟩
 have nl:l≠s.heap.objs.size:=by obtain⟨o,e,_⟩:=hl;exact(nn _ _ e).symm
 have nt:t≠s.heap.objs.size:=by obtain⟨o,e,_⟩:=ht;exact(nn _ _ e).symm
 refine⟨⟨_,hS,rfl⟩,JW _ _,rS (s:={s with heap:=s.heap.push {cls:=.type "list",data:=.seq #[]}}) (A:=A.in1) hh D nS nl nt hn hlen
  ⟨.inl ⟨rfl,up _ _ hz0⟩,up _ _ hTI,⟨a,b,up _ _ hTO⟩,j1.at fun o e=>up _ o e,j2.at fun o e=>up _ o e⟩ (up _ _ hz0) (hl.at fun o e=>up _ o e) (ht.at fun o e=>up _ o e) hS (fun h' tk acc c as hk hS' hl hG hacc=>?_)⟩
 refine⟨rfl,hQ h' tk acc c as (fun b o hb e=>hk b o (fun q=>?_) (up b o e)) hS' hl ?_ hacc⟩
 ·simp only[Gh,Ha,or_false]at q hb
  rcases q with q|q|q|q|q|q
  ·exact hb (.inl q)
  ·exact hb (.inr (.inl q))
  ·exact hb (.inr (.inr (.inl q)))
  ·exact hb (.inr (.inr (.inr (.inl q))))
  ·exact hb (.inr (.inr (.inr (.inr q))))
  ·exact nn b o e q.symm
 ·have:(s.heap.push {cls:=.type "list",data:=.seq #[]}).objs.size=s.heap.objs.size+1:=HB ..
  rw[←this];exact hG
abbrev yE (l:Addr):Obj:={cls:=.type "list_iterator",data:=.fields #[.ref l,.int 0 0]}
abbrev zm1 (h:Heap)(t1:Addr):Heap:=h.push (yE t1)
abbrev zm2 (h:Heap)(t1 t2:Addr):Heap:=(zm1 h t1).push (itO t2)
abbrev zm3 (h:Heap)(t1 t2:Addr):Heap:=(zm2 h t1 t2).push {cls:=.type "tuple",data:=.seq #[.ref h.objs.size,.ref (zm1 h t1).objs.size]}
abbrev zm4 (h:Heap)(t1 t2:Addr):Heap:=(zm3 h t1 t2).push {cls:=.type "tuple",data:=.seq #[.none,.none]}
abbrev zm5 (h:Heap)(t1 t2:Addr):Heap:=(zm4 h t1 t2).push {cls:=.type "zip",data:=.fields #[.none,.bool false,.bool false,.ref (zm2 h t1 t2).objs.size,.ref (zm3 h t1 t2).objs.size]}
theorem uc (t1 t2:Addr)(xs ys:Array tx):
  Meets (Iw.«zip.__new__» ⟨[.type "zip",.ref t1,.ref t2],[]⟩) (fun _ R s=>s.heap.IsList t1 xs∧s.heap.IsTuple t2 ys∧R (.ok (.ret (.ref (zm4 s.heap t1 t2).objs.size))) {s with heap:=zm5 s.heap t1 t2}):=
 .of_wp fun prog w A R s h=>by
  obtain⟨hp,g,d,tk,os⟩:=s;obtain⟨hl1,hl2,h⟩:=h
  have hsub:=sub_zip
  have hL1:Heap.IsList (NB ⟨hp,g,d,tk,os⟩) t1 xs:=hl1
  have hL2:Heap.IsTuple (NB ⟨hp.push (yE t1),g,d,tk,os⟩) t2 ys:=hl2.at fun o e=>cW _ e
  wp_walk using KM hL1,Ny hL2
  exact⟨_,rfl,h⟩
theorem qV {t1 t2:Addr}{Q:tx→FI→Prop}(hl1:s.heap.IsList t1 xs)(hl2:s.heap.IsTuple t2 ys)
  (h:∀h',h'.get? (s.heap.objs.size+4)=some (ib .none (.bool false) (s.heap.objs.size+2) (s.heap.objs.size+3))→IZ h' (s.heap.objs.size+2) (.ref s.heap.objs.size) (.ref (s.heap.objs.size+1))→(∃a b,IZ h' (s.heap.objs.size+3) a b)→
   h'.IsListIter s.heap.objs.size t1 0→h'.IsTupleIter (s.heap.objs.size+1) t2 0→h'.objs.size=s.heap.objs.size+5→(∀c o,s.heap.get? c=some o→h'.get? c=some o)→Q (.ref (s.heap.objs.size+4)) {s with heap:=h'}):
  wpAny (model prog w) A (call (.type "zip") [.ref t1,.ref t2]) Q E s:=by
 refine callType_new F.called_zip (by decide) (F.typeCall_zip_2 _ _) (F.newCall_zip_2 _ _) (fun obj=>F.args_object_init_3 obj _ _) F.entry_zip_new (uc t1 t2 xs ys) ⟨hl1,hl2,?_⟩
 have z1:(zm1 s.heap t1).objs.size=s.heap.objs.size+1:=HB ..
 have z2:(zm2 s.heap t1 t2).objs.size=s.heap.objs.size+2:=by rw[HB,z1]
 have z3:(zm3 s.heap t1 t2).objs.size=s.heap.objs.size+3:=by rw[HB,z2]
 have z4:(zm4 s.heap t1 t2).objs.size=s.heap.objs.size+4:=by rw[HB,z3]
 have z5:(zm5 s.heap t1 t2).objs.size=s.heap.objs.size+5:=by rw[HB,z4]
 have g5:(zm5 s.heap t1 t2).get? (zm4 s.heap t1 t2).objs.size=some _:=FO _ rfl
 have g4:(zm5 s.heap t1 t2).get? (zm3 s.heap t1 t2).objs.size=some _:=cW _ (FO _ rfl)
 have g3:(zm5 s.heap t1 t2).get? (zm2 s.heap t1 t2).objs.size=some _:=cW _ (cW _ (FO _ rfl))
 have g2:(zm5 s.heap t1 t2).get? (zm1 s.heap t1).objs.size=some _:=cW _ (cW _ (cW _ (FO _ rfl)))
 have g1:(zm5 s.heap t1 t2).get? s.heap.objs.size=some _:=cW _ (cW _ (cW _ (cW _ (FO _ rfl))))
 show _∧_
 rw[z2,z3,z4]at g5
 rw[z1,z2]at g3
 rw[z3]at g4
 rw[z1]at g2
 rw[z4]
 exact⟨⟨_,g5,rfl⟩,h _ g5 g3 ⟨_,_,g4⟩ ⟨_,g1,rfl,rfl⟩ ⟨_,g2,rfl,rfl⟩ z5 fun c o x=>cW _ (cW _ (cW _ (cW _ (cW _ x))))⟩
end
end HT
namespace L2
open PySem PySem.Spec PyProof.Rows
section
variable {X:Cx}{pins:List (Addr×Obj)}{σ:St}{H:Hp}{s:FI}{h':Heap}
theorem oy {tk:Nat}{us vs:List V}{xs ys:List tx}{lo:Addr}{as:List Addr}(I:Inv X pins σ H s)(k:∀b o,s.heap.get? b=some o→h'.get? b=some o)(hlo:s.heap.objs.size≤lo)(r1:aJ us xs)(r2:aJ vs ys)(G:HT.iB xs.toArray ys.toArray lo h' as):
  ∀n,n≤as.length→∃H',au H H'∧(∀j a x y,j<n→as[j]? =some a→us[j]? =some x→vs[j]? =some y→H' a=some (.tup [x,y]))∧(∀b,H b=none→b∉as.take n→H' b=none)∧Inv X pins σ H' {s with heap:=h',toks:=tk}:=by
 intro n
 induction n with
 |zero=>intro _;exact⟨H,au.rfl',fun j a x y h=>absurd h (by omega),fun b e _=>e,I.kept (t':=tk) k⟩
 |succ n ih=>
  intro hn
  obtain⟨H1,S1,t1,f1,I1⟩:=ih (by omega)
  have hlt:n<as.length:=hn
  have ea:as[n]? =some as[n]:=FQ hlt
  obtain⟨x,y,e1,e2,e3⟩:=G.pairs n _ ea
  have hxl:n<xs.length:=by have:=(Il.mp e1).1;simpa using this
  have hyl:n<ys.length:=by have:=(Il.mp e2).1;simpa using this
  obtain⟨u,hu⟩:∃u,us[n]? =some u:=⟨_,FQ (by rw[r1.length];exact hxl)⟩
  obtain⟨v,hv⟩:∃v,vs[n]? =some v:=⟨_,FQ (by rw[r2.length];exact hyl)⟩
  obtain⟨x',gx,rx⟩:=r1.get hu
  obtain⟨y',gy,ry⟩:=r2.get hv
  have ex:x'=x:=by have:xs[n]? =some x:=by simpa using e1
                   exact FY (gx.symm.trans this)
  have ey:y'=y:=by have:ys[n]? =some y:=by simpa using e2
                   exact FY (gy.symm.trans this)
  subst ex ey
  have ge:s.heap.objs.size≤as[n]:=Gk hlo (G.above _ (Ga ea))
  have nin:as[n]∉as.take n:=fun hm=>by
   obtain⟨j,hj⟩:=JM.mp hm
   have hjn:j<n:=by have:=(FN.mp hj).1;rw[FJ]at this;omega
   rw[Kn,if_pos hjn]at hj
   have:=List.pairwise_iff_getElem.mp G.rise j n (by omega) hlt hjn
   rw[(FN.mp hj).2]at this
   exact GP _ this
  have hfree:H1 as[n]=none:=f1 _ (I.hok.fresh ge) nin
  have I2:Inv X pins σ (upd H1 as[n] (.tup [u,v])) {s with heap:=h',toks:=tk}:=Inv.track2 I I1 ge hfree ⟨by show 2≤sizeLine;decide,[x',y'],.cons rx (.cons ry .nil),⟨_,e3,rfl,_,rfl⟩⟩
  refine⟨_,S1.trans (au.upd hfree),fun j a x y hj ha hx hy=>?_,fun b e hb=>?_,I2⟩
  ·rcases Nat.lt_or_eq_of_le (Nat.le_of_lt_succ hj)with h|h
   ·exact au.upd hfree _ _ (t1 j a x y h ha hx hy)
   ·subst h
    rw[ea]at ha;cases ha
    rw[hu]at hx;cases hx
    rw[hv]at hy;cases hy
    exact aj
  ·have nb:b≠as[n]:=fun q=>hb (by rw[q];exact JM.mpr ⟨n,by rw[Kn,if_pos (Hb _)];exact ea⟩)
   rw[al nb]
   exact f1 b e fun q=>hb (by rw[Nx];exact Hz _ q)
def nk (K:pz):List V→Hp→VK→Prop:=fun xs H Q=>∃c d us vs,xs=[.ref c,.ref d]∧SqL K H c us∧SqT K H d vs∧us.length=vs.length∧
 ∀(l:Addr)(ps:List Addr)(H':Hp),H l=none→au H H'→ps.length=us.length→(∀(j:Nat)(p:Addr)(x y:V),ps[j]?=some p→us[j]?=some x→vs[j]?=some y→H' p=some (.tup [x,y]))→H' l=some (.lst (ps.map V.ref))→Q (.ref l) H'
theorem vC {Q:VK}{c d:Addr}{us vs:List V}(hc:X.calm=true)(I:Inv X pins σ H s)(hx:SqL X.K H c us)(hy:SqT X.K H d vs)(hl:us.length=vs.length)
  (q:∀(l:Addr)(ps:List Addr)(H':Hp),H l=none→au H H'→ps.length=us.length→(∀(j:Nat)(p:Addr)(x y:V),ps[j]?=some p→us[j]?=some x→vs[j]?=some y→H' p=some (.tup [x,y]))→H' l=some (.lst (ps.map V.ref))→Q (.ref l) H'):
  wpAny (model X.prog X.w) X.A (call (.type "zip") [.ref c,.ref d]) (fun u s2=>wpAny (model X.prog X.w) X.A (call (.type "list") [u]) (EP X pins σ Q) X.xe s2) X.xe s:=by
 obtain⟨its,r1,p1,hz1⟩:=I.list hx
 obtain⟨its2,r2,p2,_⟩:=I.tuple hy
 have l1:=r1.length
 have l2:=r2.length
 have hL:s.heap.IsList c its.toArray:=p1.isList
 have hT:s.heap.IsTuple d its2.toArray:=p2
 have lt1:c<s.heap.objs.size:=by obtain⟨o,e,_⟩:=hL;exact FM e
 have lt2:d<s.heap.objs.size:=by obtain⟨o,e,_⟩:=hT;exact FM e
 refine HT.qV hL hT fun h1 y1 y2 y3 y4 y5 hsz hk=>?_
 refine HT.sq (s:={s with heap:=h1}) (I.ok.hd hc) (zipApart_new lt1 lt2) (by rw[FL];omega) (by rw[FL,FL];omega) y1 y2 y3 y4 y5 (hL.at fun o e=>hk _ o e) (hT.at fun o e=>hk _ o e) fun h2 tk acc cc as hk2 hS hla hG hacc=>?_
 have hsz1:({s with heap:=h1}:FI).heap.objs.size=s.heap.objs.size+5:=hsz
 rw[hsz1]at hS hG⊢
 have kk:∀b o,s.heap.get? b=some o→h2.get? b=some o:=fun b o e=>hk2 b o (fun z=>by
  have hb:=FM e
  simp only[Gh,Ha,or_false]at z
  rcases z with rfl|rfl|rfl|rfl|rfl<;>exact absurd hb (Nat.not_lt.mpr (by first|exact gV _|exact IV _ _))) (hk b o e)
 obtain⟨H',S',tr,fr,I'⟩:=oy (tk:=tk) I kk (Gk (IV _ 5) (IN _)) r1 r2 hG as.length (gV _)
 have hSfree:H' (s.heap.objs.size+5)=none:=fr _ (I.hok.fresh (IV _ _)) fun hm=>by
  have:=hG.above _ (IW hm)
  exact absurd this (Nat.not_le.mpr (Hb _))
 have rr:aJ (as.map V.ref) (as.map FT):=by
  clear q tr fr hla hG hacc
  induction as with
  |nil=>exact .nil
  |cons a r ih=>exact .cons rfl ih
 have hla':as.length=us.length:=by rw[hla,FL];omega
 have I2:Inv X pins σ (upd H' (s.heap.objs.size+5) (.lst (as.map V.ref))) {s with heap:=h2,toks:=tk}:=Inv.track2 I I' (IV _ _) hSfree ⟨by rw[FH,hla'];exact hz1,as.map FT,cc,rr,by rw[hS,←hacc]⟩
 exact⟨.ref (s.heap.objs.size+5),_,I2,rfl,q _ as _ (I.hok.fresh (IV _ _)) (S'.trans (au.upd hSfree)) hla' (fun j p x y hj hx hy=>au.upd hSfree _ _ (tr j p x y (FN.mp hj).1 hj hx hy)) aj⟩
end
section
variable {X:Cx}{a b:Expr}{t:TA}{p1 p2 pos1 pos2:Pos}
theorem rN (hm1:X.mg "list"=none)(hm2:X.mg "zip"=none)(hc:X.calm=true)(ha:QA X [a,b] t)(hg1:Gl X "list":=by rfl)(hg2:Gl X "zip":=by rfl)(hs:aS [a,b]=true:=by rfl):
  QE X (.Call (.Name "list" p1) [.Call (.Name "zip" p2) [a,b] [] pos2] [] pos1) (tCB (nk X.K) t):=⟨fun pins s σ H Q I h=>by
 have h':(bF a&&aS [b])=true:=hs
 refine GL (dB I hg1 hm1 lA ?_ (by decide) (by decide))
 refine GB ?_ rfl rfl
 show wpAny _ _ (spliced ((false,eval (.Call (.Name "zip" p2) [a,b] [] pos2) X.env)::backTo pos1 (starEach [] X.env))) _ _ s
 refine Jj ?_
 refine GL (dB I hg2 hm2 zU ?_ (by decide) (by decide))
 refine GB (thn (ha.out pos2 pins s σ H _ I h) fun us s1 ⟨vs,H1,I1,r1,q1⟩=>?_)
  (aT (FP.mp h').1 [b] X.env) (bw (FP.mp h').2)
 obtain⟨c,d,xs,ys,rfl,hx,hy,hl,q⟩:=q1
 obtain⟨u,w',rfl,ru,rw'⟩:=kE r1
 cases ru
 cases rw'
 refine Gj (vC hc I1 hx hy hl q) (fun u s2 z=>?_) fun _ _ z=>z
 exact Jv z⟩
end
def vp (K:pz)(a:Addr)(n:Nat):It where
 go:=fun i H=>i<n∧∃xs,SqL K H a xs∧xs.length=n
 yld:=fun i H x H'=>H'=H∧∀xs,SqL K H a xs→xs[n- 1- i]?=some x
 stop:=fun i _=>n≤i
theorem rk {P:Gd}{w:GH}{K:pz}{tg:Expr}(a it:Addr)(n:Nat):iK P w K tg (vp K a n) [it] it (fun i h=>i≤n∧h.IsRevIter it a ((n:Int)- 1- i))where
 mem:=by simp
 obj:=fun i h st b hb=>by
  have e:b=it:=by simpa using hb
  subst e
  obtain⟨_,o,e,c,d⟩:=st
  exact⟨o,e,fun v z=>by rw[d]at z;cases z⟩
 keep:=fun i h h' st k=>⟨st.1,st.2.at fun o e=>k it (by simp) o e⟩
 item:=by
  intro X hP hw hK hc i pins s σ H E I hf st hg
  subst hP hw hK
  obtain⟨hi,xs,hq,hl⟩:=hg
  obtain⟨its,rv,p,hz⟩:=I.list hq
  obtain⟨x,hx⟩:∃x,xs[n- 1- i]?=some x:=⟨_,FQ (by omega)⟩
  obtain⟨u,hu,ru⟩:=rv.get hx
  obtain⟨f0,f1,f2,f3,f4,f5⟩:=hf it (by simp)
  have st2:=st.2
  rw[show(n:Int)- 1- i=((n- 1- i:Nat):Int)by omega]at st2
  refine wpAny_pyNext_rev_item st2 p.isList (x:=u) (by simpa using hu) fun h' st' sb=>?_
  have I1:Inv X pins σ H {s with heap:=h'}:=I.turned (t':=s.toks) (fun b o hb e=>(sb.2 b hb).trans e) f0 f1 f3 f4 f5
  obtain⟨o,e1,c,d⟩:=id st'
  refine⟨u,rfl,iZ (s:={s with heap:=h'}) e1 c d (by decide) ⟨x,H,I1,ru,⟨rfl,fun ys hy=>by rw[I.list_inj hy hq];exact hx⟩,⟨hi,?_⟩,fun b hb=>(hf b hb).1⟩⟩
  rw[show(n:Int)- 1- ((i+1:Nat):Int)=((n- 1- i:Nat):Int)- 1 by omega];exact st'
 done:=by
  intro X hP hw hK hc i pins s σ H E I hf st hg
  subst hP hw hK
  obtain⟨f0,f1,f2,f3,f4,f5⟩:=hf it (by simp)
  have hg:n≤i:=hg
  have hi:=st.1
  have st2:=st.2
  rw[show(n:Int)- 1- i= -1 by omega]at st2
  exact wpAny_pyNext_rev_end (I.ok.hd hc) st2 fun h' eb=>⟨rfl,I.turned (t':=s.toks) (fun b o hb e=>eb b o hb e) f0 f1 f3 f4 f5⟩
 self:=fun _ _ _ _ _ st h=>Nc st.2 h
theorem cK.revL {K:pz}{a:Addr}{xs:List V}(d:V):cK (vp K a xs.length) xs.length (fun i=>xs.reverse.getD i d) (fun H=>SqL K H a xs)where
 go:=fun i H hi h=>⟨hi,xs,h,rfl⟩
 yld:=fun i H x H' hi h y=>⟨y.1,by rw[Gp,HH hi,y.2 xs h];rfl⟩
 stop:=fun H h=>gV _
section
variable {X:Cx}{a:Expr}{t:TA}{p pos:Pos}{tg:Expr}
def ww (K:pz)(t:TA):TI:=fun σ H R=>t σ H fun vs H1=>∃c xs,vs=[.ref c]∧((SqL K H1 c xs∧R (vp K c xs.length) H1)∨(SqT K H1 c xs∧R (zN K c xs) H1))
theorem AC (hm:X.mg "reversed"=none)(ha:QA X [a] t)(hg:Gl X "reversed":=by rfl)(hs:aS [a]=true:=by rfl):QI X tg (.Call (.Name "reversed" p) [a] [] pos) (ww X.K t):=⟨fun pins s σ H R I h=>by
 have h':(bF a&&aS [])=true:=hs
 refine GL (dB I hg hm gz ?_ (by decide) (by decide))
 refine GB (thn (ha.out pos pins s σ H _ I h) fun us s1 ⟨vs,H1,I1,r1,q1⟩=>?_)
  (aT (FP.mp h').1 [] X.env) (bw (FP.mp h').2)
 obtain⟨c,xs,rfl,q1⟩:=q1
 obtain⟨u,rfl,ru⟩:=fK r1
 cases ru
 rcases q1 with⟨hq,q⟩|⟨hq,q⟩
 ·obtain⟨its,rv,p,hz⟩:=I1.list hq
  have hl:=rv.length
  refine Nz p.isList ?_
  have st:(s1.heap.push (revObj c ((its.toArray.size:Int)- 1))).IsRevIter s1.heap.objs.size c ((xs.length:Int)- 1- ((0:Nat):Int)):=by
   refine⟨_,FO _ rfl,rfl,?_⟩
   have e:(xs.length:Int)- 1- ((0:Nat):Int)=(its.toArray.size:Int)- 1:=by rw[FL];omega
   rw[e];rfl
  refine Nc (s:={s1 with heap:=s1.heap.push (revObj c ((its.toArray.size:Int)- 1))}) st ?_
  refine⟨s1.heap.objs.size,[s1.heap.objs.size],_,_,H1,rfl,I1.kept (t':=s1.toks) fun b o e=>cW _ e,rk c _ xs.length,⟨Gc _,st⟩,fun b hb=>?_,q⟩
  have e:b=s1.heap.objs.size:=by simpa using hb
  subst e
  exact I1.fpOk (gV _) (I1.hok.fresh (gV _))
 ·obtain⟨its,rv,p,hz⟩:=I1.tuple hq
  have hl:=rv.length
  refine HT.eT (show KF s1.heap c its.toArray from p) (by rw[FL];rw[HR]at hz;omega) ?_
  have st:HT.eI (s1.heap.push (HT.iD c ((its.toArray.size:Int)- 1))) s1.heap.objs.size c ((xs.length:Int)- 1- ((0:Nat):Int)):=by
   show(s1.heap.push _).get? _=_
   have e:(xs.length:Int)- 1- ((0:Nat):Int)=(its.toArray.size:Int)- 1:=by rw[FL];omega
   rw[e]
   exact FO _ rfl
  refine HT.jx (s:={s1 with heap:=s1.heap.push (HT.iD c ((its.toArray.size:Int)- 1)),toks:=s1.toks+1+1}) st ?_
  refine⟨s1.heap.objs.size,[s1.heap.objs.size],_,_,H1,rfl,I1.kept (t':=s1.toks+1+1) fun b o e=>cW _ e,tF c _ xs,⟨Gc _,st⟩,fun b hb=>?_,q⟩
  have e:b=s1.heap.objs.size:=by simpa using hb
  subst e
  exact I1.fpOk (gV _) (I1.hok.fresh (gV _))⟩
end
end L2
namespace HT
open PySem PySem.Spec PyProof.Rows
theorem sk:typeLookup (.type "reversed") "__len__"=pure none:=by rw[Hg,GG];kernel_rfl
theorem tP:typeLookup (.type "reversed") "__length_hint__"=pure (some (.builtin "reversed.__length_hint__")):=by rw[Hg,GG];kernel_rfl
theorem iq:Slot "reversed" "__length_hint__" "reversed.__length_hint__":=
 .of (owner:="reversed") (n:="__length_hint__") (by rw[Hg,GG];kernel_rfl) (by decide+kernel) (by decide+kernel) (by decide+kernel)
  (by first|exact .inl (by decide+kernel)|exact .inr (by decide+kernel)) (by rw[HS];kernel_rfl)
theorem kY:entryFor table "reversed.__length_hint__"=some Iw.«reversed.__length_hint__»:=entryFor_of_tree (by kernel_rfl)
theorem mi (a:tx):argsOk "reversed.__length_hint__" ⟨[a],[]⟩:=by
 unfold argsOk;rw[Mr (id:="reversed.__length_hint__") (n:="__length_hint__".toList.reverse) (o:=['d','e','s','r','e','v','e','r']) (by kernel_rfl) iA];kernel_rfl
theorem ma {prog:Gd}{w:GH}{A:GC}{E:tx→FI→Prop}{s:FI}{it t:Addr}{items:Array tx}{Q:tx→FI→Prop}(hit:eI s.heap it t ((items.size:Int)- 1))(ht:KF s.heap t items)(hz:(items.size:Int)<2^63)
  (h:∀tk tk',s.toks≤tk→Q (.int items.size tk') {s with toks:=tk}):wpAny (model prog w) A (call (.builtin "reversed.__length_hint__") [.ref it]) Q E s:=by
 refine GN iq hit.typeIs kY ?_ (mi _)
 unfold Iw.«reversed.__length_hint__»
 refine ah (Ig (a:=FT it) rfl ?_)
 refine ah (Gx hit rfl (x:=.ref t) rfl ?_)
 rw[if_neg (by simp)]
 refine ah (len_tuple ht hz ?_)
 refine ah (Ig (a:=some ((items.size:Nat):Int)) rfl ?_)
 try dsimp only
 refine ah (Gx (s:={s with toks:=s.toks+1+1}) hit rfl (x:=rawInt ((items.size:Int)- 1)) rfl ?_)
 show wpAny _ _ (if (items.size:Int)<(items.size:Int)- 1+1 then _ else _) _ _ _
 rw[if_neg (by omega),show(items.size:Int)- 1+1=items.size from by omega]
 refine ah (Nl ?_)
 exact FK ⟨_,rfl,h _ _ (by show s.toks≤s.toks+1+1+1;omega)⟩
theorem ou {prog:Gd}{w:GH}{A:GC}(hh:A.handled=none)(I t:Addr)(hne:t≠I)(items:Array tx)(hz:(items.size:Int)<2^63):
  Walks prog w A I [I,t] [I] items.size (fun i v=>items[items.size- 1- i]?=some v) (fun i h=>i≤items.size∧eI h I t ((items.size:Int)- 1- (i:Int))∧KF h t items)where
 sub:=fun b hb=>by simp at hb;simp[hb]
 frame:=fun _ _ _ x hk=>⟨x.1,hk I (by simp) _ x.2.1,let ⟨o,ho,r⟩:=x.2.2;⟨o,hk t (by simp) _ ho,r⟩⟩
 item:=fun i s Q E hi x hQ=>by
  have e:(items.size:Int)- 1- (i:Int)=((items.size- 1- i:Nat):Int):=by omega
  have hit:=x.2.1
  rw[e]at hit
  have hx:items[items.size- 1- i]?=some (items[items.size- 1- i]'(by omega)):=GV (by omega)
  refine iu hit x.2.2 hz hx fun h' hit' hs'=>?_
  have e2:((items.size- 1- i:Nat):Int)- 1=(items.size:Int)- 1- ((i+1:Nat):Int):=by omega
  rw[e2]at hit'
  exact hQ _ h' _ hx ⟨hi,hit',x.2.2.extBut hs'.extBut hne⟩ fun b o hb eo=>hs'.extBut b o (fun h=>hb (by simp[h])) eo
 done:=fun s Q E x hQ=>by
  have e:(items.size:Int)- 1- (items.size:Int)= -1:=by omega
  have hit:=x.2.1
  rw[e]at hit
  exact iV hh hit fun h' he'=>hQ h' s.toks fun b o hb eo=>he' b o (fun h=>hb (by simp[h])) eo
 self:=fun _ _ _ _ x hQ=>jx x.2.1 hQ
end HT
namespace L2
open PySem PySem.Spec PyProof.Rows PySem.W
section
variable {key:Nat→Int}{n:Nat}
variable (inj:∀i j,i<n→j<n→key i=key j→i=j)
include inj
omit inj in
omit inj in
omit inj in
end
end L2
namespace Rs
abbrev st (B k d:Nat):Nat:=k/2^(B- d)
end Rs
namespace L2
open PySem PySem.Spec PyProof.Rows
section
variable {P:Gd}{w:GH}{H:Hp}{cs:List Addr}{cvs:List V}
theorem CR.back2 {outer:List Env}{s s':FI}{Q:VK}{E:XK}{r:Lb}(hc:bX H cs cvs)(hfs:∀b∈frs outer,H b=none)(ok:HOk P w H s.heap)
  (h:CR (CX1 P w) outer P w (bB cs H) s (fun v H'=>(∀c∈cs,H' c=none)→Q v (bL cs H H')) (fun c a H'=>E c a (bL cs H H')) r s'):CR (CX1 P w) outer P w H s Q E r s':=by
 cases r with
 |error e=>
  have h2:CR (CX1 P w) outer P w (bB cs H) s (fun v H'=>Q v (bL cs H H')) (fun c a H'=>E c a (bL cs H H')) (.error e) s':=h
  exact CR.back hc hfs ok h2
 |ok fl=>
  cases fl with
  |ret u=>
   obtain⟨v,H',os,bare,un,hok,rv,q⟩:=h
   obtain⟨u',k⟩:=lx hc hfs ok un hok
   refine⟨v,_,os,bare,u',k,rv,q fun c hm=>?_⟩
   obtain⟨v,ev⟩:=hc.mem c hm
   obtain⟨_,⟨o,eo⟩,_⟩:=(show aY P w H s.heap c (cG c v)from ok c _ ev)
   exact un.free c o eo (cz hm) (by simp)
  |next=>exact Gm h
  |brk=>exact Gm h
  |cont=>exact Gm h
end
structure gI (P:Gd)(w:GH)(K:pz)(mg:Str→Option tx)(base:Heap)(k:Nat)(t:dj)(sp:Sp):Prop where
 run:∀(A:GC)(outer:List Env)(s:FI)(H:Hp)(f:Addr)(cs:List Addr)(us:List tx)(vs cvs:List V)(Q:VK)(E:XK),bn k A→gB P w K mg base A outer s H→cQ H f t cs cvs→aJ vs us→vs.length=t.ps.length→
  sp (vs++cvs) (bB cs H) (fun v H'=>(∀c∈cs,H' c=none)→Q v (bL cs H H')) (fun c a H'=>E c a (bL cs H H'))→codeAny (model P w) A (.call (.ref f) ⟨us,[]⟩) (CR (CX1 P w) outer P w H s Q E) s
section
variable {P:Gd}{w:GH}{K:pz}{mg:Str→Option tx}{base:Heap}{k m:Nat}{t:dj}{N:List Str}{sp:Sp}
theorem gI.mono (h:gI P w K mg base k t sp)(hk:k≤m):gI P w K mg base m t sp:=⟨fun A outer s H f cs us vs cvs Q E hr=>h.run A outer s H f cs us vs cvs Q E (hr.mono hk)⟩
theorem wI {body:List Stmt}(hb:t.body=.stmts body)(S:ga N t.ps t.ys t.scope)
  (hbody:∀(f c:Addr)(cl:List (Str×Addr))(A:GC)(outer:List Env)(s:FI)(H:Hp)(vs cvs:List V)(Q:VK)(E:XK),bn k (A.deeper (Kt t.qual t.scope s.heap.objs.size f (.ref c) cl))→vs.length=t.ps.length→cvs.length=t.ys.length→sp (vs++cvs) H Q E→
   ∃td,PSs (je P w K mg base N t.qual t.scope f c cl A outer s H E) body td∧td {nx:=fun _ H'=>Q .non H',rt:=Q} (eQ N vs cvs) H):gI P w K mg base (k+1) t sp:=by
 refine⟨fun A outer s H f cs us vs cvs Q E hr e0 ca r hl hsp=>?_⟩
 obtain⟨c,hf,hcc⟩:=ca.ex
 have KX:K.In s.heap:=e0.mod.kin.keeps fun b o e=>(e0.bs b o e).1
 have lim:s.heap.NoLimit:=e0.mod.nolimit.keeps fun b o e=>(e0.bs b o e).1
 obtain⟨⟨od,fd,sl,ho,h1,h2,h3,h4,h5,h6,h7,h8,h9,h10⟩,_,_⟩:=(show aY P w H s.heap f (dO f t cs c)from e0.hok f _ hf)
 obtain⟨⟨o,vs',tk,hco,hdo,hv⟩,_,_⟩:=(show aY P w H s.heap c (dz c t.qual)from e0.hok c _ hcc)
 have hcd:s.heap.CodeRec fd.code fd.qualname:=⟨c,o,vs',tk,h6,hco,hdo,by rw[h1];exact hv⟩
 refine Ip (IY (R:=CR (CX1 P w) outer P w (bB cs H) s (fun v H'=>(∀c∈cs,H' c=none)→Q v (bL cs H H')) (fun c a H'=>E c a (bL cs H H'))) hr.depth ho rfl (by rw[h3];exact S.co) (by rw[h3];exact S.gen) (h2.trans hb) hcd ?_) fun r s' h=>CR.back2 ca.cells e0.frf e0.hok h
 rw[h8 us (by rw[←r.length];exact hl),h3,h4,h5,h1,h6,h7]
 refine FK (Ko S.nocell (fun y hy=>S.par y.1 (Ik hy).1) (fun h' hns hsb=>⟨lim.fresh _ hsb,?_⟩) S.kind)
 have hk:∀b o,s.heap.get? b=some o→h'.get? b=some o:=fun b o e=>hsb.extBut b o (Gf (FM e)) (cW _ e)
 have lcv:cvs.length=t.ys.length:=by rw[←h10];exact(Paired.length ca.cells).symm
 obtain⟨td,ht,hq⟩:=hbody f c (t.ys.zip cs) A outer s (bB cs H) vs cvs _ _ (hr.deeper _) hl lcv hsp
 have I:=pb (tk:=s.toks+(t.ps.zip us).length) (qual:=t.qual) (f:=f) (c:=c) (E:=fun c a H'=>E c a (bL cs H H')) S hr.hd e0 ca.cells h9 h10 hl r hns hk
 show codeAny _ _ (.func body (Kt t.qual t.scope s.heap.objs.size f (.ref c) (t.ys.zip cs))) _ _
 refine La ?_
 refine Gj (ht [] _ (eQ N vs cvs) _ _ I hq) (fun fl s' hs=>?_) fun e s' hs=>hs
 cases fl with
 |ret u=>
  obtain⟨v,σ',H',J,rv,q⟩:=hs
  exact⟨v,H',J.os,J.bare,J.base,J.hok,rv,q⟩
 |next=>
  obtain⟨σ',H',J,q⟩:=hs
  exact⟨V.non,H',J.os,J.bare,J.base,J.hok,rfl,q⟩
 |brk=>
  obtain⟨_,_,_,q⟩:=hs
  exact Gm q
 |cont=>
  obtain⟨_,_,_,q⟩:=hs
  exact Gm q
end
def ym (ks:dS)(f:Addr)(vs:List V)(H:Hp)(Q:VK)(E:XK):Prop:=∃ts∈ks,∃cs cvs,cQ H f ts.1 cs cvs∧vs.length=ts.1.ps.length∧ts.2 (vs++cvs) (bB cs H) (fun v H'=>(∀c∈cs,H' c=none)→Q v (bL cs H H')) (fun c a H'=>E c a (bL cs H H'))
def kU (ks:dS)(C:Addr)(m:Str)(E:St→XK)(ta:TE)(t:TA):TE:=fun σ H Q=>ta σ H fun x H1=>∃a dx fs f,x=.ref a∧H1 a=some (.ins C dx fs)∧fs.lookup m=some (.ref f)∧(∃ts∈ks,∃cs cvs,cQ H1 f ts.1 cs cvs)∧t σ H1 fun vs H2=>ym ks f vs H2 Q (E σ)
def mY (P:Gd)(w:GH)(K:pz)(mg:Str→Option tx)(base:Heap)(k:Nat)(ks:dS):Prop:=∀ts∈ks,gI P w K mg base k ts.1 ts.2
section
variable {X:Cx}{k:Nat}{C:Addr}{E:St→XK}{m:Str}{pos apos:Pos}{e o:Expr}{es:List Expr}{ta:TE}{t:TA}
theorem nq {pl:Sem Bool}{ks:dS}(hk:mY X.prog X.w X.K X.mg X.base k ks)(hr:bn k X.A)(hx:dX (CX1 X.prog X.w) X E)(he:QE X o ta)(c:Cls X.K C)(n:cU X.K C m)(ha:QA X (e::es) t)
  (hs:aS (e::es)=true:=by rfl)
  (ht:eval (.Call (.Attribute o m apos) (e::es) [] pos) X.env=(do
   let ov←eval o X.env
   standAt apos.atName
   let (f,first)←holding [ov] (getMethod ov m pl)
   callWith pos f first (backTo pos (starEach (e::es) X.env)) (backToKw pos (keywordEach [] X.env))):=by rfl):
  QE X (.Call (.Attribute o m apos) (e::es) [] pos) (kU ks C m E ta t):=⟨fun pins s σ H Q I h=>by
 have h':(bF e&&aS es)=true:=hs
 refine JU (pl:=pl) (thn (he.out pins s σ H _ I h) fun u s1 ⟨x,H1,I1,rx,a,dx,fs,f,ex,ea,l,⟨ts,hts,cs,cvs,ca⟩,q⟩=>?_) ht
 subst ex
 obtain rfl:u=FT a:=rx
 refine jW I1 ea c n l fun w s2 I2 rw2=>?_
 obtain rfl:w=FT f:=rw2
 refine Mx (gJ I2.hok ca) (thn (ha.out pos pins s2 σ H1 _ I2 q) fun us s3 ⟨vs,H2,I3,rv,ts2,hm2,cs2,cvs2,ca2,hl,hsp⟩=>⟨gJ I3.hok ca2,?_⟩)
  (aT (FP.mp h').1 es X.env) (bw (FP.mp h').2)
 refine KN (Ip ((hk ts2 hm2).run X.A X.stack s3 H2 f cs2 us vs cvs2 Q (E σ) hr I3.env0 ca2 rv hl hsp) fun r s' hq=>?_)
 cases r with
 |error e=>exact hx pins σ H2 s3 e s' I3 hq
 |ok fl=>
  cases fl with
  |ret u=>exact I3.after hq
  |next=>exact Gm hq
  |brk=>exact Gm hq
  |cont=>exact Gm hq⟩
end
end L2
namespace HT
open PySem PyProof.Rows
section
variable {prog:Gd}{w:GH}{A:GC}{s:FI}{R:Lb→FI→Prop}
variable {I:Addr}{fp wr:List Addr}{G:Array JA→Array JA→Prop}{n:Nat}{P:Nat→tx→Prop}{St:Nat→FI→Prop}
theorem ox (hH:∀(A':GC)(s:FI)(Q:tx→FI→Prop)(E:tx→FI→Prop),St 0 s→(∀tk tk',s.toks≤tk→Q (.int n tk') {s with toks:=tk})→wpAny (model prog w) A' (call (.builtin "reversed.__length_hint__") [.ref I]) Q E s)(W:NA prog w A.in1 I fp wr G n P St)(hT:∀i s,St i s→s.TypeIs (.ref I) "reversed")(S:Addr)(res:tx)(c₀:Nat)(hst:St 0 s)(hSf:S∉fp)(hI:I∈fp)
  (hS:s.heap.get? S=some {cls:=.type "list",data:=.seq #[] c₀})
  (hR:∀s' acc' c',Moved (S::wr) G s s'→s'.heap.get? S=some {cls:=.type "list",dict:=none,data:=.seq acc' c',slots:=#[]}→Mz P acc' n→R (.ok (.ret res)) s')(hn:n≤sizeLine):
  wpAny (model prog w) A.in1 (Gg (.ref S) (.ref I) res)
   (fun fin s'=>match fin with|.done f=>R (.ok f) s'|.again c'=>c'.quiet=true∧codeAny (model prog w) A c' R s') (fun e s'=>R (.error e) s') s:=by
 have hSI:S≠I:=fun e=>hSf (e▸hI)
 have h1:Hk (.ref S) (.ref I)=false:=by simp[Hk,hSI]
 unfold Gg
 refine ah (Jz (hT 0 _ hst) ?_)
 rw[if_neg (by rw[h1];decide)]
 refine ah (W.self 0 _ _ _ hst ?_)
 refine ah (Hf ?_)
 unfold IJ
 refine ah (Hv (hT 0 _ hst) sk ?_)
 show wpAny _ A.in1 (specialOf (FT I) (Ho "__length_hint__")>>=_) _ _ _
 refine ah (Hv (hT 0 _ hst) tP ?_)
 generalize hid:("reversed.__length_hint__":String)=id0
 wp_delta
 rw[show splitId id0=some ("reversed","__length_hint__")from by subst hid;decide+kernel]
 subst hid
 refine ah (Je (b:=true) (hT 0 _ hst) (by rw[HS];kernel_rfl) ?_)
 rw[if_neg (by decide)]
 try dsimp only
 rw[if_neg (by decide+kernel)]
 refine ah (Jo ?_)
 refine ah (Ig (iq.bind _) ?_)
 try dsimp only
 refine ah (IL (hH _ _ _ _ hst fun tk tk' htk=>?_))
 show wpAny _ _ (asInt? (JJ (n:Int) tk')>>=_) _ _ _
 rw[show asInt? (JJ (n:Int) tk')=pure (some (n:Int))from rfl]
 rw[LI]
 try dsimp only
 rw[if_neg (by unfold Builtin.List.listFitsIndex;rw[HR]at hn;simp;omega)]
 try dsimp only
 rw[if_neg (by omega)]
 try dsimp only
 rw[if_neg (by unfold Builtin.List.listTooLong;simp;omega)]
 refine FK ?_
 have key:∀(h:Heap)(c₁:Nat),(∀b o,b≠S→s.heap.get? b=some o→h.get? b=some o)→h.get? S=some {cls:=.type "list",data:=.seq #[] c₁}→
   codeAny (model prog w) A (.builtin "list.extend.loop" ⟨[.ref S,.ref I,res],[]⟩) R {s with heap:=h,toks:=tk}:=by
  intro h c₁ hk hS
  refine Nd W hn _ hSf _ n 0 _ _ _ rfl (Gc _) (W.frame 0 s h tk hst htk fun b hb o e=>hk b o (fun z=>hSf (z▸hb)) e) hS (Nu P) fun s' acc' c' hm hS' hacc=>?_
  exact hR s' acc' c' (Ma W.gtrans ((My W.grefl).then_heap htk fun b o hb e=>hk b o (fun z=>hb (by rw[z];exact Gu)) e) hm) hS' hacc
 refine wpAny_ite_split (fun _=>?_) (fun _=>FK ⟨Jk GS _,key _ _ (fun b o _ e=>e) hS⟩)
 refine ah (Jo ?_)
 refine ah ?_
 show wpAny _ A.in1 (updateSeq S (·.push .none)>>=fun _=>updateSeq S (·.pop)) _ _ _
 refine ah (HY hS rfl ?_)
 have hS₂:=Gy (GR (·.push HE)) hS rfl
 refine HY hS₂ rfl ?_
 have hS₃:=Gy (GR (·.pop)) hS₂ rfl
 exact FK ⟨Jk GS _,key _ _ (fun b o hb e=>(Gq _ _ (Gt hb)).trans ((Gq _ _ (Gt hb)).trans e)) hS₃⟩
theorem kI (hH:∀(A':GC)(s:FI)(Q:tx→FI→Prop)(E:tx→FI→Prop),St 0 s→(∀tk tk',s.toks≤tk→Q (.int n tk') {s with toks:=tk})→wpAny (model prog w) A' (call (.builtin "reversed.__length_hint__") [.ref I]) Q E s)(W:NA prog w A.in1 I fp wr G n P St)(hT:∀i s,St i s→s.TypeIs (.ref I) "reversed")(S:Addr)(hst:St 0 s)(hSf:S∉fp)(hI:I∈fp)
  (hS:s.heap.get? S=some {cls:=.type "list",data:=.seq #[]})
  (hR:∀s' acc' c',Moved (S::wr) G s s'→s'.heap.get? S=some {cls:=.type "list",dict:=none,data:=.seq acc' c',slots:=#[]}→Mz P acc' n→R (.ok (.ret .none)) s')(hn:n≤sizeLine):
  wpAny (model prog w) A.in1 (Iw.«list.__init__» ⟨[.ref S,.ref I],[]⟩)
   (fun fin s'=>match fin with|.done f=>R (.ok f) s'|.again c'=>c'.quiet=true∧codeAny (model prog w) A c' R s') (fun e s'=>R (.error e) s') s:=by
 show wpAny _ A.in1 (do let old←Hx (.ref S);Jb (.ref S) (fun _=>#[]);letGo old.toList.reverse;Gg (.ref S) (.ref I) .none) _ _ s
 refine ah ?_
 unfold Hx
 refine ah (Hq hS rfl (FK ?_))
 show wpAny _ A.in1 (updateSeq S (fun _=>#[])>>=fun _=>letGo (#[]:Array tx).toList.reverse>>=fun _=>Gg (.ref S) (.ref I) .none) _ _ s
 refine ah (HY hS rfl ?_)
 have hS₂:=Gy (GR (fun _=>(#[]:Array tx))) hS rfl
 have oth:∀b o,b≠S→s.heap.get? b=some o→(s.heap.update S (GR (fun _=>(#[]:Array tx)))).get? b=some o:=
  fun b o hb e=>(Gq _ _ (Gt hb)).trans e
 refine ah (JO ?_)
 refine ox (hn:=hn) hH W hT S .none _ (W.frame 0 s _ s.toks hst (gV _) fun b hb o e=>oth b o (fun h=>hSf (h▸hb)) e) hSf hI hS₂ fun s' acc' c' hm hS' hacc=>?_
 exact hR s' acc' c' (Ma W.gtrans ((My W.grefl).then_heap (gV _) fun b o hb e=>oth b o (fun h=>hb (h▸Gu)) e) hm) hS' hacc
end
section
variable {prog:Gd}{w:GH}{A:GC}{E:tx→FI→Prop}{s:FI}
variable {I:Addr}{fp wr:List Addr}{G:Array JA→Array JA→Prop}{n:Nat}{P:Nat→tx→Prop}{St:Nat→FI→Prop}
theorem kN {Q:tx→FI→Prop}(hH:∀(A':GC)(s:FI)(Q:tx→FI→Prop)(E:tx→FI→Prop),St 0 s→(∀tk tk',s.toks≤tk→Q (.int n tk') {s with toks:=tk})→wpAny (model prog w) A' (call (.builtin "reversed.__length_hint__") [.ref I]) Q E s)(W:NA prog w A.in1.in1 I fp wr G n P St)(hT:∀i s,St i s→s.TypeIs (.ref I) "reversed")(hst:St 0 s)(hfp:∀b∈fp,b<s.heap.objs.size)(hI:I∈fp)
  (hQ:∀s' acc' c',Moved (s.heap.objs.size::wr) G {s with heap:=s.heap.push {cls:=.type "list",data:=.seq #[]}} s'→
   s'.heap.get? s.heap.objs.size=some {cls:=.type "list",dict:=none,data:=.seq acc' c',slots:=#[]}→Mz P acc' n→Q (.ref s.heap.objs.size) s')(hn:n≤sizeLine):
  wpAny (model prog w) A (call (.type "list") [.ref I]) Q E s:=by
 have hSf:s.heap.objs.size∉fp:=fun hm=>GP _ (hfp _ hm)
 refine LS (Q₁:=fun obj s₁=>obj=.ref s.heap.objs.size∧s₁={s with heap:=s.heap.push {cls:=.type "list",data:=.seq #[]}}) KS (Kg _) Kh
  (Mt _ ⟨rfl,rfl⟩) fun obj s₁ h₁=>?_
 obtain⟨rfl,rfl⟩:=h₁
 have hS:(s.heap.push {cls:=.type "list",data:=.seq #[]}).get? s.heap.objs.size=some {cls:=.type "list",data:=.seq #[]}:=FO _ rfl
 refine⟨⟨_,hS,rfl⟩,JW _ _,kI (hn:=hn) hH W hT _ (W.frame 0 s _ s.toks hst (gV _) fun b _ o e=>cW _ e) hSf hI hS fun s' acc' c' hm hS' hacc=>?_⟩
 exact⟨rfl,hQ s' acc' c' hm hS' hacc⟩
end
end HT
namespace L2
open PySem PySem.Spec PyProof.Rows
def lF (K:pz):List V→Hp→VK→Prop:=fun xs H Q=>∃c ys,xs=[.ref c]∧SqT K H c ys∧∀l,H l=none→Q (.ref l) (upd H l (.lst ys.reverse))
section
variable {X:Cx}{pins:List (Addr×Obj)}{σ:St}{H:Hp}{s:FI}
theorem rf {Q:VK}{c:Addr}{ys:List V}(hc:X.calm=true)(I:Inv X pins σ H s)(hq:SqT X.K H c ys)(q:∀l,H l=none→Q (.ref l) (upd H l (.lst ys.reverse))):
  wpAny (model X.prog X.w) X.A (call (.type "reversed") [.ref c]) (fun u s2=>wpAny (model X.prog X.w) X.A (call (.type "list") [u]) (EP X pins σ Q) X.xe s2) X.xe s:=by
 obtain⟨its,r',pl,hz⟩:=I.tuple hq
 have hlen:=r'.length
 have hz63:(its.toArray.size:Int)<2^63:=by rw[FL];rw[HR]at hz;omega
 refine HT.eT (show KF s.heap c its.toArray from pl) hz63 ?_
 have hcs:c<s.heap.objs.size:=pl.lt
 have hne:c≠s.heap.objs.size:=Gf hcs
 have W:=(HT.ou (prog:=X.prog) (w:=X.w) (A:=X.A.in1.in1) (I.ok.hd hc) s.heap.objs.size c hne its.toArray hz63).toS
 have hz':its.toArray.size≤sizeLine:=by rw[FL];omega
 have hsz:(s.heap.push (HT.iD c ((its.toArray.size:Int)- 1))).objs.size=s.heap.objs.size+1:=HB _ _
 refine HT.kN (s:={s with heap:=s.heap.push (HT.iD c ((its.toArray.size:Int)- 1)),toks:=s.toks+1+1}) (fun A' s3 Q' E' st h=>HT.ma (by have:=st.2.1;rwa [show(its.toArray.size:Int)- 1- ((0:Nat):Int)=(its.toArray.size:Int)- 1 from by omega]at this) st.2.2 hz63 h) W (fun i s3 st=>HT.eI.typeIs st.2.1) ⟨Gc _,?_,pl.push _⟩ (fun b hb=>?_) (by simp) (fun s' acc' c' hm hS' hacc=>?_) hz'
 ·show(s.heap.push _).get? _=_
  have e:(its.toArray.size:Int)- 1- ((0:Nat):Int)=(its.toArray.size:Int)- 1:=by omega
  rw[e]
  exact FO _ rfl
 ·show b<(s.heap.push _).objs.size
  rw[hsz]
  rcases Gh.mp hb with z|z
  ·rw[z];exact Hb _
  ·rw[FU.mp z];exact MX hcs
 ·have e1:acc'.toList=its.reverse:=by
   refine Ks fun j=>?_
   by_cases hj:j<its.length
   ·have hj2:j<acc'.size:=by rw[hacc.1,FL];exact hj
    have ea:acc'[j]?=some acc'[j]:=GV hj2
    have hp:its.toArray[its.toArray.size- 1- j]?=some acc'[j]:=hacc.2 j _ ea
    rw[JK,ea,HH hj,←hp]
    simp
   ·rw[Hm (by rw[HW,hacc.1,FL];omega),Hm (by simp;omega)]
  have hw:∀b o,s.heap.get? b=some o→s'.heap.get? b=some o:=fun b o e=>by
   have hb:=FM e
   refine hm.heap b o (fun z=>?_) (cW _ (cW _ e))
   rcases Gh.mp z with z|z
   ·have z:b=(s.heap.push (HT.iD c ((its.toArray.size:Int)- 1))).objs.size:=z
    rw[hsz]at z
    rw[z]at hb
    exact GP _ (Mb (Hb _) hb)
   ·rw[FU.mp z]at hb
    exact GP _ hb
  have es:s'={s with heap:=s'.heap,toks:=s'.toks}:=by
   have h1:=hm.gens
   have h2:=hm.drawn
   have h3:=hm.os
   cases s'
   cases h1;cases h2;cases h3
   rfl
  have hS2:s'.heap.get? (s.heap.objs.size+1)=some {cls:=.type "list",dict:=none,data:=.seq its.reverse.toArray c',slots:=#[]}:=by
   rw[←hsz,hS',←e1]
  have new:aY X.prog X.w (upd H (s.heap.objs.size+1) (.lst ys.reverse)) s'.heap (s.heap.objs.size+1) (.lst ys.reverse):=⟨by rw[Kd];exact hz,its.reverse,c',r'.reverse,hS2⟩
  refine⟨.ref (s.heap.objs.size+1),upd H (s.heap.objs.size+1) (.lst ys.reverse),?_,?_,q _ (I.hok.fresh (IN _))⟩
  ·rw[es];exact I.laid hw (IN _) new
  ·show FT _=FT _
   rw[hsz]
end
section
variable {X:Cx}{a:Expr}{t:TA}{p1 p2 pos1 pos2:Pos}
theorem qK (hm1:X.mg "list"=none)(hm2:X.mg "reversed"=none)(hc:X.calm=true)(ha:QA X [a] t)(hg1:Gl X "list":=by rfl)(hg2:Gl X "reversed":=by rfl)(hs:aS [a]=true:=by rfl):
  QE X (.Call (.Name "list" p1) [.Call (.Name "reversed" p2) [a] [] pos2] [] pos1) (tCB (lF X.K) t):=⟨fun pins s σ H Q I h=>by
 have h':(bF a&&aS [])=true:=hs
 refine GL (dB I hg1 hm1 lA ?_ (by decide) (by decide))
 refine GB ?_ rfl rfl
 show wpAny _ _ (spliced ((false,eval (.Call (.Name "reversed" p2) [a] [] pos2) X.env)::backTo pos1 (starEach [] X.env))) _ _ s
 refine Jj ?_
 refine GL (dB I hg2 hm2 gz ?_ (by decide) (by decide))
 refine GB (thn (ha.out pos2 pins s σ H _ I h) fun us s1 ⟨vs,H1,I1,r1,q1⟩=>?_)
  (aT (FP.mp h').1 [] X.env) (bw (FP.mp h').2)
 obtain⟨c,ys,rfl,hq,q⟩:=q1
 obtain⟨u,rfl,ru⟩:=fK r1
 cases ru
 refine Gj (rf hc I1 hq q) (fun u s2 z=>?_) fun _ _ z=>z
 exact Jv z⟩
end
end L2
namespace Rs
open PySem PySem.Spec PyProof.Rows L2
abbrev GK:=List Key→Option Key
def dM (s:Stmt)(j:Nat):Stmt:=match s with
 |.ClassDef _ _ _ b _ _ _ _ _ _ _=>b.getD j (.Pass ⟨0,0,0,0⟩)
 |_=>.Pass ⟨0,0,0,0⟩
def top (i:Nat):Stmt:=PySem.Challenge.pw_rootstamp_k69_whole_talks_by_weak_stamps.main.body.getD i (.Pass ⟨0,0,0,0⟩)
abbrev uX:Stmt:=top 10
abbrev uD:Stmt:=top 15
abbrev uJ:Stmt:=top 17
abbrev s_7:Stmt:=dM (top 24) 2
abbrev s_4:Stmt:=dM (top 24) 4
abbrev tD:Stmt:=top 13
abbrev s_9:Stmt:=dM (top 24) 11
abbrev s_8:Stmt:=dM (top 24) 10
abbrev s_2:Stmt:=dM (top 24) 9
abbrev s_3:Stmt:=dM (top 24) 8
abbrev vt:Stmt:=top 16
abbrev s_5:Stmt:=dM (top 24) 3
abbrev tM:Stmt:=top 14
abbrev s_6:Stmt:=dM (top 24) 7
abbrev uR:Stmt:=top 50
abbrev jG:Stmt:=top 51
abbrev uU:Stmt:=top 54
abbrev s_0:Stmt:=dM (top 24) 0
abbrev ug:Stmt:=top 11
abbrev s_1:Stmt:=dM (top 24) 1
abbrev tz:Stmt:=top 55
abbrev vx:Stmt:=top 52
abbrev vi:Stmt:=top 53
abbrev uH:Stmt:=dM (top 46) 0
abbrev jB:Stmt:=top 56
abbrev tV:Stmt:=top 20
abbrev uk:Stmt:=top 21
abbrev tp:Stmt:=dM (top 46) 2
abbrev uj:Stmt:=top 22
abbrev vH:Stmt:=top 23
abbrev vj:Stmt:=top 33
abbrev vg:Stmt:=top 18
abbrev uq:Stmt:=top 26
abbrev vB:Stmt:=top 36
abbrev vh:Stmt:=top 35
abbrev uA:Stmt:=top 34
abbrev vG:Stmt:=top 37
abbrev vc:Stmt:=top 39
abbrev uu:Stmt:=top 41
abbrev ub:Stmt:=dM (top 46) 3
abbrev uE:Stmt:=top 27
abbrev uG:Stmt:=top 28
abbrev tQ:Stmt:=top 29
abbrev vA:Stmt:=top 30
abbrev sZ:Stmt:=top 31
abbrev vz:Stmt:=top 43
abbrev ve:Stmt:=top 42
abbrev tO:Stmt:=top 40
abbrev vd:Stmt:=top 58
abbrev sX:Stmt:=top 59
abbrev uC:Stmt:=top 57
abbrev tH:Stmt:=top 48
abbrev vI:Stmt:=top 60
abbrev ua:Stmt:=top 61
def sAt (i:Nat)(l:List Stmt):Stmt:=l.getD i (.Pass ⟨0,0,0,0⟩)
abbrev tY:Stmt:=(sAt 0 (bf jG))
def eK:dj:=⟨(("_law_weak":Str)++".<locals>.")++"_law_stamp",.stmts (bf tY),av tY,["_law_term"],["_law_many"]⟩
abbrev tL:Stmt:=(sAt 0 (bf jB))
def dw:dj:=⟨(("_law_line":Str)++".<locals>.")++"_law_say",.stmts (bf tL),av tL,["_law_question"],["_law_row_here"]⟩
set_option genInjectivity false in
set_option genSizeOf false in
abbrev Rd (sp:Sp)(t:TS)(N:List Str):Prop:=∀(vs:List V)(H:Hp)(Q:VK)(E:XK),sp vs H Q E→t {nx:=fun _ H'=>Q .non H',rt:=Q} (L2.cJ N vs) H
abbrev Ln (sp:Sp)(n:Nat):Prop:=∀vs H Q E,sp vs H Q E→vs.length=n
structure Adr where
 a_41:Addr
 d_41:FX
 a_35:Addr
 d_35:FX
 a_36:Addr
 d_36:FX
 a_7:Addr
 d_7:FX
 a_4:Addr
 d_4:FX
 a_34:Addr
 d_34:FX
 a_9:Addr
 d_9:FX
 a_8:Addr
 d_8:FX
 a_2:Addr
 d_2:FX
 a_3:Addr
 d_3:FX
 a_38:Addr
 d_38:FX
 a_5:Addr
 d_5:FX
 a_55:Addr
 d_55:FX
 a_6:Addr
 d_6:FX
 a_14:Addr
 d_14:FX
 a_24:Addr
 d_24:FX
 a_13:Addr
 d_13:FX
 a_0:Addr
 d_0:FX
 a_40:Addr
 d_40:FX
 a_1:Addr
 d_1:FX
 a_22:Addr
 d_22:FX
 a_23:Addr
 d_23:FX
 a_19:Addr
 d_19:FX
 a_10:Addr
 d_10:FX
 a_17:Addr
 d_17:FX
 a_54:Addr
 d_54:FX
 a_45:Addr
 d_45:FX
 a_11:Addr
 d_11:FX
 a_37:Addr
 d_37:FX
 a_27:Addr
 d_27:FX
 a_33:Addr
 d_33:FX
 a_26:Addr
 d_26:FX
 a_42:Addr
 d_42:FX
 a_30:Addr
 d_30:FX
 a_52:Addr
 d_52:FX
 a_32:Addr
 d_32:FX
 a_31:Addr
 d_31:FX
 a_29:Addr
 d_29:FX
 a_44:Addr
 d_44:FX
 a_12:Addr
 d_12:FX
 a_39:Addr
 d_39:FX
 a_50:Addr
 d_50:FX
 a_49:Addr
 d_49:FX
 a_47:Addr
 d_47:FX
 a_48:Addr
 d_48:FX
 a_51:Addr
 d_51:FX
 a_46:Addr
 d_46:FX
 a_53:Addr
 d_53:FX
 a_20:Addr
 d_20:FX
 a_21:Addr
 d_21:FX
 a_16:Addr
 d_16:FX
 a_28:Addr
 d_28:FX
 a_15:Addr
 d_15:FX
 a_43:Addr
 d_43:FX
 k_24:Addr
 t_24:Addr
 k_17:Addr
 t_17:Addr
 c_StampError:Addr
 c_Silent:Addr
 c_Row:Addr
 c_Spoken:Addr
set_option genInjectivity false in
set_option genSizeOf false in
structure Txt (K:pz)(mg:Str→Option tx)(A:Adr):Prop where
 f_41:Fm K mg "is_whole" "is_whole" uX A.a_41 A.d_41 ["thing"]
 f_35:Fm K mg "is_count" "is_count" uD A.a_35 A.d_35 ["thing"]
 f_36:Fm K mg "is_elder" "is_elder" uJ A.a_36 A.d_36 ["count","elder"]
 f_7:Fun K "size" "Row.size" s_7 A.a_7 A.d_7
 b_7:bI K A.d_7 ["self"] []
 f_4:Fun K "has_elder" "Row.has_elder" s_4 A.a_4 A.d_4
 b_4:bI K A.d_4 ["self","count","elder"] []
 f_34:Fm K mg "half" "half" tD A.a_34 A.d_34 ["many"]
 f_9:Fun K "top_term" "Row.top_term" s_9 A.a_9 A.d_9
 b_9:bI K A.d_9 ["self","first","many"] []
 f_8:Fun K "top_of" "Row.top_of" s_8 A.a_8 A.d_8
 b_8:bI K A.d_8 ["self","first","many"] []
 f_2:Fun K "growth_marks" "Row.growth_marks" s_2 A.a_2 A.d_2
 b_2:bI K A.d_2 ["self","first","many","elder"] []
 f_3:Fun K "growth_paper" "Row.growth_paper" s_3 A.a_3 A.d_3
 b_3:bI K A.d_3 ["self","count","elder"] []
 f_38:Fm K mg "is_place" "is_place" vt A.a_38 A.d_38 ["count","place"]
 f_5:Fun K "has_place" "Row.has_place" s_5 A.a_5 A.d_5
 b_5:bI K A.d_5 ["self","count","place"] []
 f_55:Fm K mg "ways" "ways" tM A.a_55 A.d_55 ["place","many"]
 f_6:Fun K "place_paper" "Row.place_paper" s_6 A.a_6 A.d_6
 b_6:bI K A.d_6 ["self","count","place"] []
 f_14:Fm K mg "_law_cell_at" "_law_cell_at" uR A.a_14 A.d_14 ["_law_script","_law_k"]
 f_24:Fm K mg "_law_weak" "_law_weak" jG A.a_24 A.d_24 ["_law_many"]
 f_13:Fm K mg "_law_books" "_law_books" uU A.a_13 A.d_13 ["_law_script"]
 f_0:Fun K "__init__" "Row.__init__" s_0 A.a_0 A.d_0
 b_0:bI K A.d_0 ["self","stamper"] []
 f_40:Fm K mg "is_stamp" "is_stamp" ug A.a_40 A.d_40 ["thing"]
 f_1:Fun K "add" "Row.add" s_1 A.a_1 A.d_1
 b_1:bI K A.d_1 ["self","entry"] []
 f_22:Fm K mg "_law_row" "_law_row" tz A.a_22 A.d_22 ["_law_stamper","_law_entries"]
 f_23:Fm K mg "_law_top" "_law_top" vx A.a_23 A.d_23 ["_law_stamper","_law_entries"]
 f_19:Fm K mg "_law_mark" "_law_mark" vi A.a_19 A.d_19 ["_law_stamper","_law_entries","_law_count"]
 f_10:Fun K "__init__" "Spoken.__init__" uH A.a_10 A.d_10
 b_10:bI K A.d_10 ["self","say"] []
 f_17:Fm K mg "_law_line" "_law_line" jB A.a_17 A.d_17 ["_law_row_here"]
 f_54:Fm K mg "void_terms" "void_terms" tV A.a_54 A.d_54 ["stamper"]
 f_45:Fm K mg "none_head" "none_head" uk A.a_45 A.d_45 ["stamper"]
 f_11:Fun K "growth" "Spoken.growth" tp A.a_11 A.d_11
 b_11:bI K A.d_11 ["self","count","elder"] []
 f_37:Fm K mg "is_head" "is_head" uj A.a_37 A.d_37 ["thing"]
 f_27:Fm K mg "check_head" "check_head" vH A.a_27 A.d_27 ["thing"]
 f_33:Fm K mg "growth_turns" "growth_turns" vj A.a_33 A.d_33 ["count","elder"]
 f_26:Fm K mg "are_marks" "are_marks" vg A.a_26 A.d_26 ["many","thing"]
 f_42:Fm K mg "joint" "joint" uq A.a_42 A.d_42 ["turn","own","aside"]
 f_30:Fm K mg "grown_terms" "grown_terms" vB A.a_30 A.d_30 ["stamper","count","elder","steps"]
 f_52:Fm K mg "step_marks" "step_marks" vh A.a_52 A.d_52 ["turns","marks"]
 f_32:Fm K mg "growth_terms" "growth_terms" uA A.a_32 A.d_32 ["stamper","count","elder","marks"]
 f_31:Fm K mg "growth_answer" "growth_answer" vG A.a_31 A.d_31 ["stamper","head","elder","marks"]
 f_29:Fm K mg "elder_by" "elder_by" vc A.a_29 A.d_29 ["stamper","head","count","line"]
 f_44:Fm K mg "marks_at" "marks_at" uu A.a_44 A.d_44 ["stamper","sides","count"]
 f_12:Fun K "placed" "Spoken.placed" ub A.a_12 A.d_12
 b_12:bI K A.d_12 ["self","count","place"] []
 f_39:Fm K mg "is_place_paper" "is_place_paper" uE A.a_39 A.d_39 ["turns","thing"]
 f_50:Fm K mg "place_terms" "place_terms" uG A.a_50 A.d_50 ["stamper","count","place","paper"]
 f_49:Fm K mg "place_mark" "place_mark" tQ A.a_49 A.d_49 ["stamper","count","place","paper"]
 f_47:Fm K mg "place_answer" "place_answer" vA A.a_47 A.d_47 ["stamper","head","place","paper"]
 f_48:Fm K mg "place_entry" "place_entry" sZ A.a_48 A.d_48 ["stamper","head","place","paper"]
 f_51:Fm K mg "shown_at" "shown_at" vz A.a_51 A.d_51 ["stamper","sides","place"]
 f_46:Fm K mg "parting" "parting" ve A.a_46 A.d_46 ["stamper","sides","low"]
 f_53:Fm K mg "talk" "talk" tO A.a_53 A.d_53 ["stamper","one","other","line","second"]
 f_20:Fm K mg "_law_opened" "_law_opened" vd A.a_20 A.d_20 ["_law_stamper","_law_rows","_law_counts","_law_count"]
 f_21:Fm K mg "_law_placed" "_law_placed" sX A.a_21 A.d_21 ["_law_stamper","_law_rows","_law_counts","_law_place"]
 f_16:Fm K mg "_law_is_clash" "_law_is_clash" uC A.a_16 A.d_16 ["_law_stamper","_law_terms","_law_found"]
 f_28:Fm K mg "clash" "clash" tH A.a_28 A.d_28 ["stamper","terms"]
 f_15:Fm K mg "_law_ended" "_law_ended" vI A.a_15 A.d_15 ["_law_stamper","_law_found","_law_books_here","_law_rows","_law_counts"]
 f_43:Fm K mg "law" "law" ua A.a_43 A.d_43 ["_law_script"]
 z_all:mg "all"=none
 z_bool:mg "bool"=none
 z_int:mg "int"=none
 z_isinstance:mg "isinstance"=none
 z_len:mg "len"=none
 z_list:mg "list"=none
 z_max:mg "max"=none
 z_min:mg "min"=none
 z_range:mg "range"=none
 z_reversed:mg "reversed"=none
 z_str:mg "str"=none
 z_tuple:mg "tuple"=none
 z_zip:mg "zip"=none
 kc_24:A.d_24.code=.ref A.k_24
 kc_17:A.d_17.code=.ref A.k_17
 mc_StampError:mg "StampError"=some (.ref A.c_StampError)
 eo_StampError:dH K A.c_StampError
 mc_Silent:mg "Silent"=some (.ref A.c_Silent)
 eo_Silent:dH K A.c_Silent
 mc_Row:mg "Row"=some (.ref A.c_Row)
 cl_Row:Cls K A.c_Row
 na_Row_stamper:cU K A.c_Row "stamper"
 na_Row_entries:cU K A.c_Row "entries"
 na_Row_tops:cU K A.c_Row "tops"
 mc_Spoken:mg "Spoken"=some (.ref A.c_Spoken)
 cl_Spoken:Cls K A.c_Spoken
 na_Spoken_answerer:cU K A.c_Spoken "answerer"
 me_Row_size:eP K A.c_Row "size" A.a_7
 me_Row_top_of:eP K A.c_Row "top_of" A.a_8
 me_Row_top_term:eP K A.c_Row "top_term" A.a_9
 me_Row_growth_marks:eP K A.c_Row "growth_marks" A.a_2
 me_Row_has_elder:eP K A.c_Row "has_elder" A.a_4
 me_Row_has_place:eP K A.c_Row "has_place" A.a_5
 me_Row_add:eP K A.c_Row "add" A.a_1
 me_Spoken_growth:eP K A.c_Spoken "growth" A.a_11
 me_Spoken_placed:eP K A.c_Spoken "placed" A.a_12
 me_Row_growth_paper:eP K A.c_Row "growth_paper" A.a_3
 me_Row_place_paper:eP K A.c_Row "place_paper" A.a_6
 mk_Row:Mk K A.c_Row A.a_0
 mk_Spoken:Mk K A.c_Spoken A.a_10
def Dz (A:Adr)(H:Hp):Prop:=H A.t_24=some (.tbl #[])∧H A.t_17=some (.tbl #[])∧([A.t_24,A.t_17]:List Addr).Nodup
theorem kg:ga ["_law_term","_law_total","_law_part","_law_many"] ["_law_term"] ["_law_many"] eK.scope:=⟨rfl,rfl,rfl,by decide+kernel,rfl,rfl,by decide+kernel,by decide+kernel,by decide+kernel,by decide+kernel,by decide+kernel⟩
theorem CB:ga ["_law_question","_law_row_here"] ["_law_question"] ["_law_row_here"] dw.scope:=⟨rfl,rfl,rfl,by decide+kernel,rfl,rfl,by decide+kernel,by decide+kernel,by decide+kernel,by decide+kernel,by decide+kernel⟩
theorem Ct:aD ["thing"] ["thing"] (av uX):=scF
theorem BO:aD ["thing"] ["thing"] (av uD):=scF
theorem Bk:aD ["count","elder"] ["count","elder"] (av uJ):=scF
theorem FA:aD ["self"] ["self"] (av s_7):=scF
theorem EA:aD ["self","count","elder"] ["self","count","elder"] (av s_4):=scF
theorem BR:aD ["many"] ["many"] (av tD):=scF
theorem zd:aD ["self","first","many","ahead"] ["self","first","many"] (av s_9):=scF
theorem xU:aD ["self","first","many","part"] ["self","first","many"] (av s_8):=scF
theorem zA:aD ["self","first","many","elder","ahead"] ["self","first","many","elder"] (av s_2):=scF
theorem Ec:aD ["self","count","elder"] ["self","count","elder"] (av s_3):=scF
theorem Bg:aD ["count","place"] ["count","place"] (av vt):=scF
theorem EJ:aD ["self","count","place"] ["self","count","place"] (av s_5):=scF
theorem gk:aD ["place","many","turns","first","rest","ahead"] ["place","many"] (av tM):=scF
theorem il:aD ["self","count","place","marks","first","many","turn","ahead"] ["self","count","place"] (av s_6):=scF
theorem Bc:aD ["_law_script","_law_k"] ["_law_script","_law_k"] (av uR):=scF
theorem vO:aD ["_law_many","_law_stamp"] ["_law_many"] (av jG):=scF
theorem kq:aD ["_law_script","_law_many","_law_first","_law_cut","_law_more"] ["_law_script"] (av uU):=scF
theorem Ep:aD ["self","stamper"] ["self","stamper"] (av s_0):=scF
theorem BW:aD ["thing"] ["thing"] (av ug):=scF
theorem EC:aD ["self","entry"] ["self","entry"] (av s_1):=scF
theorem qi:aD ["_law_stamper","_law_entries","_law_row_here","_law_entry"] ["_law_stamper","_law_entries"] (av tz):=scF
theorem fL:aD ["_law_stamper","_law_entries","_law_peaks","_law_entry","_law_many","_law_top_here"] ["_law_stamper","_law_entries"] (av vx):=scF
theorem BI:aD ["_law_stamper","_law_entries","_law_count"] ["_law_stamper","_law_entries","_law_count"] (av vi):=scF
theorem CT:aD ["self","say"] ["self","say"] (av uH):=scF
theorem vM:aD ["_law_row_here","_law_say"] ["_law_row_here"] (av jB):=scF
theorem CS:aD ["stamper"] ["stamper"] (av tV):=scF
theorem Bv:aD ["stamper"] ["stamper"] (av uk):=scF
theorem Bu:aD ["self","count","elder"] ["self","count","elder"] (av tp):=scF
theorem CA:aD ["thing"] ["thing"] (av uj):=scF
theorem DG:aD ["thing"] ["thing"] (av vH):=scF
theorem gu:aD ["count","elder","turns","early","rest","ahead"] ["count","elder"] (av vj):=scF
theorem Bq:aD ["many","thing"] ["many","thing"] (av vg):=scF
theorem AY:aD ["turn","own","aside"] ["turn","own","aside"] (av uq):=scF
theorem gs:aD ["stamper","count","elder","steps","younger","older","top","older_top","step"] ["stamper","count","elder","steps"] (av vB):=scF
theorem ie:aD ["turns","marks","steps","first","last","turn"] ["turns","marks"] (av vh):=scF
theorem qg:aD ["stamper","count","elder","marks","turns","younger"] ["stamper","count","elder","marks"] (av uA):=scF
theorem qt:aD ["stamper","head","elder","marks","terms","came"] ["stamper","head","elder","marks"] (av vG):=scF
theorem vX:aD ["stamper","head","count","line","marks"] ["stamper","head","count","line"] (av vc):=scF
theorem qE:aD ["stamper","sides","count","marks","head","line"] ["stamper","sides","count"] (av uu):=scF
theorem Cp:aD ["self","count","place"] ["self","count","place"] (av ub):=scF
theorem BS:aD ["turns","thing"] ["turns","thing"] (av uE):=scF
theorem mr:aD ["stamper","count","place","paper","turns","terms","step"] ["stamper","count","place","paper"] (av uG):=scF
theorem CF:aD ["stamper","count","place","paper"] ["stamper","count","place","paper"] (av tQ):=scF
theorem vZ:aD ["stamper","head","place","paper","came"] ["stamper","head","place","paper"] (av vA):=scF
theorem Bd:aD ["stamper","head","place","paper"] ["stamper","head","place","paper"] (av sZ):=scF
theorem ja:aD ["stamper","sides","place","papers","entries","head","line","paper","entry"] ["stamper","sides","place"] (av vz):=scF
theorem ik:aD ["stamper","sides","low","lo","hi","mid","marks"] ["stamper","sides","low"] (av ve):=scF
theorem my:aD ["stamper","one","other","line","second","sides","low","marks"] ["stamper","one","other","line","second"] (av tO):=scF
theorem kh:aD ["_law_stamper","_law_rows","_law_counts","_law_count","_law_terms","_law_k","_law_younger","_law_older"] ["_law_stamper","_law_rows","_law_counts","_law_count"] (av vd):=scF
theorem mz:aD ["_law_stamper","_law_rows","_law_counts","_law_place","_law_terms","_law_k"] ["_law_stamper","_law_rows","_law_counts","_law_place"] (av sX):=scF
theorem Cy:aD ["_law_stamper","_law_terms","_law_found"] ["_law_stamper","_law_terms","_law_found"] (av uC):=scF
theorem mB:aD ["stamper","terms","firsts","term","ahead"] ["stamper","terms"] (av tH):=scF
theorem fj:aD ["_law_stamper","_law_found","_law_books_here","_law_rows","_law_counts","_law_low","_law_high","_law_terms","_law_middle","_law_papers"] ["_law_stamper","_law_found","_law_books_here","_law_rows","_law_counts"] (av vI):=scF
theorem dR:aD ["_law_script","_law_cell","_law_many","_law_stamper","_law_books_here","_law_rows","_law_counts","_law_heads","_law_lines","_law_found","_law_turned"] ["_law_script"] (av ua):=scF
inductive Dat where
 |non
 |bl (b:Bool)
 |int (i:Int)
 |str (z:Str)
 |lst (ds:List Dat)
 |tup (ds:List Dat)
 |dic
mutual
inductive dC (H:Hp):V→Dat→Prop
 |non:dC H .non .non
 |bl (b):dC H (.bl b) (.bl b)
 |int (i):dC H (.int i) (.int i)
 |str (z):dC H (.str z) (.str z)
 |lst {a xs ds}:H a=some (.lst xs)→DatWs H xs ds→dC H (.ref a) (.lst ds)
 |tup {a xs ds}:H a=some (.tup xs)→DatWs H xs ds→dC H (.ref a) (.tup ds)
 |dic {a}:((∃kvs,H a=some (.dK kvs))∨∃kvs,H a=some (.dT kvs))→dC H (.ref a) .dic
inductive DatWs (H:Hp):List V→List Dat→Prop
 |nil:DatWs H [] []
 |cons {x xs d ds}:dC H x d→DatWs H xs ds→DatWs H (x::xs) (d::ds)
end
mutual
def Ew:Dat→Ld
 |.non=>.none
 |.bl b=>.bool b
 |.int i=>.int i
 |.str z=>.str z
 |.lst ds=>.list (toPys ds)
 |.tup ds=>.tuple (toPys ds)
 |.dic=>.none
def toPys:List Dat→List Ld
 |[]=>[]
 |d::r=>Ew d::toPys r
end
def lw (z:Str):Bool:=z.cps.all (·<128)
mutual
def okD:Dat→Bool
 |.str z=>lw z&&decide (z.length≤100000)
 |.lst ds=>okDs ds
 |.tup ds=>okDs ds
 |.dic=>false
 |.non=>true
 |.bl _=>true
 |.int _=>true
def okDs:List Dat→Bool
 |[]=>true
 |d::r=>okD d&&okDs r
end
def ue:Dat→Bool
 |.int _=>true
 |_=>false
def io:Dat→Bool
 |.int i=>decide (0≤i∧i<10^60)
 |.str _=>true
 |_=>false
def gX (K:pz)(A:Adr):Sp:=fun vs H Q _=>∃v d,vs=[v]∧dC H v d∧Q (.bl (ue d)) H
def gR (K:pz)(A:Adr):Sp:=fun vs H Q _=>∃v d,vs=[v]∧dC H v d∧Q (.bl (io d)) H
def qS:Key→Dat
 |.inl i=>.int i
 |.inr z=>.str z
def szK:Key→Nat
 |.inl _=>62
 |.inr z=>z.length+62
def okP:Key→Bool
 |.inl i=>decide (0≤i∧i<10^60)
 |.inr z=>lw z&&decide (z.length≤100000)
def BG:Key→Bool
 |.inr _=>true
 |.inl _=>false
def okT (k:List Key):Bool:=decide (1≤k.length∧k.length≤8)&&(k.head?.map BG).getD false&&k.all okP
def szT (k:List Key):Nat:=(k.map szK).sum
def iG (k:List Key):Key→Prop
 |.inl i=>0≤i∧i<10^60
 |.inr z=>lw z=true∧z.length≤szT k
def de (kvs:List (List Key×Key)):List (List Key×V):=kvs.map fun p=>(p.1,kV p.2)
def fD (kvs:List (List Key×Key))(k:List Key):Option Key:=(kvs.find? fun p=>decide (p.1=k)).map (·.2)
def gZ (t:Int):Key→Int
 |.inr z=>2*t+z.length
 |.inl i=>2*t+i
def jq (m:Int)(k:List Key):Key:=.inl (k.foldl gZ k.length%m)
def aR (b:Addr)(H H':Hp):Prop:=∀x o,x≠b→H x=some o→H' x=some o
inductive Stp (A:Adr)(H:Hp)(f b:Addr)(g:GK)(n:Nat):Prop
 |wea (q:Addr) (m:Int) (h1:1≤m) (h2:m≤10007) (hc:cQ H f eK [q] [.int m]) (hb:∃y,H b=some (.own y)) (hg:g=fun k=>some (jq m k))
def Sub (g g':GK):Prop:=∀k v,g k=some v→g' k=some v
def Ext (g:GK)(h:List Key→Key):Prop:=∀k v,g k=some v→h k=v
abbrev PK (H:Hp):List Addr→List (List Key)→Prop:=Paired (fun(p:Addr)(k:List Key)=>H p=some (.tup (k.map kV))∧okT k=true)
def cp (P:Addr)(H H':Hp):Prop:=∀b o,H b=some o→b≠P→H' b=some o
def qQ (K:pz)(A:Adr):Sp:=fun vs H Q _=>∃(p:Addr)(m:Int)(k:List Key),vs=[.ref p,.int m]∧1≤m∧m≤10007∧H p=some (.tup (k.map kV))∧okT k=true∧Q (kV (jq m k)) H
def mx (K:pz)(A:Adr):Sp:=fun vs H Q _=>∃m:Int,vs=[.int m]∧1≤m∧m≤10007∧H A.t_24=some (.tbl #[])∧∀(f q:Addr)(H':Hp),cp A.t_24 H H'→cQ H' f eK [q] [.int m]→Q (.ref f) H'
def enK (e:Key):Prop:=okP e=true∧szK e≤70
def ag (n:Nat):Nat:=2^ID (n- 1)
def gb (h:List Key→Key):Nat→List Key→List Key
 |0,_=>[.inr "void"]
 |n+1,es=>match es with
  |[]=>[.inr "void"]
  |[e]=>[.inr "entry",e]
  |es=>[.inr "joint",h (gb h n (es.take (ag es.length))),h (gb h n (es.drop (ag es.length)))]
def bA (h:List Key→Key)(es:List Key):List Key:=gb h es.length es
def szB (m:Nat):Nat:=400*(m- 1)+200
def jl (g:GK)(es:List Key)(kvs:List (List Key×Key)):Prop:=∀k v,fD kvs k=some v→∃a m:Nat,k=[.inl (a:Int),.inl (m:Int)]∧a+m≤es.length∧okP v=true∧szK v≤szB m∧∀h,Ext g h→v=h (bA h ((es.drop a).take m))
structure cH (A:Adr)(H:Hp)(x f L D:Addr)(es:List Key)(kvs:List (List Key×Key)):Prop where
 ob:∃dx,H x=some (.ins A.c_Row dx [("stamper",.ref f),("entries",.ref L),("tops",.ref D)])
 hl:H L=some (.lst (es.map kV))
 hd:H D=some (.dT (de kvs))
 en:∀e∈es,enK e
 le:es.length≤60
def bv (b D:Addr)(H H':Hp):Prop:=∀x o,x≠b→x≠D→H x=some o→H' x=some o
def gq (K:pz)(A:Adr):Sp:=fun vs H Q _=>∃m:Nat,vs=[.int (m:Int)]∧2≤m∧m≤1000∧Q (.int ((ag m:Nat):Int)) H
def iX (K:pz)(A:Adr):Sp:=fun vs H Q _=>∃i:Int,vs=[.int i]∧0≤i∧i≤1000∧Q (.bl true) H
def kG (K:pz)(A:Adr):Sp:=fun vs H Q _=>∃c p:Int,vs=[.int c,.int p]∧0≤p∧p<c∧c≤1000∧Q (.bl true) H
def ki (K:pz)(A:Adr):Sp:=fun vs H Q _=>∃c p:Int,vs=[.int c,.int p]∧0≤p∧p≤c∧c≤1000∧Q (.bl true) H
def jc (K:pz)(A:Adr):Sp:=fun vs H Q _=>∃(f b:Addr)(g:GK)(n:Nat),vs=[.ref f]∧Stp A H f b g n∧n≤40000∧∀(L p1 p2:Addr)(v:Key)(g':GK)(H':Hp),aR b H H'→Stp A H' f b g' (n+1)→Sub g g'→H' L=some (.lst [.ref p1,.ref p2])→H' p2=some (.tup [.str "row",.int 0,kV v])→okP v=true→szK v≤200→(∀h,Ext g' h→v=h (bA h []))→Q (.ref L) H'
def fb (h:List Key→Key)(es:List Key):List Key:=[.inr "row",.inl (es.length:Int),h (bA h es)]
def mD (K:pz)(A:Adr):Sp:=fun vs H Q _=>∃(f b:Addr)(g:GK)(n:Nat),vs=[.ref f]∧Stp A H f b g n∧n≤40000∧∀(p:Addr)(v:Key)(g':GK)(H':Hp),aR b H H'→Stp A H' f b g' (n+2)→Sub g g'→H' p=some (.tup [.int 0,kV v])→okP v=true→(∀h,Ext g' h→v=h (fb h []))→Q (.ref p) H'
def qJ (K:pz)(A:Adr):Sp:=fun vs H Q _=>∃x dx f,vs=[.ref x,.ref f]∧H x=some (.ins A.c_Row dx [])∧∀(L D:Addr)(H':Hp),(∀z o,z≠x→H z=some o→H' z=some o)→H L=none→H D=none→L≠D→H' x=some (.ins A.c_Row dx [("stamper",.ref f),("entries",.ref L),("tops",.ref D)])→H' L=some (.lst [])→H' D=some (.dT [])→Q .non H'
def qT (K:pz)(A:Adr):Sp:=fun vs H Q _=>∃(x f L D:Addr)(es:List Key)(kvs:List (List Key×Key))(e:Key),vs=[.ref x,kV e]∧cH A H x f L D es kvs∧enK e∧es.length<60∧Q (.int (es.length:Int)) (upd H L (.lst ((es++[e]).map kV)))
def nU (K:pz)(A:Adr):Sp:=fun vs H Q _=>∃(x f L D:Addr)(es:List Key)(kvs:List (List Key×Key)),vs=[.ref x]∧cH A H x f L D es kvs∧Q (.int (es.length:Int)) H
def qw (K:pz)(A:Adr):Sp:=fun vs H Q _=>∃(x f L D:Addr)(es:List Key)(kvs:List (List Key×Key))(c p:Int),vs=[.ref x,.int c,.int p]∧cH A H x f L D es kvs∧0≤p∧p<c∧c≤es.length∧Q (.bl true) H
def pP (K:pz)(A:Adr):Sp:=fun vs H Q _=>∃(x f L D:Addr)(es:List Key)(kvs:List (List Key×Key))(c p:Int),vs=[.ref x,.int c,.int p]∧cH A H x f L D es kvs∧0≤p∧p≤c∧c≤es.length∧Q (.bl true) H
structure cE (A:Adr)(H:Hp)(x f L D b:Addr)(es:List Key)(kvs:List (List Key×Key))(g:GK)(n:Nat):Prop where
 r:cH A H x f L D es kvs
 s:Stp A H f b g n
 c:jl g es kvs
 db:D≠b
 kl:kvs.length≤n
def eM (K:pz)(A:Adr)(j:Nat):Sp:=fun vs H Q _=>∃(x f L D b:Addr)(es:List Key)(kvs:List (List Key×Key))(g:GK)(n a m:Nat),vs=[.ref x,.int (a:Int),.int (m:Int)]∧cE A H x f L D b es kvs g n∧a+m≤es.length∧m<j∧n+2*m+1≤40000∧
 ∀(v:Key)(kvs':List (List Key×Key))(g':GK)(H':Hp),bv b D H H'→cE A H' x f L D b es kvs' g' (n+(2*(m- 1)+1))→Sub g g'→okP v=true→szK v≤szB m→(∀h,Ext g' h→v=h (bA h ((es.drop a).take m)))→Q (kV v) H'
def qA (K:pz)(A:Adr)(j:Nat):Sp:=fun vs H Q _=>∃(x f L D b:Addr)(es:List Key)(kvs:List (List Key×Key))(g:GK)(n a m:Nat),vs=[.ref x,.int (a:Int),.int (m:Int)]∧cE A H x f L D b es kvs g n∧a+m≤es.length∧m≤j∧n+2*m+1≤40000∧
 ∀(p:Addr)(k:List Key)(kvs':List (List Key×Key))(g':GK)(H':Hp),bv b D H H'→cE A H' x f L D b es kvs' g' (n+2*(m- 1))→Sub g g'→H' p=some (.tup (k.map kV))→okT k=true→szT k+62≤szB m→(∀h,Ext g' h→k=bA h ((es.drop a).take m))→Q (.ref p) H'
def dU (K:pz)(A:Adr):Sp:=fun vs H Q _=>∃(a:Addr)(ns:List Int)(k:Int),vs=[.ref a,.int k]∧SqL K H a (ns.map V.int)∧0≤k∧∀z:Int,Q (.int z) H
def mq (K:pz)(A:Adr):Sp:=fun vs H Q _=>∃(f b E:Addr)(es:List Key)(g:GK)(n:Nat),vs=[.ref f,.ref E]∧H E=some (.lst (es.map kV))∧(∀e∈es,enK e)∧es.length≤60∧Stp A H f b g n∧n+200≤40000∧
 ∀(v:Key)(g':GK)(H':Hp),aR b H H'→Stp A H' f b g' (n+(2*es.length+1))→Sub g g'→okP v=true→szK v≤szB es.length→(∀h,Ext g' h→v=h (bA h es))→Q (kV v) H'
structure Cur (g:GK)(c:List Key)(v:Key):Prop where
 ok:okP v=true
 sz:szK v≤szB c.length
 eq:∀h,Ext g h→v=h (bA h c)
def grS:Nat→List Key→Nat→List (List Key)
 |0,es,_=>[es]
 |n+1,es,e=>if e=0∨es.length≤e then[es]else if e≤ag es.length then grS n (es.take (ag es.length)) e++[es.drop (ag es.length)]else es.take (ag es.length)::grS n (es.drop (ag es.length)) (e- ag es.length)
def eY (es:List Key)(e:Nat):List (List Key):=if es.length=0 then[]else grS es.length es e
abbrev Mks (g:GK):List (List Key)→List Key→Prop:=Paired (Cur g)
def trF:Nat→Nat→Nat→List Int
 |0,_,_=>[]
 |n+1,m,e=>if e=0∨m≤e then[]else if e≤ag m then 0::trF n (ag m) e else 1::trF n (m- ag m) (e- ag m)
def jL (K:pz)(A:Adr)(j:Nat):Sp:=fun vs H Q _=>∃(x f L D b:Addr)(es:List Key)(kvs:List (List Key×Key))(g:GK)(n a m e:Nat),vs=[.ref x,.int (a:Int),.int (m:Int),.int (e:Int)]∧cE A H x f L D b es kvs g n∧a+m≤es.length∧1≤m∧e≤m∧m<j∧n+2*m≤30000∧
 ∀(p:Addr)(ks:List Key)(kvs':List (List Key×Key))(g':GK)(H':Hp),bv b D H H'→cE A H' x f L D b es kvs' g' (n+2*m)→Sub g g'→H' p=some (.tup (ks.map kV))→Mks g' (grS m ((es.drop a).take m) e) ks→Q (.ref p) H'
def kX (K:pz)(A:Adr):Sp:=fun vs H Q _=>∃(x f L D b:Addr)(es:List Key)(kvs:List (List Key×Key))(g:GK)(n c e:Nat),vs=[.ref x,.int (c:Int),.int (e:Int)]∧cE A H x f L D b es kvs g n∧c≤es.length∧e≤c∧n+200≤30000∧
 ∀(p:Addr)(ks:List Key)(kvs':List (List Key×Key))(g':GK)(H':Hp),bv b D H H'→cE A H' x f L D b es kvs' g' (n+200)→Sub g g'→H' p=some (.tup (ks.map kV))→Mks g' (eY (es.take c) e) ks→Q (.ref p) H'
def mO (K:pz)(A:Adr):Sp:=fun vs H Q _=>∃(p:Addr)(c:Nat)(v:Key),vs=[.ref p]∧H p=some (.tup [.int (c:Int),kV v])∧c≤1000∧okP v=true∧Q (.bl true) H
def ko (K:pz)(A:Adr):Sp:=fun vs H Q _=>∃(p:Addr)(c:Nat)(v:Key),vs=[.ref p]∧H p=some (.tup [.int (c:Int),kV v])∧c≤1000∧okP v=true∧Q .non H
def mL (K:pz)(A:Adr):Sp:=fun vs H Q _=>∃c e:Nat,vs=[.int (c:Int),.int (e:Int)]∧e≤c∧c≤1000∧∀(L:Addr)(H':Hp),au H H'→H' L=some (.lst ((trF c c e).map V.int))→Q (.ref L) H'
def jO (K:pz)(A:Adr):Sp:=fun vs H Q _=>∃(p:Addr)(ks:List Key),vs=[.int (ks.length:Int),.ref p]∧H p=some (.tup (ks.map kV))∧(∀k∈ks,okP k=true)∧ks.length≤500∧∀H',au H H'→Q (.bl true) H'
def jtT (t:Int)(o a:Key):List Key:=if t=0 then[.inr "joint",o,a]else[.inr "joint",a,o]
def jn (K:pz)(A:Adr):Sp:=fun vs H Q _=>∃(t:Int)(o a:Key),vs=[.int t,kV o,kV a]∧∀p,H p=none→Q (.ref p) (upd H p (.tup ((jtT t o a).map kV)))
def dA:List (Int×Key)→Key→List Key
 |[],x=>[x]
 |(t,k)::r,x=>if t=0 then dA r x++[k]else k::dA r x
abbrev SpW (H:Hp):List Addr→List (Int×Key)→Prop:=Paired (fun(p:Addr)(s:Int×Key)=>H p=some (.tup [.int s.1,kV s.2]))
def mT (K:pz)(A:Adr):Sp:=fun vs H Q _=>∃(T p:Addr)(st:List (Int×Key))(x:Key),vs=[.ref T,.ref p]∧H T=some (.lst (st.map fun s=>V.int s.1))∧H p=some (.tup ((dA st x).map kV))∧st.length≤500∧
 ∀(P L:Addr)(ps:List Addr)(H':Hp),au H H'→H' P=some (.tup [kV x,.ref L])→H' L=some (.lst (ps.map V.ref))→SpW H' ps st.reverse→Q (.ref P) H'
inductive Pth (g:GK)(es:List Key)(e:Nat):List (Int×Key)→List Key→Nat→Prop
 |nil:Pth g es e [] es e
 |lo {st s d k}:Pth g es e st s d→0<d→d≤ag s.length→2≤s.length→Cur g (s.drop (ag s.length)) k→Pth g es e (st++[(0,k)]) (s.take (ag s.length)) d
 |hi {st s d k}:Pth g es e st s d→ag s.length<d→d≤s.length→2≤s.length→Cur g (s.take (ag s.length)) k→Pth g es e (st++[(1,k)]) (s.drop (ag s.length)) (d- ag s.length)
inductive Cov (h:List Key→Key)(ts:List (List Key)):List Key→Prop
 |pow {s:List Key} {k:Nat}:s.length=2^k→Cov h ts s
 |hi {s:List Key}:2≤s.length→bA h s∈ts→Cov h ts (s.drop (ag s.length))→Cov h ts s
def rwK (c:Nat)(v:Key):List Key:=[.inr "row",.inl (c:Int),v]
def GTQ (A:Adr)(H:Hp)(f b:Addr)(g:GK)(m:Nat)(es:List Key)(e:Nat)(Q:VK):Prop:=∀(P Ly Lo y o:Addr)(py po:List Addr)(ty to:List (List Key))(top otop:Key)(g':GK)(H':Hp),aR b H H'→Stp A H' f b g' m→Sub g g'→H' P=some (.tup [.ref Ly,.ref Lo])→H' Ly=some (.lst ((py++[y]).map V.ref))→H' Lo=some (.lst ((po++[o]).map V.ref))→
 PK H' (py++[y]) (ty++[rwK es.length top])→PK H' (po++[o]) (to++[rwK e otop])→ty.length≤70→to.length≤70→Cur g' es top→Cur g' (es.take e) otop→(∀h,Ext g' h→Cov h to (es.take e))→Q (.ref P) H'
def mU (K:pz)(A:Adr):Sp:=fun vs H Q _=>∃(f b P L:Addr)(ps:List Addr)(es s:List Key)(e:Nat)(st:List (Int×Key))(x:Key)(g:GK)(n:Nat),vs=[.ref f,.int (es.length:Int),.int (e:Int),.ref P]∧Stp A H f b g n∧n+200≤40000∧es.length≤60∧e<es.length∧st.length≤60∧1≤s.length∧
 H P=some (.tup [kV x,.ref L])∧H L=some (.lst (ps.map V.ref))∧SpW H ps st.reverse∧Pth g es e st s s.length∧Cur g s x∧GTQ A H f b g (n+130) es e Q
def jk (K:pz)(A:Adr):Sp:=fun vs H Q _=>∃(f b p:Addr)(es ks:List Key)(e:Nat)(g:GK)(n:Nat),vs=[.ref f,.int (es.length:Int),.int (e:Int),.ref p]∧Stp A H f b g n∧n+200≤40000∧es.length≤60∧1≤e∧e<es.length∧
 H p=some (.tup (ks.map kV))∧Mks g (eY es e) ks∧GTQ A H f b g (n+130) es e Q
def mS (K:pz)(A:Adr):Sp:=fun vs H Q _=>∃(f b hd p:Addr)(es ks:List Key)(e:Nat)(mk:Key)(g:GK)(n:Nat),vs=[.ref f,.ref hd,.int (e:Int),.ref p]∧Stp A H f b g n∧n+200≤40000∧es.length≤60∧1≤e∧e<es.length∧
 H hd=some (.tup [.int (es.length:Int),kV mk])∧okP mk=true∧(∀h,Ext g h→mk=h (fb h es))∧H p=some (.tup (ks.map kV))∧Mks g (eY es e) ks∧
 ∀(w:Key)(g':GK)(H':Hp),aR b H H'→Stp A H' f b g' (n+140)→Sub g g'→(∀h,Ext g' h→w=h (fb h (es.take e)))→Q (kV w) H'
def bN:Nat→Nat→Nat→List Int
 |0,_,_=>[]
 |n+1,r,p=>if r≤1 then[]else if p<ag r then 0::bN n (ag r) p else 1::bN n (r- ag r) (p- ag r)
def di:Nat→List Key→Nat→List (List Key)
 |0,_,_=>[]
 |n+1,es,p=>if es.length≤1 then[]else if p<ag es.length then es.drop (ag es.length)::di n (es.take (ag es.length)) p else es.take (ag es.length)::di n (es.drop (ag es.length)) (p- ag es.length)
def jM (K:pz)(A:Adr):Sp:=fun vs H Q _=>∃c p:Nat,vs=[.int (p:Int),.int (c:Int)]∧p<c∧c≤1000∧∀(L:Addr)(H':Hp),H L=none→au H H'→H' L=some (.lst ((bN c c p).map V.int))→Q (.ref L) H'
structure bQ (H:Hp)(P T:Addr)(e:Key)(ks:List Key):Prop where
 hP:H P=some (.tup [kV e,.ref T])
 hT:H T=some (.tup (ks.map kV))
def iF (K:pz)(A:Adr):Sp:=fun vs H Q _=>∃(x f L D b:Addr)(es:List Key)(kvs:List (List Key×Key))(g:GK)(n c p:Nat),vs=[.ref x,.int (c:Int),.int (p:Int)]∧cE A H x f L D b es kvs g n∧c≤es.length∧p<c∧n+200≤30000∧
 ∀(P T:Addr)(e:Key)(ks:List Key)(kvs':List (List Key×Key))(g':GK)(H':Hp),bv b D H H'→cE A H' x f L D b es kvs' g' (n+200)→Sub g g'→bQ H' P T e ks→es[p]?=some e→Mks g' (di c (es.take c) p) ks→Q (.ref P) H'
def mv (K:pz)(A:Adr):Sp:=fun vs H Q _=>∃(L P T:Addr)(ts:List Int)(e:Key)(ks:List Key),vs=[.ref L,.ref P]∧H L=some (.lst (ts.map V.int))∧bQ H P T e ks∧okP e=true∧(∀k∈ks,okP k=true)∧ks.length=ts.length∧ks.length≤500∧∀H',au H H'→Q (.bl true) H'
structure nK (A:Adr)(H:Hp)(f b P T:Addr)(es ks:List Key)(p:Nat)(e:Key)(g:GK)(n:Nat):Prop where
 s:Stp A H f b g n
 hn:n+200≤40000
 l60:es.length≤60
 lt:p<es.length
 ge:es[p]?=some e
 en:enK e
 w:bQ H P T e ks
 ms:Mks g (di es.length es p) ks
def jd (K:pz)(A:Adr):Sp:=fun vs H Q _=>∃(f b P T:Addr)(es ks:List Key)(p:Nat)(e:Key)(g:GK)(n:Nat),vs=[.ref f,.int (es.length:Int),.int (p:Int),.ref P]∧nK A H f b P T es ks p e g n∧
 ∀(L pr:Addr)(qs:List Addr)(ts:List (List Key))(top:Key)(g':GK)(H':Hp),aR b H H'→Stp A H' f b g' (n+130)→Sub g g'→H' L=some (.lst ((qs++[pr]).map V.ref))→PK H' (qs++[pr]) (ts++[rwK es.length top])→ts.length≤70→Cur g' es top→Q (.ref L) H'
def mM (K:pz)(A:Adr):Sp:=fun vs H Q _=>∃(f b P T:Addr)(es ks:List Key)(p:Nat)(e:Key)(g:GK)(n:Nat),vs=[.ref f,.int (es.length:Int),.int (p:Int),.ref P]∧nK A H f b P T es ks p e g n∧
 ∀(w:Key)(g':GK)(H':Hp),aR b H H'→Stp A H' f b g' (n+131)→Sub g g'→(∀h,Ext g' h→w=h (fb h es))→Q (kV w) H'
def km (K:pz)(A:Adr):Sp:=fun vs H Q _=>∃(f b hd P T:Addr)(es ks:List Key)(p:Nat)(e mk:Key)(g:GK)(n:Nat),vs=[.ref f,.ref hd,.int (p:Int),.ref P]∧nK A H f b P T es ks p e g n∧
 H hd=some (.tup [.int (es.length:Int),kV mk])∧okP mk=true∧(∀h,Ext g h→mk=h (fb h es))∧
 ∀(g':GK)(H':Hp),aR b H H'→Stp A H' f b g' (n+131)→Sub g g'→Q (kV e) H'
def gW (h:List Key→Key):GK:=fun k=>some (h k)
def cB (A:Adr)(H:Hp)(f b:Addr)(g:GK)(n:Nat)(x L D:Addr)(es:List Key):Prop:=∃kvs,cE A H x f L D b es kvs g n
structure Rw where
 x:Addr
 L:Addr
 D:Addr
 es:List Key
structure Duo (A:Adr)(H:Hp)(f b:Addr)(h:List Key→Key)(n:Nat)(r s:Rw):Prop where
 rr:cB A H f b (gW h) n r.x r.L r.D r.es
 rs:cB A H f b (gW h) n s.x s.L s.D s.es
 ne:r.D≠s.D
def KD (b:Addr)(r s:Rw)(H H':Hp):Prop:=∀z o,z≠b→z≠r.D→z≠s.D→H z=some o→H' z=some o
def mkO (h:List Key→Key)(es:List Key)(k:Nat):Key:=h (fb h (es.take k))
def wkO (h:List Key→Key)(es:List Key)(c p:Nat):List Key:=(di c (es.take c) p).map fun s=>h (bA h s)
def Lnx (A:Adr)(H:Hp)(f b:Addr)(h:List Key→Key)(ln x:Addr):Prop:=∃dx fa q,H ln=some (.ins A.c_Spoken dx [("answerer",.ref fa)])∧cQ H fa dw [q] [.ref x]∧∀n,Stp A (bB [q] H) f b (gW h) n
structure Hd (H:Hp)(h:List Key→Key)(hd:Addr)(es:List Key)(c:Nat):Prop where
 w:H hd=some (.tup [.int (c:Int),kV (mkO h es c)])
 c1:1≤c
 c2:c≤es.length
def GrA (A:Adr)(H:Hp)(f b:Addr)(h:List Key→Key)(n:Nat)(r s:Rw)(c e:Nat)(Q:VK):Prop:=c≤r.es.length∧e≤c∧∀(P:Addr)(ks:List Key)(H':Hp),KD b r s H H'→Duo A H' f b h (n+200) r s→H' P=some (.tup (ks.map kV))→Mks (gW h) (eY (r.es.take c) e) ks→Q (.ref P) H'
def PlA (A:Adr)(H:Hp)(f b:Addr)(h:List Key→Key)(n:Nat)(r s:Rw)(c p:Nat)(Q:VK):Prop:=c≤r.es.length∧p<c∧∀(P T:Addr)(e:Key)(H':Hp),KD b r s H H'→Duo A H' f b h (n+200) r s→bQ H' P T e (wkO h r.es c p)→r.es[p]?=some e→Mks (gW h) (di c (r.es.take c) p) (wkO h r.es c p)→Q (.ref P) H'
def qe (K:pz)(A:Adr):Sp:=fun vs H Q _=>∃(p f b:Addr)(h:List Key→Key)(n:Nat)(r s:Rw)(c e:Nat),vs=[.ref p,.ref r.x]∧Duo A H f b h n r s∧n+200≤30000∧
 ((H p=some (.tup [.str "growth",.int (c:Int),.int (e:Int)])∧GrA A H f b h n r s c e Q)∨(H p=some (.tup [.str "placed",.int (c:Int),.int (e:Int)])∧PlA A H f b h n r s c e Q))
def mQ (K:pz)(A:Adr):Sp:=fun vs H Q _=>∃(x dx f:Addr),vs=[.ref x,.ref f]∧H x=some (.ins A.c_Spoken dx [])∧Q .non (upd H x (.ins A.c_Spoken dx [("answerer",.ref f)]))
def fF (A:Adr)(H:Hp):Prop:=∃ps,H A.t_17=some (.tbl ps)∧(ps=#[]∨∃c,ps=#[]++#[rawInt ((373:Nat):Int),rawInt ((4:Nat):Int),.ref c]∧H c=some (dz c dw.qual))
def fJ (K:pz)(A:Adr):Sp:=fun vs H Q _=>∃(x f b:Addr)(h:List Key→Key),vs=[.ref x]∧fF A H∧(∀n,Stp A H f b (gW h) n)∧∀(ln:Addr)(H':Hp),cp A.t_17 H H'→fF A H'→Lnx A H' f b h ln x→Q (.ref ln) H'
def mt (K:pz)(A:Adr):Sp:=fun vs H Q _=>∃(ln f b:Addr)(h:List Key→Key)(n:Nat)(r s:Rw)(c e:Nat),vs=[.ref ln,.int (c:Int),.int (e:Int)]∧Lnx A H f b h ln r.x∧Duo A H f b h n r s∧n+200≤30000∧GrA A H f b h n r s c e Q
def ig (K:pz)(A:Adr):Sp:=fun vs H Q _=>∃(ln f b:Addr)(h:List Key→Key)(n:Nat)(r s:Rw)(c e:Nat),vs=[.ref ln,.int (c:Int),.int (e:Int)]∧Lnx A H f b h ln r.x∧Duo A H f b h n r s∧n+200≤30000∧PlA A H f b h n r s c e Q
def mE (K:pz)(A:Adr):Sp:=fun vs H Q _=>∃(f b hd ln:Addr)(h:List Key→Key)(n:Nat)(r s:Rw)(c k:Nat),vs=[.ref f,.ref hd,.int (k:Int),.ref ln]∧Lnx A H f b h ln r.x∧Duo A H f b h n r s∧Hd H h hd r.es c∧k≤c∧n+200≤30000∧
 ∀H',KD b r s H H'→Duo A H' f b h (n+200) r s→Q (kV (mkO h r.es k)) H'
structure Sds (A:Adr)(H:Hp)(f b:Addr)(h:List Key→Key)(S:Addr)(r s:Rw)(c d:Nat):Prop where
 ex:∃t u hr hs lr ls:Addr,H S=some (.tup [.ref t,.ref u])∧H t=some (.tup [.ref hr,.ref lr])∧H u=some (.tup [.ref hs,.ref ls])∧Hd H h hr r.es c∧Hd H h hs s.es d∧Lnx A H f b h lr r.x∧Lnx A H f b h ls s.x
def ky (K:pz)(A:Adr):Sp:=fun vs H Q _=>∃(f b S:Addr)(h:List Key→Key)(n:Nat)(r s:Rw)(c d k:Nat),vs=[.ref f,.ref S,.int (k:Int)]∧Sds A H f b h S r s c d∧Duo A H f b h n r s∧k≤c∧k≤d∧n+400≤30000∧
 ∀(M:Addr)(H':Hp),KD b r s H H'→Duo A H' f b h (n+400) r s→H' M=some (.lst [kV (mkO h r.es k),kV (mkO h s.es k)])→Q (.ref M) H'
def gU (K:pz)(A:Adr):Sp:=km K A
def Shw (H:Hp)(h:List Key→Key)(r s:Rw)(c d p:Nat)(R:Addr):Prop:=(r.es[p]?=s.es[p]?∧H R=some (.tup [.str "dark"]))∨∃(P T P2 T2:Addr)(e e2:Key),r.es[p]?=some e∧s.es[p]?=some e2∧e≠e2∧H R=some (.tup [.str "lie",.int (p:Int),.ref P,.ref P2])∧bQ H P T e (wkO h r.es c p)∧bQ H P2 T2 e2 (wkO h s.es d p)
def mG (K:pz)(A:Adr):Sp:=fun vs H Q _=>∃(f b S:Addr)(h:List Key→Key)(n:Nat)(r s:Rw)(c d p:Nat),vs=[.ref f,.ref S,.int (p:Int)]∧Sds A H f b h S r s c d∧Duo A H f b h n r s∧p<c∧p<d∧n+400≤30000∧
 ∀(R:Addr)(H':Hp),KD b r s H H'→Duo A H' f b h (n+400) r s→Shw H' h r s c d p R→Q (.ref R) H'
def bsF (q:Nat→Bool):Nat→Nat→Nat→Nat
 |0,lo,_=>lo
 |n+1,lo,hi=>if 1<hi- lo then(if q ((lo+hi)/2)then bsF q n ((lo+hi)/2) hi else bsF q n lo ((lo+hi)/2))else lo
def eqM (h:List Key→Key)(r s:Rw)(k:Nat):Bool:=decide (mkO h r.es k=mkO h s.es k)
def bsP (h:List Key→Key)(r s:Rw)(low:Nat):Nat:=bsF (eqM h r s) low 0 low
def mR (K:pz)(A:Adr):Sp:=fun vs H Q _=>∃(f b S:Addr)(h:List Key→Key)(n:Nat)(r s:Rw)(c d k:Nat),vs=[.ref f,.ref S,.int (k:Int)]∧Sds A H f b h S r s c d∧Duo A H f b h n r s∧1≤k∧k≤c∧k≤d∧c≤14∧n+6000≤30000∧
 ∀(R:Addr)(H':Hp),KD b r s H H'→Duo A H' f b h (n+6000) r s→Shw H' h r s c d (bsP h r s k) R→Q (.ref R) H'
def TkR (H:Hp)(h:List Key→Key)(r s:Rw)(c d:Nat)(R:Addr):Prop:=(eqM h r s (min c d)=true∧H R=some (.tup [.str "one"]))∨(eqM h r s (min c d)=false∧Shw H h r s c d (bsP h r s (min c d)) R)
def jY (K:pz)(A:Adr):Sp:=fun vs H Q _=>∃(f b hr hs lr ls:Addr)(h:List Key→Key)(n:Nat)(r s:Rw)(c d:Nat),vs=[.ref f,.ref hr,.ref hs,.ref lr,.ref ls]∧Hd H h hr r.es c∧Hd H h hs s.es d∧Lnx A H f b h lr r.x∧Lnx A H f b h ls s.x∧Duo A H f b h n r s∧c≤14∧n+7000≤30000∧
 ∀(R:Addr)(H':Hp),KD b r s H H'→Duo A H' f b h (n+7000) r s→TkR H' h r s c d R→Q (.ref R) H'
def fH (K:pz)(A:Adr):Sp:=fun vs H Q _=>∃(f b E:Addr)(h:List Key→Key)(es:List Key)(k:Nat),vs=[.ref f,.ref E,.int (k:Int)]∧H E=some (.lst (es.map kV))∧(∀e∈es,enK e)∧es.length≤60∧k≤es.length∧(∀n,Stp A H f b (gW h) n)∧
 ∀H',aR b H H'→(∀n,Stp A H' f b (gW h) n)→Q (kV (mkO h es k)) H'
def mo (K:pz)(A:Adr):Sp:=fun vs H Q _=>∃(a:Addr)(ns:List Int),vs=[.ref a]∧SqL K H a (ns.map V.int)∧∀(B E F:Addr)(es fs:List Key)(H':Hp),au H H'→H' B=some (.lst [.ref E,.ref F])→H' E=some (.lst (es.map kV))→H' F=some (.lst (fs.map kV))→(∀e∈es,enK e)→(∀e∈fs,enK e)→1≤es.length→es.length≤14→1≤fs.length→fs.length≤14→Q (.ref B) H'
def iW (K:pz)(A:Adr):Sp:=fun vs H Q _=>∃(f E:Addr)(es:List Key),vs=[.ref f,.ref E]∧H E=some (.lst (es.map kV))∧(∀e∈es,enK e)∧es.length≤60∧
 ∀(x L D dx:Addr)(H':Hp),au H H'→H L=none→H D=none→H' dx=some (.own x)→cH A H' x f L D es []→Q (.ref x) H'
def Opn (h:List Key→Key)(ts:List (List Key))(es:List Key)(k:Nat):Prop:=fb h (es.take k)∈ts∧Cov h ts (es.take k)
structure iQ (H:Hp)(R C:Addr)(r s:Rw)(c d:Nat):Prop where
 hR:H R=some (.lst [.ref r.x,.ref s.x])
 hC:H C=some (.lst [.int (c:Int),.int (d:Int)])
 c2:c≤r.es.length
 d2:d≤s.es.length
def jR (K:pz)(A:Adr):Sp:=fun vs H Q _=>∃(f b R C:Addr)(h:List Key→Key)(n:Nat)(r s:Rw)(c d k:Nat),vs=[.ref f,.ref R,.ref C,.int (k:Int)]∧iQ H R C r s c d∧Duo A H f b h n r s∧n+400≤30000∧
 ∀(L:Addr)(ps:List Addr)(ts:List (List Key))(H':Hp),KD b r s H H'→Duo A H' f b h (n+400) r s→H' L=some (.lst (ps.map V.ref))→PK H' ps ts→ts.length≤300→(0<k→k<c→k<d→Opn h ts r.es k∧Opn h ts s.es k)→Q (.ref L) H'
def mJ (K:pz)(A:Adr):Sp:=fun vs H Q _=>∃(f b R C:Addr)(h:List Key→Key)(n:Nat)(r s:Rw)(c d p:Nat),vs=[.ref f,.ref R,.ref C,.int (p:Int)]∧iQ H R C r s c d∧Duo A H f b h n r s∧p<c∧p<d∧n+400≤30000∧
 ∀(L:Addr)(ps:List Addr)(ts:List (List Key))(H':Hp),KD b r s H H'→Duo A H' f b h (n+400) r s→H' L=some (.lst (ps.map V.ref))→PK H' ps ts→ts.length≤300→Q (.ref L) H'
def Dq (h:List Key→Key)(ks:List (List Key)):Option (List Key×List Key)→Prop
 |none=>∀(j k:Nat) a b,j<k→ks[j]?=some a→ks[k]?=some b→h a=h b→a=b
 |some r=>∃j k:Nat,j<k∧ks[j]?=some r.1∧ks[k]?=some r.2∧r.1≠r.2∧h r.1=h r.2∧(∀(j' k':Nat) a b,j'<k'→k'<k→ks[j']?=some a→ks[k']?=some b→h a=h b→a=b)∧∀(j':Nat) a,j'<j→ks[j']?=some a→h a=h r.2→a=r.2
def sE (H:Hp):Option (List Key×List Key)→V→Prop
 |none,v=>v=.non
 |some r,v=>∃p a b:Addr,v=.ref p∧H p=some (.tup [.ref a,.ref b])∧H a=some (.tup (r.1.map kV))∧H b=some (.tup (r.2.map kV))∧okT r.1=true∧okT r.2=true
def mC (K:pz)(A:Adr):Sp:=fun vs H Q _=>∃(f b L:Addr)(ps:List Addr)(ks:List (List Key))(g:GK)(n:Nat),vs=[.ref f,.ref L]∧Stp A H f b g n∧H L=some (.lst (ps.map V.ref))∧PK H ps ks∧ks.length≤9000∧n≤30000∧
 ∀(v:V)(H':Hp)(g':GK)(r:Option (List Key×List Key)),aR b H H'→Stp A H' f b g' (n+ks.length)→Sub g g'→sE H' r v→(∀h:List Key→Key,Ext g' h→Dq h ks r)→Q v H'
def mw (K:pz)(A:Adr):Sp:=fun vs H Q _=>∃(f b L:Addr)(ps:List Addr)(ks:List (List Key))(r:List Key×List Key)(v:V)(g:GK)(n:Nat),vs=[.ref f,.ref L,v]∧Stp A H f b g n∧H L=some (.lst (ps.map V.ref))∧PK H ps ks∧ks.length≤9000∧n+10≤40000∧sE H (some r) v∧r.1∈ks∧r.2∈ks∧r.1≠r.2∧(∀h,Ext g h→h r.1=h r.2)∧
 ∀(H':Hp)(g':GK),aR b H H'→Stp A H' f b g' (n+10)→Sub g g'→Q (.bl true) H'
def mK (K:pz)(A:Adr):Sp:=fun vs H Q _=>∃(f b R B E F W C:Addr)(h:List Key→Key)(n:Nat)(r s:Rw)(c d:Nat),vs=[.ref f,.ref R,.ref B,.ref W,.ref C]∧iQ H W C r s c d∧Duo A H f b h n r s∧1≤c∧1≤d∧c≤14∧n+8000≤30000∧TkR H h r s c d R∧H B=some (.lst [.ref E,.ref F])∧H E=some (.lst (r.es.map kV))∧H F=some (.lst (s.es.map kV))∧
 ∀H',KD b r s H H'→Duo A H' f b h (n+8000) r s→Q (.bl true) H'
def mH (K:pz)(A:Adr):Sp:=fun vs H Q _=>∃(a:Addr)(ns:List Int),vs=[.ref a]∧SqL K H a (ns.map V.int)∧ns.length≤63∧Dz A H∧∀H',Q (.bl true) H'
def cr (K:pz)(A:Adr):L2.dS:=[(eK,qQ K A)]
def kf (K:pz)(A:Adr):L2.dS:=[(dw,qe K A)]
def Am (K:pz)(A:Adr):TS:=ax (aB (tCB (bU K) (af (ae 0) (ak))) (aw 1)) (ax (ej (dN K (ae 0)) (aw 2) (bg (dZ K (tCB (gC) (af (ae 2) (af (tC (.ty "str")) (ak))))) (aB (tOp (bo K) (tOp (kH) (tC (.int 2)) (ae 1)) (tCB (bU K) (af (ae 2) (ak)))) (aw 1)) (aB (tOp (bo K) (tOp (kH) (tC (.int 2)) (ae 1)) (ae 2)) (aw 1)))) (aH (tOp (fg) (ae 1) (ae 3))))
def zE (K:pz)(A:Adr):TS:=ax (bg (aP (tOp (bJ K) (tOp (aA K) (ae 0) (tC (.int 0))) (tC (.str "growth")))) (aH (bq A.c_Row "growth_paper" (kX K A) (fun _=>E0) (ae 1) (af (tOp (aA K) (ae 0) (tC (.int 1))) (af (tOp (aA K) (ae 0) (tC (.int 2))) (ak))))) (ba)) (aH (bq A.c_Row "place_paper" (iF K A) (fun _=>E0) (ae 1) (af (tOp (aA K) (ae 0) (tC (.int 1))) (af (tOp (aA K) (ae 0) (tC (.int 2))) (ak)))))
def DO (K:pz)(A:Adr):TS:=aH (cI (tCB (gC) (af (ae 0) (af (tC (.ty "int")) (ak)))) (pU (tCB (gC) (af (ae 0) (af (tC (.ty "bool")) (ak))))))
def FG (K:pz)(A:Adr):TS:=aH (cI (az (gX K A) (fun _=>E0) (af (ae 0) (ak))) (dE (mLe) (mLt) (tC (.int 0)) (ae 0) (tOp (qz) (tC (.int 1)) (tC (.int 60)))))
def Es (K:pz)(A:Adr):TS:=aH (cI (az (iX K A) (fun _=>E0) (af (ae 0) (ak))) (cI (az (gX K A) (fun _=>E0) (af (ae 1) (ak))) (dE (mLe) (mLe) (tC (.int 0)) (ae 1) (ae 0))))
def T_7 (K:pz)(A:Adr):TS:=aH (tCB (bU K) (af (gD K (ae 0) "entries") (ak)))
def T_4 (K:pz)(A:Adr):TS:=aH (cI (az (ki K A) (fun _=>E0) (af (ae 1) (af (ae 2) (ak)))) (tOp (mLe) (ae 1) (bq A.c_Row "size" (nU K A) (fun _=>E0) (ae 0) ak)))
def DQ (K:pz)(A:Adr):TS:=aH (tOp (qz) (tC (.int 1)) (tOp (cY) (iM K "int" qo (tOp (cY) (ae 0) (tC (.int 1)))) (tC (.int 1))))
def T_9 (K:pz)(A:Adr)(n:Nat):TS:=ax (bg (aP (tOp (bJ K) (ae 2) (tC (.int 0)))) (aH (bc (af (tC (.str "void")) (ak)))) (ba)) (ax (bg (aP (tOp (bJ K) (ae 2) (tC (.int 1)))) (aH (bc (af (tC (.str "entry")) (af (tOp (aA K) (gD K (ae 0) "entries") (ae 1)) (ak))))) (ba)) (ax (aB (az (gq K A) (fun _=>E0) (af (ae 2) (ak))) (aw 3)) (aH (bc (af (tC (.str "joint")) (af (bq A.c_Row "top_of" (eM K A n) (fun _=>E0) (ae 0) (af (ae 1) (af (ae 3) (ak)))) (af (bq A.c_Row "top_of" (eM K A n) (fun _=>E0) (ae 0) (af (tOp (bo K) (ae 1) (ae 3)) (af (tOp (cY) (ae 2) (ae 3)) (ak)))) (ak))))))))
def T_8 (K:pz)(A:Adr)(n:Nat):TS:=ax (aB (bc (af (ae 1) (af (ae 2) (ak)))) (aw 3)) (ax (bg (aP (tOp (gG K) (ae 3) (gD K (ae 0) "tops"))) (aB (sF (cr K A) A.c_Row "stamper" (fun _=>E0) (ae 0) (af (bq A.c_Row "top_term" (qA K A n) (fun _=>E0) (ae 0) (af (ae 1) (af (ae 2) (ak)))) (ak))) (uV (gD K (ae 0) "tops") (ae 3) qh)) (ba)) (aH (tOp (aA K) (gD K (ae 0) "tops") (ae 3))))
def T_2 (K:pz)(A:Adr)(n:Nat):TS:=ax (bg (mOr (aP (tOp (bJ K) (ae 3) (tC (.int 0)))) (aP (tOp (bJ K) (ae 3) (ae 2)))) (aH (bc (af (bq A.c_Row "top_of" (eM K A 70) (fun _=>E0) (ae 0) (af (ae 1) (af (ae 2) (ak)))) (ak)))) (ba)) (ax (aB (az (gq K A) (fun _=>E0) (af (ae 2) (ak))) (aw 4)) (ax (bg (aP (tOp (mLe) (ae 3) (ae 4))) (aH (tOp (bo K) (bq A.c_Row "growth_marks" (jL K A n) (fun _=>E0) (ae 0) (af (ae 1) (af (ae 4) (af (ae 3) (ak))))) (bc (af (bq A.c_Row "top_of" (eM K A 70) (fun _=>E0) (ae 0) (af (tOp (bo K) (ae 1) (ae 4)) (af (tOp (cY) (ae 2) (ae 4)) (ak)))) (ak))))) (ba)) (aH (tOp (bo K) (bc (af (bq A.c_Row "top_of" (eM K A 70) (fun _=>E0) (ae 0) (af (ae 1) (af (ae 4) (ak)))) (ak))) (bq A.c_Row "growth_marks" (jL K A n) (fun _=>E0) (ae 0) (af (tOp (bo K) (ae 1) (ae 4)) (af (tOp (cY) (ae 2) (ae 4)) (af (tOp (cY) (ae 3) (ae 4)) (ak)))))))))
def T_3 (K:pz)(A:Adr):TS:=ax (bg (eW (dZ K (bq A.c_Row "has_elder" (pP K A) (fun _=>E0) (ae 0) (af (ae 1) (af (ae 2) (ak)))))) (cX) (ba)) (aH (mIf (aP (tOp (mGt) (ae 1) (tC (.int 0)))) (bq A.c_Row "growth_marks" (jL K A 70) (fun _=>E0) (ae 0) (af (tC (.int 0)) (af (ae 1) (af (ae 2) (ak))))) (bc (ak))))
def DN (K:pz)(A:Adr):TS:=aH (cI (az (iX K A) (fun _=>E0) (af (ae 0) (ak))) (cI (az (gX K A) (fun _=>E0) (af (ae 1) (ak))) (dE (mLe) (mLt) (tC (.int 0)) (ae 1) (ae 0))))
def T_5 (K:pz)(A:Adr):TS:=aH (cI (az (kG K A) (fun _=>E0) (af (ae 1) (af (ae 2) (ak)))) (tOp (mLe) (ae 1) (bq A.c_Row "size" (nU K A) (fun _=>E0) (ae 0) ak)))
def Fz (K:pz)(A:Adr):TS:=ax (aB (dg (ak)) (aw 2)) (ax (aB (tC (.int 0)) (aw 3)) (ax (aB (ae 1) (aw 4)) (ax (fv (aP (tOp (mGt) (ae 4) (tC (.int 1)))) (ax (aB (az (gq K A) (fun _=>E0) (af (ae 4) (ak))) (aw 5)) (bg (aP (tOp (mLt) (ae 0) (tOp (bo K) (ae 3) (ae 5)))) (ax (bO (tBM K "list" bE (ae 2) (af (tC (.int 0)) (ak)))) (aB (ae 5) (aw 4))) (ax (bO (tBM K "list" bE (ae 2) (af (tC (.int 1)) (ak)))) (ax (aB (tOp (bo K) (ae 3) (ae 5)) (aw 3)) (aB (tOp (cY) (ae 4) (ae 5)) (aw 4))))))) (aH (ae 2)))))
def T_6 (K:pz)(A:Adr):TS:=ax (bg (eW (dZ K (bq A.c_Row "has_place" (qw K A) (fun _=>E0) (ae 0) (af (ae 1) (af (ae 2) (ak)))))) (cX) (ba)) (ax (aB (dg (ak)) (aw 3)) (ax (aB (tC (.int 0)) (aw 4)) (ax (aB (ae 1) (aw 5)) (ax (ej (dN K (az (jM K A) (fun _=>E0) (af (ae 2) (af (ae 1) (ak))))) (aw 6) (ax (aB (az (gq K A) (fun _=>E0) (af (ae 5) (ak))) (aw 7)) (bg (aP (tOp (bJ K) (ae 6) (tC (.int 0)))) (ax (bO (tBM K "list" bE (ae 3) (af (bq A.c_Row "top_of" (eM K A 70) (fun _=>E0) (ae 0) (af (tOp (bo K) (ae 4) (ae 7)) (af (tOp (cY) (ae 5) (ae 7)) (ak)))) (ak)))) (aB (ae 7) (aw 5))) (ax (bO (tBM K "list" bE (ae 3) (af (bq A.c_Row "top_of" (eM K A 70) (fun _=>E0) (ae 0) (af (ae 4) (af (ae 7) (ak)))) (ak)))) (ax (aB (tOp (bo K) (ae 4) (ae 7)) (aw 4)) (aB (tOp (cY) (ae 5) (ae 7)) (aw 5))))))) (aH (bc (af (tOp (aA K) (gD K (ae 0) "entries") (ae 2)) (af (tCB (sA K) (af (ae 3) (ak))) (ak)))))))))
def Fl (K:pz)(A:Adr):TS:=ax (bg (aP (tOp (mLt) (ae 1) (tCB (bU K) (af (ae 0) (ak))))) (aH (tOp (aA K) (ae 0) (ae 1))) (ba)) (aH (tC (.int 0)))
def xX (K:pz)(A:Adr)(q0:Addr):TSM:=tZ (pH (aB (tW A.t_24 ⟨334,4,341,37⟩ eK [q0]) (aw 1))) (tU (ae 1))
def zB (K:pz)(A:Adr):TS:=aH (dg (af (ae 2) (af (tOp (bo K) (tSl (iN K) (ae 2) (eD) (gl (ae 3))) (dW [0] (fN (af (ae 4) (ak))) (fun _ H Q=>Q true H) (tOp (fg) (az (dU K A) (fun _=>E0) (af (ae 1) (af (tOp (bo K) (tC (.int 26)) (ae 0)) (ak)))) (tC (.int 7))))) (ak))))
def rh (K:pz)(A:Adr):TS:=ax (aB (tCB (qf) (af (tOp (cY) (tC (.int 1)) (ae 3)) (af (tOp (fg) (az (dU K A) (fun _=>E0) (af (ae 0) (af (tC (.int 3)) (ak)))) (tOp (cY) (tC (.int 15)) (ae 3))) (ak)))) (aw 4)) (zB K A)
def xM (K:pz)(A:Adr):TS:=ax (aB (tOp (fg) (az (dU K A) (fun _=>E0) (af (ae 0) (af (tC (.int 2)) (ak)))) (tOp (bo K) (ae 1) (tC (.int 1)))) (aw 3)) (rh K A)
def rX (K:pz)(A:Adr):TS:=ax (aB (dW [0] (fN (af (ae 1) (ak))) (fun _ H Q=>Q true H) (tOp (fg) (az (dU K A) (fun _=>E0) (af (ae 1) (af (tOp (bo K) (tC (.int 12)) (ae 0)) (ak)))) (tC (.int 7)))) (aw 2)) (xM K A)
def Ft (K:pz)(A:Adr):TS:=ax (aB (tOp (bo K) (tC (.int 1)) (tOp (fg) (az (dU K A) (fun _=>E0) (af (ae 0) (af (tC (.int 1)) (ak)))) (tC (.int 14)))) (aw 1)) (rX K A)
def T_0 (K:pz)(A:Adr):TS:=ax (lf K (ae 0) (ae 1) "stamper") (ax (lf K (ae 0) (dg (ak)) "entries") (lf K (ae 0) (nY) "tops"))
def Ee (K:pz)(A:Adr):TS:=ax (bg (dZ K (az (gX K A) (fun _=>E0) (af (ae 0) (ak)))) (aH (dE (mLe) (mLt) (tC (.int 0)) (ae 0) (tOp (uL) (tC (.int 10)) (tC (.int 60))))) (ba)) (aH (tCB (gC) (af (ae 0) (af (tC (.ty "str")) (ak)))))
def T_1 (K:pz)(A:Adr):TS:=ax (bg (eW (dZ K (az (gR K A) (fun _=>E0) (af (ae 1) (ak))))) (cX) (ba)) (ax (bO (tBM K "list" bE (gD K (ae 0) "entries") (af (ae 1) (ak)))) (aH (tOp (cY) (tCB (bU K) (af (gD K (ae 0) "entries") (ak))) (tC (.int 1)))))
def EO (K:pz)(A:Adr):TS:=ax (aB (nv A.c_Row (qJ K A) (fun _=>E0) (af (ae 0) (ak))) (aw 2)) (ax (ej (dN K (ae 1)) (aw 3) (bO (bq A.c_Row "add" (qT K A) (fun _=>E0) (ae 2) (af (ae 3) (ak))))) (aH (ae 2)))
def DT (K:pz)(A:Adr):TS:=ax (aB (dg (ak)) (aw 2)) (ax (ej (dN K (ae 1)) (aw 3) (ax (aB (tC (.int 1)) (aw 4)) (ax (aB (cA (cr K A) (fun _=>E0) (ae 0) (af (bc (af (tC (.str "entry")) (af (ae 3) (ak)))) (ak))) (aw 5)) (ax (fv (uh (aP (tOp (mGt) (tCB (bU K) (af (ae 2) (ak))) (tC (.int 0)))) (aP (tOp (bJ K) (tOp (aA K) (tOp (aA K) (ae 2) (tUn fE (tC (.int 1)))) (tC (.int 0))) (ae 4)))) (ax (aB (cA (cr K A) (fun _=>E0) (ae 0) (af (bc (af (tC (.str "joint")) (af (tOp (aA K) (iM K "list" kR (ae 2)) (tC (.int 1))) (af (ae 5) (ak))))) (ak))) (aw 5)) (aB (tOp (kH) (tC (.int 2)) (ae 4)) (aw 4)))) (bO (tBM K "list" bE (ae 2) (af (bc (af (ae 4) (af (ae 5) (ak)))) (ak)))))))) (ax (bg (aP (tOp (bJ K) (tCB (bU K) (af (ae 2) (ak))) (tC (.int 0)))) (aH (cA (cr K A) (fun _=>E0) (ae 0) (af (bc (af (tC (.str "void")) (ak))) (ak)))) (ba)) (ax (aB (tOp (aA K) (iM K "list" kR (ae 2)) (tC (.int 1))) (aw 5)) (ax (fv (aP (tOp (mGt) (tCB (bU K) (af (ae 2) (ak))) (tC (.int 0)))) (aB (cA (cr K A) (fun _=>E0) (ae 0) (af (bc (af (tC (.str "joint")) (af (tOp (aA K) (iM K "list" kR (ae 2)) (tC (.int 1))) (af (ae 5) (ak))))) (ak))) (aw 5))) (aH (ae 5))))))
def Fw (K:pz)(A:Adr):TS:=aH (cA (cr K A) (fun _=>E0) (ae 0) (af (bc (af (tC (.str "row")) (af (ae 2) (af (az (mq K A) (fun _=>E0) (af (ae 0) (af (tSl (iN K) (ae 1) (eD) (gl (ae 2))) (ak)))) (ak))))) (ak)))
def Ey (K:pz)(A:Adr):TS:=lf K (ae 0) (ae 1) "answerer"
def Aw (K:pz)(A:Adr)(q0:Addr):TSM:=tZ (pH (aB (tW A.t_17 ⟨373,4,376,76⟩ dw [q0]) (aw 1))) (tU (nv A.c_Spoken (mQ K A) (fun _=>E0) (af (ae 1) (ak))))
def Fh (K:pz)(A:Adr):TS:=aH (dg (af (bc (af (tC (.str "void")) (ak))) (af (bc (af (tC (.str "row")) (af (tC (.int 0)) (af (cA (cr K A) (fun _=>E0) (ae 0) (af (bc (af (tC (.str "void")) (ak))) (ak))) (ak))))) (ak))))
def FC (K:pz)(A:Adr):TS:=aH (bc (af (tC (.int 0)) (af (cA (cr K A) (fun _=>E0) (ae 0) (af (tOp (aA K) (az (jc K A) (fun _=>E0) (af (ae 0) (ak))) (tUn fE (tC (.int 1)))) (ak))) (ak))))
def Fe (K:pz)(A:Adr):TS:=aH (kU (kf K A) A.c_Spoken "answerer" (fun _=>E0) (ae 0) (af (bc (af (tC (.str "growth")) (af (ae 1) (af (ae 2) (ak))))) (ak)))
def EK (K:pz)(A:Adr):TS:=aH (cI (tCB (gC) (af (ae 0) (af (tC (.ty "tuple")) (ak)))) (cI (tOp (bJ K) (tCB (bU K) (af (ae 0) (ak))) (tC (.int 2))) (cI (az (iX K A) (fun _=>E0) (af (tOp (aA K) (ae 0) (tC (.int 0))) (ak))) (az (gR K A) (fun _=>E0) (af (tOp (aA K) (ae 0) (tC (.int 1))) (ak))))))
def Fj (K:pz)(A:Adr):TS:=bg (eW (dZ K (az (mO K A) (fun _=>E0) (af (ae 0) (ak))))) (cX) (ba)
def Ej (K:pz)(A:Adr):TS:=ax (aB (dg (ak)) (aw 2)) (ax (aB (ae 1) (aw 3)) (ax (aB (ae 0) (aw 4)) (ax (fv (aP (dE (mLt) (mLt) (tC (.int 0)) (ae 3) (ae 4))) (ax (aB (az (gq K A) (fun _=>E0) (af (ae 4) (ak))) (aw 5)) (bg (aP (tOp (mLe) (ae 3) (ae 5))) (ax (bO (tBM K "list" bE (ae 2) (af (tC (.int 0)) (ak)))) (aB (ae 5) (aw 4))) (ax (bO (tBM K "list" bE (ae 2) (af (tC (.int 1)) (ak)))) (ax (aB (tOp (cY) (ae 3) (ae 5)) (aw 3)) (aB (tOp (cY) (ae 4) (ae 5)) (aw 4))))))) (aH (ae 2)))))
def DX (K:pz)(A:Adr):TS:=aH (cI (tCB (gC) (af (ae 1) (af (tC (.ty "tuple")) (ak)))) (cI (tOp (bJ K) (tCB (bU K) (af (ae 1) (ak))) (ae 0)) (tCB (zQ) (af (dW [] (dN K (ae 1)) (fun _ H Q=>Q true H) (az (gR K A) (fun _=>E0) (af (ae 0) (ak)))) (ak)))))
def FF (K:pz)(A:Adr):TS:=aH (mIf (aP (tOp (bJ K) (ae 0) (tC (.int 0)))) (bc (af (tC (.str "joint")) (af (ae 1) (af (ae 2) (ak))))) (bc (af (tC (.str "joint")) (af (ae 2) (af (ae 1) (ak))))))
def Eo (K:pz)(A:Adr):TS:=ax (aB (dg (ak)) (aw 4)) (ax (aB (dg (ak)) (aw 5)) (ax (aB (tOp (aA K) (ae 3) (tC (.int 0))) (aw 6)) (ax (aB (tOp (aA K) (ae 3) (tC (.int 0))) (aw 7)) (ax (ej (dN K (tOp (aA K) (ae 3) (tC (.int 1)))) (aw 8) (ax (bO (tBM K "list" bE (ae 4) (af (az (jn K A) (fun _=>E0) (af (tOp (aA K) (ae 8) (tC (.int 0))) (af (ae 6) (af (tOp (aA K) (ae 8) (tC (.int 1))) (ak))))) (ak)))) (ax (aB (cA (cr K A) (fun _=>E0) (ae 0) (af (tOp (aA K) (ae 4) (tUn fE (tC (.int 1)))) (ak))) (aw 6)) (bg (aP (tOp (bJ K) (tOp (aA K) (ae 8) (tC (.int 0))) (tC (.int 1)))) (ax (bO (tBM K "list" bE (ae 5) (af (az (jn K A) (fun _=>E0) (af (tOp (aA K) (ae 8) (tC (.int 0))) (af (ae 7) (af (tOp (aA K) (ae 8) (tC (.int 1))) (ak))))) (ak)))) (aB (cA (cr K A) (fun _=>E0) (ae 0) (af (tOp (aA K) (ae 5) (tUn fE (tC (.int 1)))) (ak))) (aw 7))) (ba))))) (ax (bO (tBM K "list" bE (ae 4) (af (bc (af (tC (.str "row")) (af (ae 1) (af (ae 6) (ak))))) (ak)))) (ax (bO (tBM K "list" bE (ae 5) (af (bc (af (tC (.str "row")) (af (ae 2) (af (ae 7) (ak))))) (ak)))) (aH (bc (af (ae 4) (af (ae 5) (ak)))))))))))
def EL (K:pz)(A:Adr):TS:=ax (aB (dg (ak)) (aw 2)) (ax (aB (tC (.int 0)) (aw 3)) (ax (aB (tOp (cY) (tCB (bU K) (af (ae 1) (ak))) (tC (.int 1))) (aw 4)) (ax (ej (dN K (ae 0)) (aw 5) (bg (aP (tOp (bJ K) (ae 5) (tC (.int 0)))) (ax (bO (tBM K "list" bE (ae 2) (af (bc (af (ae 5) (af (tOp (aA K) (ae 1) (ae 4)) (ak)))) (ak)))) (aB (tOp (cY) (ae 4) (tC (.int 1))) (aw 4))) (ax (bO (tBM K "list" bE (ae 2) (af (bc (af (ae 5) (af (tOp (aA K) (ae 1) (ae 3)) (ak)))) (ak)))) (aB (tOp (bo K) (ae 3) (tC (.int 1))) (aw 3))))) (aH (bc (af (tOp (aA K) (ae 1) (ae 3)) (af (tCB (oi K) (af (ae 2) (ak))) (ak))))))))
def yg (K:pz)(A:Adr):TS:=aH (az (mU K A) (fun _=>E0) (af (ae 0) (af (ae 1) (af (ae 2) (af (az (mT K A) (fun _=>E0) (af (ae 4) (af (ae 3) (ak)))) (ak))))))
def qU (K:pz)(A:Adr):TS:=ax (bg (aP (tOp (bJ K) (ae 2) (tC (.int 0)))) (ax (aB (mIf (aP (tOp (bJ K) (ae 1) (tC (.int 0)))) (az (jc K A) (fun _=>E0) (af (ae 0) (ak))) (dg (af (bc (af (tC (.str "row")) (af (ae 1) (af (tOp (aA K) (ae 3) (tC (.int 0))) (ak))))) (ak)))) (aw 5)) (aH (bc (af (ae 5) (af (az (jc K A) (fun _=>E0) (af (ae 0) (ak))) (ak)))))) (ba)) (yg K A)
def ET (K:pz)(A:Adr):TS:=ax (bg (eW (dZ K (az (ki K A) (fun _=>E0) (af (ae 1) (af (ae 2) (ak)))))) (cX) (ba)) (ax (aB (az (mL K A) (fun _=>E0) (af (ae 1) (af (ae 2) (ak)))) (aw 4)) (ax (bg (eW (dZ K (az (jO K A) (fun _=>E0) (af (mIf (aP (tOp (bJ K) (ae 1) (tC (.int 0)))) (tC (.int 0)) (tOp (bo K) (tCB (bU K) (af (ae 4) (ak))) (tC (.int 1)))) (af (ae 3) (ak)))))) (cX) (ba)) (qU K A)))
def DW (K:pz)(A:Adr):TS:=ax (bO (az (ko K A) (fun _=>E0) (af (ae 1) (ak)))) (ax (aB (az (jk K A) (fun _=>E0) (af (ae 0) (af (tOp (aA K) (ae 1) (tC (.int 0))) (af (ae 2) (af (ae 3) (ak)))))) (aw 4)) (ax (aB (cA (cr K A) (fun _=>E0) (ae 0) (af (tOp (aA K) (tOp (aA K) (ae 4) (tC (.int 0))) (tUn fE (tC (.int 1)))) (ak))) (aw 5)) (ax (bg (aP (tOp (gA K) (ae 5) (tOp (aA K) (ae 1) (tC (.int 1))))) (cX) (ba)) (aH (cA (cr K A) (fun _=>E0) (ae 0) (af (tOp (aA K) (tOp (aA K) (ae 4) (tC (.int 1))) (tUn fE (tC (.int 1)))) (ak)))))))
def Fc (K:pz)(A:Adr):TS:=ax (bg (aP (tOp (bJ K) (ae 2) (tOp (aA K) (ae 1) (tC (.int 0))))) (aH (tOp (aA K) (ae 1) (tC (.int 1)))) (ba)) (ax (bg (aP (tOp (bJ K) (ae 2) (tC (.int 0)))) (aH (tOp (aA K) (az (mD K A) (fun _=>E0) (af (ae 0) (ak))) (tC (.int 1)))) (ba)) (ax (aB (bq A.c_Spoken "growth" (mt K A) (fun _=>E0) (ae 3) (af (tOp (aA K) (ae 1) (tC (.int 0))) (af (ae 2) (ak)))) (aw 4)) (qk K (fun EH=>aH (az (mS K A) (fun _=>E0) (af (ae 0) (af (ae 1) (af (ae 2) (af (ae 4) (ak))))))) (qR K A.c_StampError (cX) (mI)) (ba))))
def Fg (K:pz)(A:Adr):TS:=ax (aB (dg (ak)) (aw 3)) (ax (ej (dN K (ae 1)) (jE K 2 (dI (aw 4) (dI (aw 5) jJ))) (qk K (fun EH=>bO (tBM K "list" bE (ae 3) (af (az (mE K A) (fun _=>E0) (af (ae 0) (af (ae 4) (af (ae 2) (af (ae 5) (ak)))))) (ak)))) (qR K A.c_Silent (aH (ae 3)) (mI)) (ba))) (aH (ae 3)))
def EB (K:pz)(A:Adr):TS:=aH (kU (kf K A) A.c_Spoken "answerer" (fun _=>E0) (ae 0) (af (bc (af (tC (.str "placed")) (af (ae 1) (af (ae 2) (ak))))) (ak)))
def Ex (K:pz)(A:Adr):TS:=ax (bg (mOr (eW (dZ K (tCB (gC) (af (ae 1) (af (tC (.ty "tuple")) (ak)))))) (aP (tOp (gA K) (tCB (bU K) (af (ae 1) (ak))) (tC (.int 2))))) (aH (tC (.bl false))) (ba)) (aH (cI (az (gR K A) (fun _=>E0) (af (tOp (aA K) (ae 1) (tC (.int 0))) (ak))) (az (jO K A) (fun _=>E0) (af (tCB (bU K) (af (ae 0) (ak))) (af (tOp (aA K) (ae 1) (tC (.int 1))) (ak))))))
def Et (K:pz)(A:Adr):TS:=ax (bg (eW (dZ K (az (kG K A) (fun _=>E0) (af (ae 1) (af (ae 2) (ak)))))) (cX) (ba)) (ax (aB (az (jM K A) (fun _=>E0) (af (ae 2) (af (ae 1) (ak)))) (aw 4)) (ax (bg (eW (dZ K (az (mv K A) (fun _=>E0) (af (ae 4) (af (ae 3) (ak)))))) (cX) (ba)) (ax (aB (dg (af (bc (af (tC (.str "entry")) (af (tOp (aA K) (ae 3) (tC (.int 0))) (ak)))) (ak))) (aw 5)) (ax (ej (ww K (af (tCB (nk K) (af (ae 4) (af (tOp (aA K) (ae 3) (tC (.int 1))) (ak)))) (ak))) (aw 6) (bO (tBM K "list" bE (ae 5) (af (az (jn K A) (fun _=>E0) (af (tOp (aA K) (ae 6) (tC (.int 0))) (af (cA (cr K A) (fun _=>E0) (ae 0) (af (tOp (aA K) (ae 5) (tUn fE (tC (.int 1)))) (ak))) (af (tOp (aA K) (ae 6) (tC (.int 1))) (ak))))) (ak))))) (ax (bO (tBM K "list" bE (ae 5) (af (bc (af (tC (.str "row")) (af (ae 1) (af (cA (cr K A) (fun _=>E0) (ae 0) (af (tOp (aA K) (ae 5) (tUn fE (tC (.int 1)))) (ak))) (ak))))) (ak)))) (aH (ae 5)))))))
def Ff (K:pz)(A:Adr):TS:=aH (cA (cr K A) (fun _=>E0) (ae 0) (af (tOp (aA K) (az (jd K A) (fun _=>E0) (af (ae 0) (af (ae 1) (af (ae 2) (af (ae 3) (ak)))))) (tUn fE (tC (.int 1)))) (ak)))
def Em (K:pz)(A:Adr):TS:=ax (bO (az (ko K A) (fun _=>E0) (af (ae 1) (ak)))) (ax (aB (az (mM K A) (fun _=>E0) (af (ae 0) (af (tOp (aA K) (ae 1) (tC (.int 0))) (af (ae 2) (af (ae 3) (ak)))))) (aw 4)) (ax (bg (aP (tOp (gA K) (ae 4) (tOp (aA K) (ae 1) (tC (.int 1))))) (cX) (ba)) (aH (tOp (aA K) (ae 3) (tC (.int 0))))))
def Ef (K:pz)(A:Adr):TS:=qk K (fun EH=>aH (az (km K A) (fun _=>E0) (af (ae 0) (af (ae 1) (af (ae 2) (af (ae 3) (ak))))))) (qR K A.c_StampError (aH (tC .non)) (mI)) (ba)
def Ea (K:pz)(A:Adr):TS:=ax (aB (dg (ak)) (aw 3)) (ax (aB (dg (ak)) (aw 4)) (ax (ej (dN K (ae 1)) (jE K 2 (dI (aw 5) (dI (aw 6) jJ))) (ax (aB (bq A.c_Spoken "placed" (ig K A) (fun _=>E0) (ae 6) (af (tOp (aA K) (ae 5) (tC (.int 0))) (af (ae 2) (ak)))) (aw 7)) (ax (aB (az (gU K A) (fun _=>E0) (af (ae 0) (af (ae 5) (af (ae 2) (af (ae 7) (ak)))))) (aw 8)) (ax (bg (aP (tOp (qr) (ae 8) (tC .non))) (aH (bc (af (tC (.str "silent")) (af (tCB (bU K) (af (ae 4) (ak))) (ak))))) (ba)) (ax (bO (tBM K "list" bE (ae 3) (af (ae 7) (ak)))) (bO (tBM K "list" bE (ae 4) (af (ae 8) (ak))))))))) (ax (bg (aP (tOp (bJ K) (tOp (aA K) (ae 4) (tC (.int 0))) (tOp (aA K) (ae 4) (tC (.int 1))))) (aH (bc (af (tC (.str "dark")) (ak)))) (ba)) (aH (bc (af (tC (.str "lie")) (af (ae 2) (af (tOp (aA K) (ae 3) (tC (.int 0))) (af (tOp (aA K) (ae 3) (tC (.int 1))) (ak))))))))))
def ES (K:pz)(A:Adr):TS:=ax (aB (tC (.int 0)) (aw 3)) (ax (aB (ae 2) (aw 4)) (ax (fv (aP (tOp (mGt) (tOp (cY) (ae 4) (ae 3)) (tC (.int 1)))) (ax (aB (tOp (iC) (tOp (bo K) (ae 3) (ae 4)) (tC (.int 2))) (aw 5)) (ax (aB (az (ky K A) (fun _=>E0) (af (ae 0) (af (ae 1) (af (ae 5) (ak))))) (aw 6)) (ax (bg (aP (tOp (mLt) (tCB (bU K) (af (ae 6) (ak))) (tC (.int 2)))) (aH (bc (af (tC (.str "silent")) (af (tCB (bU K) (af (ae 6) (ak))) (ak))))) (ba)) (bg (aP (tOp (bJ K) (tOp (aA K) (ae 6) (tC (.int 0))) (tOp (aA K) (ae 6) (tC (.int 1))))) (aB (ae 5) (aw 3)) (aB (ae 5) (aw 4))))))) (aH (az (mG K A) (fun _=>E0) (af (ae 0) (af (ae 1) (af (ae 3) (ak))))))))
def DZ (K:pz)(A:Adr):TS:=ax (aB (bc (af (bc (af (ae 1) (af (ae 3) (ak)))) (af (bc (af (ae 2) (af (ae 4) (ak)))) (ak)))) (aw 5)) (ax (aB (tCB (lm) (af (tOp (aA K) (ae 1) (tC (.int 0))) (af (tOp (aA K) (ae 2) (tC (.int 0))) (ak)))) (aw 6)) (ax (aB (az (ky K A) (fun _=>E0) (af (ae 0) (af (ae 5) (af (ae 6) (ak))))) (aw 7)) (ax (bg (aP (tOp (mLt) (tCB (bU K) (af (ae 7) (ak))) (tC (.int 2)))) (aH (bc (af (tC (.str "silent")) (af (tCB (bU K) (af (ae 7) (ak))) (ak))))) (ba)) (ax (bg (aP (tOp (bJ K) (tOp (aA K) (ae 7) (tC (.int 0))) (tOp (aA K) (ae 7) (tC (.int 1))))) (aH (bc (af (tC (.str "one")) (ak)))) (ba)) (aH (az (mR K A) (fun _=>E0) (af (ae 0) (af (ae 5) (af (ae 6) (ak))))))))))
def Eu (K:pz)(A:Adr):TS:=ax (aB (dg (ak)) (aw 4)) (ax (ej (fN (af (tC (.int 2)) (ak))) (aw 5) (bg (aP (dE (mLt) (mLt) (tC (.int 0)) (ae 3) (tOp (aA K) (ae 2) (ae 5)))) (ax (aB (az (jk K A) (fun _=>E0) (af (ae 0) (af (tOp (aA K) (ae 2) (ae 5)) (af (ae 3) (af (bq A.c_Row "growth_paper" (kX K A) (fun _=>E0) (tOp (aA K) (ae 1) (ae 5)) (af (tOp (aA K) (ae 2) (ae 5)) (af (ae 3) (ak)))) (ak)))))) (jE K 2 (dI (aw 6) (dI (aw 7) jJ)))) (aB (tOp (bo K) (tOp (bo K) (ae 4) (ae 6)) (ae 7)) (aw 4))) (ba))) (aH (ae 4)))
def FB (K:pz)(A:Adr):TS:=ax (aB (dg (ak)) (aw 4)) (ax (ej (fN (af (tC (.int 2)) (ak))) (aw 5) (aB (tOp (bo K) (ae 4) (az (jd K A) (fun _=>E0) (af (ae 0) (af (tOp (aA K) (ae 2) (ae 5)) (af (ae 3) (af (bq A.c_Row "place_paper" (iF K A) (fun _=>E0) (tOp (aA K) (ae 1) (ae 5)) (af (tOp (aA K) (ae 2) (ae 5)) (af (ae 3) (ak)))) (ak))))))) (aw 4))) (aH (ae 4)))
def Fp (K:pz)(A:Adr):TS:=ax (bg (mOr (eW (dZ K (tCB (gC) (af (ae 2) (af (tC (.ty "tuple")) (ak)))))) (mOr (aP (tOp (gA K) (tCB (bU K) (af (ae 2) (ak))) (tC (.int 2)))) (aP (tOp (bJ K) (tOp (aA K) (ae 2) (tC (.int 0))) (tOp (aA K) (ae 2) (tC (.int 1))))))) (aH (tC (.bl false))) (ba)) (ax (bg (mOr (aP (tOp (gG K) (tOp (aA K) (ae 2) (tC (.int 0))) (ae 1))) (aP (tOp (gG K) (tOp (aA K) (ae 2) (tC (.int 1))) (ae 1)))) (aH (tC (.bl false))) (ba)) (aH (tOp (bJ K) (cA (cr K A) (fun _=>E0) (ae 0) (af (tOp (aA K) (ae 2) (tC (.int 0))) (ak))) (cA (cr K A) (fun _=>E0) (ae 0) (af (tOp (aA K) (ae 2) (tC (.int 1))) (ak))))))
def Ei (K:pz)(A:Adr):TS:=ax (aB (nY) (aw 2)) (ax (ej (dN K (ae 1)) (aw 3) (ax (aB (tBM K "dict" oU (ae 2) (af (cA (cr K A) (fun _=>E0) (ae 0) (af (ae 3) (ak))) (af (ae 3) (ak)))) (aw 4)) (bg (aP (tOp (gA K) (ae 4) (ae 3))) (aH (bc (af (ae 4) (af (ae 3) (ak))))) (ba)))) (aH (tC .non)))
def yb (K:pz)(A:Adr):TS:=aH (cI (tOp (bJ K) (ae 1) (bc (af (tC (.str "dark")) (ak)))) (az (mw K A) (fun _=>E0) (af (ae 0) (af (ae 7) (af (az (mC K A) (fun _=>E0) (af (ae 0) (af (ae 7) (ak)))) (ak))))))
def yk (K:pz)(A:Adr):TS:=ax (aB (tOp (bo K) (ae 7) (az (mJ K A) (fun _=>E0) (af (ae 0) (af (ae 3) (af (ae 4) (af (ae 5) (ak))))))) (aw 7)) (yb K A)
def so (K:pz)(A:Adr):TS:=ax (bg (aP (tOp (gA K) (tOp (aA K) (tOp (aA K) (ae 2) (tC (.int 0))) (ae 5)) (tOp (aA K) (tOp (aA K) (ae 2) (tC (.int 1))) (ae 5)))) (ax (aB (dW [3,4,5] (fN (af (tC (.int 2)) (ak))) (fun _ H Q=>Q true H) (bq A.c_Row "place_paper" (iF K A) (fun _=>E0) (tOp (aA K) (ae 1) (ae 0)) (af (tOp (aA K) (ae 2) (ae 0)) (af (ae 3) (ak))))) (aw 9)) (aH (tOp (bJ K) (ae 1) (bc (af (tC (.str "lie")) (af (ae 5) (af (tOp (aA K) (ae 9) (tC (.int 0))) (af (tOp (aA K) (ae 9) (tC (.int 1))) (ak))))))))) (ba)) (yk K A)
def EX (K:pz)(A:Adr):TS:=ax (aB (tC (.int 0)) (aw 5)) (ax (aB (tCB (lm) (af (tOp (aA K) (ae 4) (tC (.int 0))) (af (tOp (aA K) (ae 4) (tC (.int 1))) (ak)))) (aw 6)) (ax (bg (aP (tOp (bJ K) (az (fH K A) (fun _=>E0) (af (ae 0) (af (tOp (aA K) (ae 2) (tC (.int 0))) (af (ae 6) (ak))))) (az (fH K A) (fun _=>E0) (af (ae 0) (af (tOp (aA K) (ae 2) (tC (.int 1))) (af (ae 6) (ak))))))) (aH (tOp (bJ K) (ae 1) (bc (af (tC (.str "one")) (ak))))) (ba)) (ax (aB (az (jR K A) (fun _=>E0) (af (ae 0) (af (ae 3) (af (ae 4) (af (ae 6) (ak)))))) (aw 7)) (ax (fv (aP (tOp (mGt) (tOp (cY) (ae 6) (ae 5)) (tC (.int 1)))) (ax (aB (tOp (iC) (tOp (bo K) (ae 5) (ae 6)) (tC (.int 2))) (aw 8)) (ax (aB (tOp (bo K) (ae 7) (az (jR K A) (fun _=>E0) (af (ae 0) (af (ae 3) (af (ae 4) (af (ae 8) (ak))))))) (aw 7)) (bg (aP (tOp (bJ K) (az (fH K A) (fun _=>E0) (af (ae 0) (af (tOp (aA K) (ae 2) (tC (.int 0))) (af (ae 8) (ak))))) (az (fH K A) (fun _=>E0) (af (ae 0) (af (tOp (aA K) (ae 2) (tC (.int 1))) (af (ae 8) (ak))))))) (aB (ae 8) (aw 5)) (aB (ae 8) (aw 6)))))) (so K A)))))
def jh (K:pz)(A:Adr):TS:=aH (cI (tOp (bJ K) (tSl (iN K) (ae 10) (eD) (gl (tC (.int 2)))) (tSl (iN K) (ae 9) (eD) (gl (tC (.int 2))))) (tOp (bJ K) (tCB (wf K) (af (tSl (iN K) (ae 10) (gl (tC (.int 2))) (eD)) (ak))) (tCB (lF K) (af (tSl (iN K) (ae 9) (gl (tC (.int 2))) (eD)) (ak)))))
def xF (K:pz)(A:Adr):TS:=ax (aB (az (jY K A) (fun _=>E0) (af (ae 3) (af (tOp (aA K) (ae 7) (tC (.int 1))) (af (tOp (aA K) (ae 7) (tC (.int 0))) (af (tOp (aA K) (ae 8) (tC (.int 1))) (af (tOp (aA K) (ae 8) (tC (.int 0))) (ak))))))) (aw 10)) (jh K A)
def xj (K:pz)(A:Adr):TS:=ax (bg (eW (dZ K (az (mK K A) (fun _=>E0) (af (ae 3) (af (ae 9) (af (ae 4) (af (ae 5) (af (ae 6) (ak))))))))) (aH (tC (.bl false))) (ba)) (xF K A)
def sr (K:pz)(A:Adr):TS:=ax (aB (az (jY K A) (fun _=>E0) (af (ae 3) (af (tOp (aA K) (ae 7) (tC (.int 0))) (af (tOp (aA K) (ae 7) (tC (.int 1))) (af (tOp (aA K) (ae 8) (tC (.int 0))) (af (tOp (aA K) (ae 8) (tC (.int 1))) (ak))))))) (aw 9)) (xj K A)
def qZ (K:pz)(A:Adr):TS:=ax (aB (dW [] (dN K (ae 5)) (fun _ H Q=>Q true H) (az (fJ K A) (fun _=>E0) (af (ae 0) (ak)))) (aw 8)) (sr K A)
def sD (K:pz)(A:Adr):TS:=ax (aB (dW [3,4,6] (fN (af (tC (.int 2)) (ak))) (fun _ H Q=>Q true H) (bc (af (tOp (aA K) (ae 3) (ae 0)) (af (az (fH K A) (fun _=>E0) (af (ae 1) (af (tOp (aA K) (ae 2) (ae 0)) (af (tOp (aA K) (ae 3) (ae 0)) (ak))))) (ak))))) (aw 7)) (qZ K A)
def re (K:pz)(A:Adr):TS:=ax (aB (dW [0,4] (fN (af (tC (.int 2)) (ak))) (fun _ H Q=>Q true H) (tOp (bo K) (tC (.int 1)) (tOp (fg) (az (dU K A) (fun _=>E0) (af (ae 1) (af (tOp (bo K) (tC (.int 4)) (ae 0)) (ak)))) (tCB (bU K) (af (tOp (aA K) (ae 2) (ae 0)) (ak)))))) (aw 6)) (sD K A)
def sR (K:pz)(A:Adr):TS:=ax (aB (dW [3] (dN K (ae 4)) (fun _ H Q=>Q true H) (az (iW K A) (fun _=>E0) (af (ae 1) (af (ae 0) (ak))))) (aw 5)) (re K A)
def ze (K:pz)(A:Adr):TS:=ax (aB (az (mo K A) (fun _=>E0) (af (ae 0) (ak))) (aw 4)) (sR K A)
def sH (K:pz)(A:Adr):TS:=ax (aB (az (mx K A) (fun _=>E0) (af (ae 2) (ak))) (aw 3)) (ze K A)
def Fx (K:pz)(A:Adr):TS:=ax (aB (az (dU K A) (fun _=>E0) (af (ae 0) (af (tC (.int 0)) (ak)))) (aw 1)) (ax (aB (tOp (bo K) (tC (.int 1)) (tOp (fg) (ae 1) (tC (.int 9)))) (aw 2)) (ax (bg (aP (tOp (bJ K) (tOp (fg) (tOp (iC) (ae 1) (tC (.int 9))) (tC (.int 4))) (tC (.int 3)))) (aB (tC (.int 10007)) (aw 2)) (ba)) (sH K A)))
variable {K:pz}{mg:Str→Option tx}{A:Adr}
def tyD:Dat→String
 |.non=>"NoneType"
 |.bl _=>"bool"
 |.int _=>"int"
 |.str _=>"str"
 |.lst _=>"list"
 |.tup _=>"tuple"
 |.dic=>"dict"
theorem dC.ty {H:Hp}{v:V}{d:Dat}(h:dC H v d):tyN H v=some (tyD d):=by
 cases h with
 |lst e _=>unfold tyN;dsimp only;rw[e];rfl
 |tup e _=>unfold tyN;dsimp only;rw[e];rfl
 |dic e=>unfold tyN;dsimp only;rcases e with⟨kvs,e⟩|⟨kvs,e⟩<;>rw[e]<;>rfl
 |_=>rfl
theorem nw {z:Str}(h:lw z=true):JF z=true:=by
 unfold JF
 unfold lw at h
 rw[Array.all_eq_true]at h⊢
 intro i hi
 have:=of_decide_eq_true (h i hi)
 exact decide_eq_true (by omega)
theorem ixT {K:pz}{H:Hp}{Q:VK}{a:Addr}{xs:List V}{x:V}{i:Int}{j:Nat}(ha:H a=some (.tup xs))(e:i=j)(hx:xs[j]?=some x)(q:Q x H):aA K (.ref a) (.int i) H Q:=by
 subst e
 refine .inl (.inr (.inl ⟨a,xs,j,x,rfl,rfl,SqT.of ha,?_,q⟩))
 have hj:=(FN.mp hx).1
 rw[rR (by omega) (by omega)]
 simp[Gp,hx]
theorem yR (K:pz)(A:Adr):Ln (gX K A) 1:=by rintro vs H Q E ⟨v,d,rfl,_⟩;rfl
theorem BU (T:Txt K mg A)(vs:List V)(H:Hp)(Q:VK)(E:XK)(h:gX K A vs H Q E):DO K A {nx:=fun _ H'=>Q .non H',rt:=Q} (cJ ["thing"] vs) H:=by
 obtain⟨v,d,rfl,w,q⟩:=h
 refine⟨by decide,_,w.ty,?_⟩
 cases d
 case int i=>exact Sel.yes rfl ⟨by decide,_,w.ty,q⟩
 case bl b=>exact Sel.yes rfl ⟨by decide,_,w.ty,q⟩
 all_goals exact Sel.no rfl q
theorem yo (K:pz)(A:Adr):Ln (gR K A) 1:=by rintro vs H Q E ⟨v,d,rfl,_⟩;rfl
theorem BD (T:Txt K mg A)(vs:List V)(H:Hp)(Q:VK)(E:XK)(h:gR K A vs H Q E):Ee K A {nx:=fun _ H'=>Q .non H',rt:=Q} (cJ ["thing"] vs) H:=by
 obtain⟨v,d,rfl,w,q⟩:=h
 refine⟨v,d,rfl,w,?_⟩
 cases w with
 |int i=>
  refine Sel.yes rfl (Sel.dec (fun h0=>⟨⟨by decide,by decide,by decide⟩,?_⟩) (fun h0=>?_))
  ·show Q (.bl (decide (i<10^((60:Int).toNat)))) H
   have e:io (.int i)=decide (i<10^((60:Int).toNat)):=by
    show decide (0≤i∧i<10^60)=decide (i<10^60)
    by_cases h1:i<10^60
    ·rw[decide_eq_true h1,decide_eq_true ⟨h0,h1⟩]
    ·rw[decide_eq_false h1,decide_eq_false fun z=>h1 z.2]
   rw[←e];exact q
  ·have e:io (.int i)=false:=decide_eq_false fun z=>h0 z.1
   rw[←e];exact q
 |non=>exact Sel.no rfl ⟨by decide,_,rfl,q⟩
 |bl b=>exact Sel.no rfl ⟨by decide,_,rfl,q⟩
 |str z=>exact Sel.no rfl ⟨by decide,_,rfl,q⟩
 |lst e r=>exact Sel.no rfl ⟨by decide,_,(dC.lst e r).ty,q⟩
 |tup e r=>exact Sel.no rfl ⟨by decide,_,(dC.tup e r).ty,q⟩
 |dic e=>exact Sel.no rfl ⟨by decide,_,(dC.dic e).ty,q⟩
theorem zM (H:Hp)(m:Key):dC H (kV m) (qS m):=by cases m<;>constructor
theorem fc {K:pz}{H:Hp}{Q:VK}{a b:Key}(q:Q (.bl (decide (a=b))) H):bJ K (kV a) (kV b) H Q:=by
 cases a<;>cases b
 ·rename_i i j
  have e:decide ((Iv i:Key)=Iv j)=decide (i=j):=by simp
  rw[e]at q;exact q
 ·have e:∀(i:Int)(j:Str),decide ((Iv i:Key)=Iu j)=false:=by simp
  rw[e]at q;exact q
 ·have e:∀(i:Int)(j:Str),decide ((Iu j:Key)=Iv i)=false:=by simp
  rw[e]at q;exact q
 ·rename_i i j
  have e:decide ((Iu i:Key)=Iu j)=decide (i=j):=by simp
  rw[e]at q;exact q
theorem ia {K:pz}{H:Hp}{Q:VK}{a:Key}(q:Q (.bl false) H):gA K (kV a) (kV a) H Q:=by
 cases a
 ·rename_i i
  have e:(!decide (i=i))=false:=by simp
  rw[←e]at q;exact q
 ·rename_i i
  have e:(!decide (i=i))=false:=by simp
  rw[←e]at q;exact q
theorem cT {H:Hp}{ps:List Addr}{ts:List (List Key)}(h:PK H ps ts):ps.length=ts.length:=Paired.length h
theorem wW {k:List Key}(h:okT k=true):k.all okP=true:=by
 unfold okT at h
 rw[Hu]at h
 exact h.2
theorem oY {k:List Key}{x:Key}(h:okT k=true)(hx:x∈k):okP x=true:=Ht.mp (wW h) x hx
theorem cp.trans {P:Addr}{H H1 H2:Hp}(a:cp P H H1)(b:cp P H1 H2):cp P H H2:=fun x o e n=>b x o (a x o e n) n
theorem cp.new {P p:Addr}{H:Hp}{o:HO}(h:H p=none):cp P H (upd H p o):=fun b u e _=>by rw[al (aq e h)];exact e
theorem cp.tab {P:Addr}{H:Hp}{o:HO}:cp P H (upd H P o):=fun b u e n=>by rw[al n];exact e
theorem dY {H:Hp}{P q:Addr}{o:HO}(hP:H P=some o)(hq:H q=none):q≠P:=fun e=>by rw[e,hP]at hq;cases hq
theorem bu {H:Hp}{p q:Addr}{o:HO}(h:upd H p o q=none):q≠p∧H q=none:=by
 by_cases e:q=p
 ·subst e;rw[aj]at h;cases h
 ·rw[al e]at h;exact⟨e,h⟩
theorem CV {H:Hp}{P c f q:Addr}{o1 o2:HO}{t:dj}{v:V}(hP:H P=some o1)(hc:H c=none)(hf:H f=none)(hne:c≠f)(hq:upd (upd (upd H P o2) c (dz c t.qual)) f (dO f t [q] c) q=none):
  cp P H (upd (upd (upd (upd H P o2) c (dz c t.qual)) f (dO f t [q] c)) q (cG q v))∧cQ (upd (upd (upd (upd H P o2) c (dz c t.qual)) f (dO f t [q] c)) q (cG q v)) f t [q] [v]:=by
 have c1:upd H P o2 c=none:=by rw[al (dY hP hc)];exact hc
 have f1:upd (upd H P o2) c (dz c t.qual) f=none:=by rw[al (Gt hne),al (dY hP hf)];exact hf
 have S3:=cp.new (P:=P) (o:=cG q v) hq
 have S2:=(cp.new (P:=P) (o:=dO f t [q] c) f1).trans S3
 have S1:=(cp.new (P:=P) (o:=dz c t.qual) c1).trans S2
 exact⟨cp.tab.trans S1,⟨⟨c,S3 _ _ aj (dY hP hf),S2 _ _ aj (dY hP hc)⟩,.cons aj .nil⟩⟩
theorem yB {x:Int}(h:x.natAbs<2^64):Hy x≤64:=by
 unfold Hy
 split
 ·decide
 ·rename_i hx
  have hx:x≠0:=by simpa using hx
  have:x.natAbs.log2<64:=(KY (by omega)).mpr h
  omega
theorem DK {x y:Int}(h0:0≤x)(h:x<2^64):IntMulOk x y:=Km (yB (by omega))
theorem Cf (T:Txt K mg A)(a0 b0:V)(H:Hp)(Q:VK)(E:XK)(h:qQ K A [a0,b0] H Q E):Am K A {nx:=fun _ H'=>Q .non H',rt:=Q} (eQ ["_law_term","_law_total","_law_part","_law_many"] [a0] [b0]) H:=by
 obtain⟨p,m,k,e,h1,h2,hp,ok,q⟩:=h
 cases e
 refine .inl (.inr (.inl ⟨_,SqT.of hp,?_⟩))
 refine⟨p,rfl,.inr ⟨⟨_,SqT.of hp⟩,?_⟩⟩
 rw[FH]
 refine kJ (xs:=k.map kV) (fun i σ H'=>H'=H∧∃x2,σ=[some (.ref p),some (.int ((k.take i).foldl gZ k.length)),x2,some (.int m)]) ⟨rfl,none,rfl⟩ ?_ ?_ ?_
 ·rintro i σ _ _ ⟨rfl,_⟩;exact SqT.of hp
 ·rintro i x σ _ hx ⟨rfl,x2,rfl⟩
  obtain⟨kk,hk,rfl⟩:=eF hx
  have okk:okP kk=true:=oY ok (Ga hk)
  have st:=pK gZ (k.length:Int) k i kk hk
  cases kk with
  |inl n=>
   refine⟨by decide,"int",rfl,Sel.no rfl ⟨Km (by decide),rfl,some (.int n),?_⟩⟩
   rw[st];rfl
  |inr z=>
   refine⟨by decide,"str",rfl,Sel.yes rfl ⟨Km (by decide),?_⟩⟩
   obtain⟨hz,hl⟩:=FP.mp okk
   have hl:=of_decide_eq_true hl
   refine .inl ⟨aG (by omega),rfl,some (.str z),?_⟩
   rw[st];rfl
 ·rintro σ _ ⟨rfl,x2,rfl⟩
  have e:k.take (k.map kV).length=k:=by rw[FH,GZ]
  rw[e]
  exact⟨by omega,q⟩
theorem Sub.rfl' {g:GK}:Sub g g:=fun _ _ e=>e
theorem Sub.trans {g g1 g2:GK}(a:Sub g g1)(b:Sub g1 g2):Sub g g2:=fun k v e=>b k v (a k v e)
theorem Ext.of {g g':GK}{h:List Key→Key}(s:Sub g g')(e:Ext g' h):Ext g h:=fun k v z=>e k v (s k v z)
theorem kW (kvs:List (List Key×Key))(k:List Key):bT (de kvs) k=(fD kvs k).map kV:=by
 unfold bT de fD
 rw[List.find?_map]
 simp only[Option.map_map]
 congr 1
theorem m0 {x:dj×Sp}{l:List (dj×Sp)}:x∈x::l:=Gu
theorem aR.trans {b:Addr}{H H1 H2:Hp}(a:aR b H H1)(c:aR b H1 H2):aR b H H2:=fun x o n e=>c x o n (a x o n e)
theorem aR.same {b:Addr}{H H':Hp}(S:au H H'):aR b H H':=fun x o _ e=>S x o e
theorem zl (K:pz)(A:Adr):Ln (mx K A) 1:=by rintro vs H Q E ⟨m,rfl,_⟩;rfl
theorem Bz (T:Txt K mg A)(q0:Addr)(hnd:([q0]:List Addr).Nodup)(vs:List V)(H:Hp)(Q:VK)(E:XK)(h:mx K A vs H Q E):xX K A q0 {nx:=fun σ H'=>(∀p∈([(0,q0)]:List (Nat×Addr)),H' p.2=none)→Q .non (dm [(0,q0)] σ H'),rt:=fun σ v H'=>(∀p∈([(0,q0)]:List (Nat×Addr)),H' p.2=none)→Q v (dm [(0,q0)] σ H')} (L2.cJ ["_law_many","_law_stamp"] vs) H:=by
 obtain⟨m,rfl,m1,m2,hP,q⟩:=h
 refine⟨#[],hP,trivial,.inl ⟨rfl,fun c f hc hf hne hq=>?_⟩⟩
 obtain⟨k,ca⟩:=CV (v:=.int m) hP hc hf hne (hq _ (FU.mpr rfl))
 exact q f q0 _ k ca
theorem Stp.clo {H:Hp}{f b:Addr}{g:GK}{n:Nat}(s:Stp A H f b g n):∃ts∈cr K A,∃cs cvs,cQ H f ts.1 cs cvs:=by
 cases s with
 |wea _ _ _ _ hc=>exact⟨_,m0,_,_,hc⟩
theorem Stp.keep {H H':Hp}{f b:Addr}{g:GK}{n m:Nat}(s:Stp A H f b g n)(hn:n≤m)(k:∀z o,H z=some o→(∀xs,o≠.lst xs)→(∀ps,o≠.tbl ps)→(z=b∨∀kvs,o≠.dT kvs)→H' z=some o):Stp A H' f b g m:=by
 have kx:∀z φ,H z=some (.ext φ)→H' z=some (.ext φ):=fun z φ e=>k z _ e (fun _ z=>nomatch z) (fun _ z=>nomatch z) (.inr fun _ z=>nomatch z)
 cases s with
 |wea q m h1 h2 hc hb hg=>exact .wea q m h1 h2 (hc.keep kx) (hb.imp fun y e=>k _ _ e (fun _ z=>nomatch z) (fun _ z=>nomatch z) (.inr fun _ z=>nomatch z)) hg
theorem Stp.same {H H':Hp}{f b:Addr}{g:GK}{n m:Nat}(s:Stp A H f b g n)(hn:n≤m)(S:au H H'):Stp A H' f b g m:=s.keep hn fun b o e _ _ _=>S b o e
theorem Stp.any {H:Hp}{f b:Addr}{g:GK}{n m:Nat}(s:Stp A H f b g n):Stp A H f b g m:=by
 cases s with
 |wea q m h1 h2 hc hb hg=>exact .wea q m h1 h2 hc hb hg
theorem bV {H:Hp}{f b p:Addr}{g:List Key→Option Key}{n:Nat}{k:List Key}{R:VK}(s:Stp A H f b g n)(hn:n≤45000)(hp:H p=some (.tup (k.map kV)))(ok:okT k=true)
  (q:∀(v:Key)(H':Hp)(g':List Key→Option Key),aR b H H'→Stp A H' f b g' (n+1)→Sub g g'→g' k=some v→iG k v→R (kV v) H'):jV (cr K A) f [.ref p] H R E0:=by
 have s0:=s
 cases s with
 |wea c m h1 h2 hc hb hg=>
  refine⟨_,m0,_,_,hc,rfl,p,m,k,rfl,h1,h2,hc.cells.hide hp (fun _ z=>nomatch z),ok,?_⟩
  have S:=au.hide [c] (.refl (bB [c] H))
  have r0:=Ji (k.foldl gZ k.length) (b:=m) (by omega)
  have r1:=IF (k.foldl gZ k.length) (b:=m) (by omega)
  have p60:(10007:Int)<10^60:=by decide+kernel
  exact q (jq m k) _ g (aR.same S) (s0.same (IN _) S) Sub.rfl' (by rw[hg]) (show 0≤_∧_<_ from⟨r0,by omega⟩)
theorem be {n:Nat}(h:2≤n):1≤ag n∧ag n<n:=by
 unfold ag
 have h1:=Ni (n:=n- 1) (by omega)
 exact⟨MI,by omega⟩
theorem lT (h:List Key→Key):∀(n m:Nat)(es:List Key),es.length≤n→es.length≤m→gb h n es=gb h m es:=by
 intro n
 induction n with
 |zero=>
  intro m es h1 h2
  cases es with
  |nil=>cases m<;>rfl
  |cons a r=>simp at h1
 |succ n ih=>
  intro m es h1 h2
  cases m with
  |zero=>
   cases es with
   |nil=>rfl
   |cons a r=>simp at h2
  |succ m=>
   match es,h1,h2 with
   |[],_,_=>rfl
   |[e],_,_=>rfl
   |a::b::r,h1,h2=>
    have hl:2≤(a::b::r).length:=by simp
    obtain⟨g1,g2⟩:=be hl
    show[_,h (gb h n ((a::b::r).take _)),h (gb h n ((a::b::r).drop _))]=[_,h (gb h m _),h (gb h m _)]
    rw[ih m _ (by rw[FJ];omega) (by rw[FJ];omega),ih m _ (by rw[FS];omega) (by rw[FS];omega)]
theorem dG (h:List Key→Key){es:List Key}(hl:2≤es.length):bA h es=[.inr "joint",h (bA h (es.take (ag es.length))),h (bA h (es.drop (ag es.length)))]:=by
 obtain⟨g1,g2⟩:=be hl
 unfold bA
 match es,hl with
 |a::b::r,hl=>
  show[_,h (gb h ((b::r).length) ((a::b::r).take _)),h (gb h ((b::r).length) ((a::b::r).drop _))]=_
  have e:(a::b::r).length=(b::r).length+1:=rfl
  rw[lT h ((b::r).length) ((a::b::r).take (ag (a::b::r).length)).length _ (by rw[FJ];omega) (gV _),lT h ((b::r).length) ((a::b::r).drop (ag (a::b::r).length)).length _ (by rw[FS];omega) (gV _)]
theorem jC {a c:Nat}(h1:1≤c)(h2:c≤2^a):ag (2^a+c)=2^a:=by
 unfold ag
 congr 1
 have hp:0<2^a:=Jh a
 have e1:2^(a+1)=2^a+2^a:=by rw[Jr];omega
 have n0:2^a+c- 1≠0:=by omega
 have lo:a≤ID (2^a+c- 1):=(Nat.le_log2 n0).mpr (by omega)
 have hi:ID (2^a+c- 1)<a+1:=(KY n0).mpr (by omega)
 omega
theorem dL (h:List Key→Key){s c:List Key}{a:Nat}(hs:s.length=2^a)(h1:1≤c.length)(h2:c.length≤s.length):bA h (s++c)=[.inr "joint",h (bA h s),h (bA h c)]:=by
 have hp:0<2^a:=Jh a
 have hl:(s++c).length=2^a+c.length:=by rw[pv,hs]
 rw[dG h (by omega),hl,jC h1 (by omega),←hs,List.take_left,List.drop_left]
structure eJ (segs:List (List Key)):Prop where
 pw:∀s∈segs,∃a,s.length=2^a
 fall:segs.Pairwise fun s t=>t.length<s.length
theorem eJ.nil:eJ []:=⟨(fun _ h=>nomatch h),.nil⟩
theorem wY {a b:Nat}(h:2^a<2^b):2^a+2^a≤2^b:=by
 have:a<b:=(Lv (by decide)).mp h
 have e:2^(a+1)=2^a+2^a:=by rw[Jr];omega
 have:=Mo (n:=2) (by decide) (show a+1≤b from this)
 omega
theorem eJ.init {segs:List (List Key)}{s:List Key}(p:eJ (segs++[s])):eJ segs∧(∃a,s.length=2^a)∧∀t∈segs,s.length+s.length≤t.length:=by
 have pf:=JT.mp p.fall
 refine⟨⟨fun t ht=>p.pw t (Hz _ ht),pf.1⟩,p.pw s (Gz _ Gu),fun t ht=>?_⟩
 have hlt:=pf.2.2 t ht s Gu
 obtain⟨a,ea⟩:=p.pw s (Gz _ Gu)
 obtain⟨b,eb⟩:=p.pw t (Hz _ ht)
 rw[ea,eb]at hlt⊢
 exact wY hlt
theorem eJ.push {segs:List (List Key)}{s:List Key}(p:eJ segs)(ha:∃a,s.length=2^a)(h:∀t∈segs,s.length<t.length):eJ (segs++[s]):=by
 refine⟨fun t ht=>?_,JT.mpr ⟨p.fall,.cons (fun _ z=>nomatch z) .nil,fun t ht u hu=>?_⟩⟩
 ·rcases Gs.mp ht with z|z
  ·exact p.pw t z
  ·rw[FU.mp z];exact ha
 ·rw[FU.mp hu];exact h t ht
theorem nD {H:Hp}(x:Key):dC H (kV x) (qS x):=by
 cases x with
 |inl i=>exact .int i
 |inr z=>exact .str z
theorem ixL {K:pz}{H:Hp}{Q:VK}{a:Addr}{xs:List V}{x:V}{i:Int}{j:Nat}(ha:H a=some (.lst xs))(e:i=j)(hx:xs[j]?=some x)(q:Q x H):aA K (.ref a) (.int i) H Q:=by
 subst e
 refine .inl (.inl ⟨a,xs,j,x,rfl,rfl,SqL.of ha,?_,q⟩)
 have hj:=(FN.mp hx).1
 rw[rR (by omega) (by omega)]
 simp[Gp,hx]
theorem gi {e:Key}(h:okP e=true):io (qS e)=true:=by
 cases e with
 |inl i=>exact h
 |inr z=>rfl
theorem yO (K:pz)(A:Adr):Ln (gq K A) 1:=by rintro vs H Q E ⟨m,rfl,_⟩;rfl
theorem CD (T:Txt K mg A):Rd (gq K A) (DQ K A) ["many"]:=by
 intro vs H Q E h
 obtain⟨m,rfl,h2,h60,q⟩:=h
 have e:(Hy ((m:Int)- 1):Int)- 1=((ID (m- 1):Nat):Int):=by
  unfold Hy
  rw[if_neg (by simp;omega)]
  have:((m:Int)- 1).natAbs=m- 1:=by omega
  rw[this];omega
 have hl:ID (m- 1)<60:=by
  have h1:=Ni (n:=m- 1) (by omega)
  exact(Lv (by decide:1<2)).mp (by omega:2^ID (m- 1)<2^60)
 refine⟨rfl,?_⟩
 show((0≤(Hy ((m:Int)- 1):Int)- 1∧_∧_)∧Q (.int (1*2^((Hy ((m:Int)- 1):Int)- 1).toNat)) H)
 rw[e]
 refine⟨⟨by omega,by omega,by decide⟩,?_⟩
 rw[Int.one_mul,Im,←BF]
 exact q
theorem yT (K:pz)(A:Adr):Ln (iX K A) 1:=by rintro vs H Q E ⟨i,rfl,_⟩;rfl
theorem Dn (T:Txt K mg A):Rd (iX K A) (FG K A) ["thing"]:=by
 intro vs H Q E h
 obtain⟨i,rfl,h0,h1,q⟩:=h
 refine⟨_,_,rfl,.int i,Sel.t (Sel.yes (decide_eq_true h0) ⟨by decide,?_⟩)⟩
 have e:decide (i<1*2^(60:Int).toNat)=true:=decide_eq_true (by show i<1*2^60;omega)
 show Q (.bl (decide (i<1*2^(60:Int).toNat))) H
 rw[e];exact q
theorem xP (K:pz)(A:Adr):Ln (kG K A) 2:=by rintro vs H Q E ⟨i,j,rfl,_⟩;rfl
theorem AV (T:Txt K mg A):Rd (kG K A) (DN K A) ["count","place"]:=by
 intro vs H Q E h
 obtain⟨c,p,rfl,h0,h1,h2,q⟩:=h
 refine⟨c,rfl,by omega,h2,Sel.t ⟨_,_,rfl,.int p,Sel.t (Sel.yes (decide_eq_true h0) ?_)⟩⟩
 show Q (.bl (decide (p<c))) H
 rw[decide_eq_true h1];exact q
theorem Ak (K:pz)(A:Adr):Ln (ki K A) 2:=by rintro vs H Q E ⟨i,j,rfl,_⟩;rfl
theorem DE (T:Txt K mg A):Rd (ki K A) (Es K A) ["count","elder"]:=by
 intro vs H Q E h
 obtain⟨c,p,rfl,h0,h1,h2,q⟩:=h
 refine⟨c,rfl,by omega,h2,Sel.t ⟨_,_,rfl,.int p,Sel.t (Sel.yes (decide_eq_true h0) ?_)⟩⟩
 show Q (.bl (decide (p≤c))) H
 rw[decide_eq_true h1];exact q
theorem yN (K:pz)(A:Adr):Ln (dU K A) 2:=by rintro vs H Q E ⟨a,ns,k,rfl,_⟩;rfl
theorem CQ (T:Txt K mg A):Rd (dU K A) (Fl K A) ["_law_script","_law_k"]:=by
 intro vs H Q E h
 obtain⟨a,ns,k,rfl,hs,h0,q⟩:=h
 refine .inl (.inl ⟨_,hs,Sel.dec (fun h=>?_) (fun h=>q 0)⟩)
 obtain⟨v,hv⟩:=Af h0 h
 obtain⟨j,_,hj,_⟩:=jb hv
 obtain⟨z,_,rfl⟩:=eF hj
 exact .inl (.inl ⟨a,_,k,_,rfl,rfl,hs,hv,q z⟩)
theorem Dl (K:pz)(A:Adr):Ln (qJ K A) 2:=by rintro vs H Q E ⟨x,dx,f,rfl,_⟩;rfl
theorem Eb (T:Txt K mg A):Rd (qJ K A) (T_0 K A) ["self","stamper"]:=by
 intro vs H Q E h
 obtain⟨x,dx,f,rfl,hx,q⟩:=h
 refine⟨x,A.c_Row,dx,[],rfl,hx,T.cl_Row,T.na_Row_stamper,by decide,Gc _,fun L hL=>?_⟩
 obtain⟨Lx,hL⟩:=bu hL
 refine⟨x,A.c_Row,dx,_,rfl,by rw[al (Gt Lx)];exact aj,T.cl_Row,T.na_Row_entries,by show 1<1000;decide,.inr fun D hD=>?_⟩
 obtain⟨Dx,hD⟩:=bu hD
 obtain⟨DL,hD⟩:=bu hD
 obtain⟨_,hD⟩:=bu hD
 refine⟨x,A.c_Row,dx,_,rfl,by rw[al (Gt Dx)];exact aj,T.cl_Row,T.na_Row_tops,by show 2<1000;decide,q L D _ (fun z o zx e=>?_) hL hD (Gt DL) aj ?_ ?_⟩
 ·rw[al zx,al (aq e hD),al zx,al (aq e hL),al zx];exact e
 ·rw[al Lx,al (Gt DL),al Lx];exact aj
 ·rw[al Dx];exact aj
theorem Be (K:pz)(A:Adr):Ln (qT K A) 2:=by rintro vs H Q E ⟨x,f,L,D,es,kvs,e,rfl,_⟩;rfl
theorem El (T:Txt K mg A):Rd (qT K A) (T_1 K A) ["self","entry"]:=by
 intro vs H Q E h
 obtain⟨x,f,L,D,es,kvs,e,rfl,r,en,le,q⟩:=h
 obtain⟨dx,hx⟩:=r.ob
 have q:Q (.int (es.length:Int)) (upd H L (.lst (es.map kV++[kV e]))):=by
  rw[Gb]at q;exact q
 refine⟨_,_,rfl,nD e,Sel.no (by rw[gi en.1];rfl) ⟨x,A.c_Row,dx,_,.ref L,rfl,hx,T.cl_Row,T.na_Row_entries,rfl,.inl ⟨rfl,_,SqL.of r.hl⟩,L,_,_,rfl,rfl,r.hl,?_,?_⟩⟩
 ·rw[FH];exact Ge le (aG (by decide))
 ·have hL:x≠L:=aL hx r.hl (fun z=>nomatch z)
  refine⟨x,A.c_Row,dx,_,.ref L,rfl,by rw[al hL];exact hx,T.cl_Row,T.na_Row_entries,rfl,.inl (.inl ⟨_,SqL.of aj,?_⟩)⟩
  have e:(((es.map kV++[kV e]).length:Nat):Int)- 1=(es.length:Int):=by simp
  show Q (.int ((((es.map kV++[kV _]).length:Nat):Int)- 1)) _
  rw[e];exact q
theorem Cr (K:pz)(A:Adr):Ln (nU K A) 1:=by rintro vs H Q E ⟨x,f,L,D,es,kvs,rfl,_⟩;rfl
theorem Ek (T:Txt K mg A):Rd (nU K A) (T_7 K A) ["self"]:=by
 intro vs H Q E h
 obtain⟨x,f,L,D,es,kvs,rfl,r,q⟩:=h
 obtain⟨dx,hx⟩:=r.ob
 refine⟨x,A.c_Row,dx,_,.ref L,rfl,hx,T.cl_Row,T.na_Row_entries,rfl,.inl (.inl ⟨_,SqL.of r.hl,?_⟩)⟩
 rw[FH];exact q
theorem BV (K:pz)(A:Adr):Ln (pP K A) 3:=by rintro vs H Q E ⟨x,f,L,D,es,kvs,c,p,rfl,_⟩;rfl
theorem Fi (T:Txt K mg A):Rd (pP K A) (T_4 K A) ["self","count","elder"]:=by
 intro vs H Q E h
 obtain⟨x,f,L,D,es,kvs,c,p,rfl,r,h0,h1,h2,q⟩:=h
 obtain⟨dx,hx⟩:=r.ob
 have:=r.le
 refine⟨c,p,rfl,h0,h1,by omega,Sel.t ⟨x,dx,_,rfl,hx,rfl,x,f,L,D,es,kvs,rfl,r,?_⟩⟩
 show Q (.bl (decide (c≤(es.length:Int)))) H
 rw[decide_eq_true h2];exact q
theorem Du (K:pz)(A:Adr):Ln (qw K A) 3:=by rintro vs H Q E ⟨x,f,L,D,es,kvs,c,p,rfl,_⟩;rfl
theorem DS (T:Txt K mg A):Rd (qw K A) (T_5 K A) ["self","count","place"]:=by
 intro vs H Q E h
 obtain⟨x,f,L,D,es,kvs,c,p,rfl,r,h0,h1,h2,q⟩:=h
 obtain⟨dx,hx⟩:=r.ob
 have:=r.le
 refine⟨c,p,rfl,h0,h1,by omega,Sel.t ⟨x,dx,_,rfl,hx,rfl,x,f,L,D,es,kvs,rfl,r,?_⟩⟩
 show Q (.bl (decide (c≤(es.length:Int)))) H
 rw[decide_eq_true h2];exact q
theorem dr {K:pz}{H:Hp}{Q:VK}{L:Addr}{qs:List V}{p:V}(hL:H L=some (.lst (qs++[p])))(q:Q p H):aA K (.ref L) (.int (-1)) H Q:=
 .inl (.inl ⟨L,_,-1,p,rfl,rfl,SqL.of hL,tK _ _,q⟩)
theorem kF {w:Str}{r:List Key}(hw:okP (.inr w)=true)(hr:∀x∈r,okP x=true)(hl:r.length≤7):okT (.inr w::r)=true:=by
 show(decide (1≤r.length+1∧r.length+1≤8)&&true&&(okP (.inr w)&&r.all okP))=true
 rw[hw,Ht.mpr hr,decide_eq_true (by omega)];rfl
theorem eB {k:List Key}{v:Key}(h:iG k v):szK v≤szT k+62:=by
 cases v with
 |inl i=>exact Nat.le_add_left _ _
 |inr z=>exact Nat.add_le_add_right h.2 _
theorem dJ {k:List Key}{v:Key}(h:iG k v)(hs:szT k≤100000):okP v=true:=by
 cases v with
 |inl i=>exact decide_eq_true h
 |inr z=>
  show(lw z&&decide (z.length≤100000))=true
  rw[h.1,decide_eq_true (Gk h.2 hs)];rfl
theorem kB:∀{a b:Key},kV a=kV b→a=b
 |.inl _,.inl _,h=>by cases h;rfl
 |.inr _,.inr _,h=>by cases h;rfl
theorem wJ (kvs:List (List Key×Key))(k:List Key)(v:Key):∃kvs',de kvs'=bZ (de kvs) k (kV v)∧kvs'.length≤kvs.length+1∧∀j,fD kvs' j=if j=k then some v else fD kvs j:=by
 have fin:∀kvs':List (List Key×Key),de kvs'=bZ (de kvs) k (kV v)→∀j,fD kvs' j=if j=k then some v else fD kvs j:=by
  intro kvs' e j
  have h:=kW kvs' j
  rw[e,fX,kW]at h
  by_cases hj:j=k
  ·rw[if_pos hj]at h⊢
   cases g:fD kvs' j with
   |none=>rw[g]at h;cases h
   |some w=>rw[g]at h;rw[kB (FY h)]
  ·rw[if_neg hj]at h⊢
   cases g:fD kvs' j with
   |none=>
    rw[g]at h
    cases g2:fD kvs j with
    |none=>rfl
    |some w=>rw[g2]at h;cases h
   |some w=>
    rw[g]at h
    cases g2:fD kvs j with
    |none=>rw[g2]at h;cases h
    |some u=>rw[g2]at h;rw[kB (FY h)]
 by_cases c:((de kvs).any fun kv=>decide (kv.1=k))=true
 ·have e:de (kvs.map fun kv=>if kv.1=k then(kv.1,v)else kv)=bZ (de kvs) k (kV v):=by
   unfold bZ
   rw[if_pos c]
   unfold de
   rw[Jn,Jn]
   apply List.map_congr_left
   intro p _
   show((if p.1=k then(p.1,v)else p).1,kV (if p.1=k then(p.1,v)else p).2)=if p.1=k then(p.1,kV v)else(p.1,kV p.2)
   by_cases h:p.1=k
   ·rw[if_pos h,if_pos h]
   ·rw[if_neg h,if_neg h]
  exact⟨_,e,by rw[FH];omega,fin _ e⟩
 ·have e:de (kvs++[(k,v)])=bZ (de kvs) k (kV v):=by
   unfold bZ
   rw[if_neg c]
   unfold de
   rw[Gb];rfl
  exact⟨_,e,by simp,fin _ e⟩
theorem jl.mono {g g':GK}{es:List Key}{kvs:List (List Key×Key)}(c:jl g es kvs)(s:Sub g g'):jl g' es kvs:=fun k v e=>by
 obtain⟨a,m,h1,h2,h3,h4,h5⟩:=c k v e
 exact⟨a,m,h1,h2,h3,h4,fun h x=>h5 h (Ext.of s x)⟩
theorem okW:okP (.inr "void")=true∧okP (.inr "entry")=true∧okP (.inr "joint")=true∧okP (.inr "row")=true:=by decide+kernel
theorem okN {c:Nat}(h:c≤1000):okP (.inl (c:Int))=true:=by
 have p60:(1000:Int)<10^60:=by decide+kernel
 have k:∀i:Int,0≤i→i<10^60→okP (.inl i)=true:=fun i h0 h1=>decide_eq_true ⟨h0,h1⟩
 exact k _ (by omega) (by omega)
theorem szW:szK (.inr "void")=66∧szK (.inr "entry")=67∧szK (.inr "joint")=67∧szK (.inr "row")=65:=by decide+kernel
theorem sz2 (x y:Key):szT [x,y]=szK x+szK y:=by simp[szT]
theorem sz3 (x y z:Key):szT [x,y,z]=szK x+(szK y+szK z):=by simp[szT]
theorem sz1 (x:Key):szT [x]=szK x:=by simp[szT]
theorem jI:okT [.inr "void"]=true:=kF okW.1 (fun _ h=>nomatch h) (by decide)
theorem iH {e:Key}(h:okP e=true):okT [.inr "entry",e]=true:=kF okW.2.1 (fun x hx=>by rw[FU.mp hx];exact h) (show 1≤7 by decide)
theorem eC {x y:Key}(hx:okP x=true)(hy:okP y=true):okT [.inr "joint",x,y]=true:=kF okW.2.2.1 (fun z hz=>by
 rcases Gh.mp hz with h|h
 ·rw[h];exact hx
 ·rw[FU.mp h];exact hy) (show 2≤7 by decide)
theorem eE {c:Nat}{y:Key}(hc:c≤1000)(hy:okP y=true):okT [.inr "row",.inl (c:Int),y]=true:=kF okW.2.2.2 (fun z hz=>by
 rcases Gh.mp hz with h|h
 ·rw[h];exact okN hc
 ·rw[FU.mp h];exact hy) (show 2≤7 by decide)
theorem Stp.bb {H:Hp}{f b:Addr}{g:GK}{n:Nat}(s:Stp A H f b g n):∃y,H b=some (.own y):=by
 cases s with
 |wea q m h1 h2 hc hb hg=>exact hb
theorem Stp.nb {H:Hp}{f b z:Addr}{g:GK}{n:Nat}{o:HO}(s:Stp A H f b g n)(h:H z=some o)(h1:∀y,o≠.own y)(h2:∀kvs,o≠.dT kvs):z≠b:=by
 obtain⟨y,e⟩:=s.bb
 exact aL h e (h1 y)
theorem cH.same {H H':Hp}{x f L D:Addr}{es:List Key}{kvs:List (List Key×Key)}(r:cH A H x f L D es kvs)(S:au H H'):cH A H' x f L D es kvs:=by
 obtain⟨dx,hx⟩:=r.ob
 exact⟨⟨dx,S _ _ hx⟩,S _ _ r.hl,S _ _ r.hd,r.en,r.le⟩
section
variable {H H':Hp}{x f L D b:Addr}{es:List Key}{kvs:List (List Key×Key)}{g g':GK}{n m:Nat}
theorem cE.same (r:cE A H x f L D b es kvs g n)(S:au H H')(hn:n≤m):cE A H' x f L D b es kvs g m:=⟨r.r.same S,r.s.same hn S,r.c,r.db,Gk r.kl hn⟩
theorem cE.call (r:cE A H x f L D b es kvs g n)(kb:aR b H H')(s:Stp A H' f b g' m)(sub:Sub g g')(hn:n≤m):cE A H' x f L D b es kvs g' m:=by
 obtain⟨dx,hx⟩:=r.r.ob
 exact⟨⟨⟨dx,kb _ _ (r.s.nb hx (fun _ z=>nomatch z) (fun _ z=>nomatch z)) hx⟩,kb _ _ (r.s.nb r.r.hl (fun _ z=>nomatch z) (fun _ z=>nomatch z)) r.r.hl,kb _ _ r.db r.r.hd,r.r.en,r.r.le⟩,s,r.c.mono sub,r.db,Gk r.kl hn⟩
theorem cE.n2 (r:cE A H x f L D b es kvs g n){z:Addr}{o:HO}(h:H z=some o)(h1:∀y,o≠.own y)(h2:∀kvs,o≠.dT kvs):z≠b∧z≠D:=⟨r.s.nb h h1 h2,aL h r.r.hd (h2 _)⟩
theorem bv.trans {H1 H2:Hp}(a:bv b D H H1)(c:bv b D H1 H2):bv b D H H2:=fun x o n n' e=>c x o n n' (a x o n n' e)
theorem bv.same (S:au H H'):bv b D H H':=fun x o _ _ e=>S x o e
theorem bv.kb (k:aR b H H'):bv b D H H':=fun x o n _ e=>k x o n e
end
theorem CM (K:pz)(A:Adr)(n:Nat):Ln (qA K A n) 3:=by rintro vs H Q E ⟨x,f,L,D,b,es,kvs,g,n,a,m,rfl,_⟩;rfl
theorem Fq (T:Txt K mg A)(n:Nat)(vs:List V)(H:Hp)(Q:VK)(E:XK)(h:qA K A n vs H Q E):T_9 K A n {nx:=fun _ H'=>Q .non H',rt:=Q} (L2.cJ ["self","first","many","ahead"] vs) H:=by
 obtain⟨x,f,L,D,b,es,kvs,g,N,a,m,rfl,r,ham,hm,hN,q⟩:=h
 obtain⟨dx,hx⟩:=r.r.ob
 have l60:=r.r.le
 refine Sel.dec (fun h=>?_) (fun h=>?_)
 ·obtain rfl:m=0:=by omega
  refine⟨aG (show 1≤1000000 by decide),fun p hp=>q p [.inr "void"] kvs g _ (bv.same (au.upd hp)) (r.same (au.upd hp) (gV _)) Sub.rfl' aj jI (by rw[sz1,szW.1];decide) fun h _=>?_⟩
  rw[Lg];rfl
 refine Sel.dec (fun h=>?_) (fun h=>?_)
 ·obtain rfl:m=1:=by omega
  obtain⟨e,he⟩:∃e,es[a]?=some e:=⟨_,FQ (by omega)⟩
  have en:=r.r.en e (Ga he)
  refine⟨x,A.c_Row,dx,_,.ref L,rfl,hx,T.cl_Row,T.na_Row_entries,rfl,ixL r.r.hl rfl (by rw[GD,he];rfl) ⟨aG (show 2≤1000000 by decide),fun p hp=>q p [.inr "entry",e] kvs g _ (bv.same (au.upd hp)) (r.same (au.upd hp) (gV _)) Sub.rfl' aj (iH en.1) ?_ fun h _=>?_⟩⟩
  ·have:=en.2
   rw[sz2,szW.2.1];show _≤200;omega
  ·have e1:(es.drop a).take 1=[e]:=by rw[List.take_one,List.head?_drop,he];rfl
   rw[e1];rfl
 ·have h2:2≤m:=by omega
  obtain⟨g1,g2⟩:=be h2
  refine⟨m,rfl,h2,by omega,x,dx,_,rfl,hx,rfl,x,f,L,D,b,es,kvs,g,N,a,ag m,rfl,r,by omega,by omega,by omega,fun v1 kvs1 g1' H1 k1 r1 s1 ok1 sz1' e1=>?_⟩
  obtain⟨dx1,hx1⟩:=r1.r.ob
  refine⟨x,dx1,_,rfl,hx1,rfl,x,f,L,D,b,es,kvs1,g1',_,a+ag m,m- ag m,?_,r1,by omega,by omega,by omega,fun v2 kvs2 g2' H2 k2 r2 s2 ok2 sz2' e2=>?_⟩
  ·rw[IE,Ib (by omega)]
  ·refine⟨aG (show 3≤1000000 by decide),fun p hp=>q p [.inr "joint",v1,v2] kvs2 g2' _ ((k1.trans k2).trans (bv.same (au.upd hp))) (r2.same (au.upd hp) (by omega)) (s1.trans s2) aj (eC ok1 ok2) ?_ fun h eh=>?_⟩
   ·rw[sz3,szW.2.2.1]
    unfold szB at sz1' sz2'⊢
    omega
   ·have hl:((es.drop a).take m).length=m:=by rw[FJ,FS];omega
    rw[dG h (by rw[hl];exact h2),hl,e1 h (Ext.of s2 eh),e2 h eh,If,GY (by omega),JY,Ll]
theorem AR (K:pz)(A:Adr)(n:Nat):Ln (eM K A n) 3:=by rintro vs H Q E ⟨x,f,L,D,b,es,kvs,g,n,a,m,rfl,_⟩;rfl
theorem yW (K:pz)(A:Adr):∀vs H Q E,eM K A 0 vs H Q E→False:=by rintro vs H Q E ⟨x,f,L,D,b,es,kvs,g,n,a,m,_,_,_,h,_⟩;omega
theorem EQ (T:Txt K mg A)(n:Nat):Rd (eM K A (n+1)) (T_8 K A n) ["self","first","many","part"]:=by
 intro vs H Q E h
 obtain⟨x,f,L,D,b,es,kvs,g,N,a,m,rfl,r,ham,hm,hN,q⟩:=h
 have l60:=r.r.le
 refine⟨aG (show 2≤1000000 by decide),fun p hp=>?_⟩
 have S1:au H (upd H p (.tup [.int (a:Int),.int (m:Int)])):=au.upd hp
 have r1:=r.same S1 (gV _)
 have hp1:upd H p (.tup [.int (a:Int),.int (m:Int)]) p=some (.tup (([.inl (a:Int),.inl (m:Int)]:List Key).map kV)):=aj
 generalize upd H p (.tup [.int (a:Int),.int (m:Int)])=H1 at S1 r1 hp1
 obtain⟨dx,hx1⟩:=r1.r.ob
 have g1:=eL.t r1.r.hd hp1
 rw[kW]at g1
 refine⟨x,A.c_Row,dx,_,.ref D,rfl,hx1,T.cl_Row,T.na_Row_tops,rfl,.inl ⟨D,_,rfl,g1,?_⟩⟩
 cases e:fD kvs [.inl (a:Int),.inl (m:Int)]with
 |some v=>
  rw[e]at g1
  refine Sel.no rfl ⟨x,A.c_Row,dx,_,.ref D,rfl,hx1,T.cl_Row,T.na_Row_tops,rfl,.inr ⟨D,_,rfl,g1,?_⟩⟩
  obtain⟨a',m',h1,h2,h3,h4,h5⟩:=r.c _ _ e
  have ea:a=a':=by have:=LA (Ir h1).1;omega
  have em:m=m':=by have:=LA (Ir (Ir h1).2).1;omega
  subst ea em
  exact q v kvs g H1 (bv.same S1) (r1.same au.rfl' (by omega)) Sub.rfl' h3 h4 h5
 |none=>
  refine Sel.yes rfl ⟨x,dx,_,f,rfl,hx1,rfl,r1.s.clo,x,dx,_,rfl,hx1,rfl,x,f,L,D,b,es,kvs,g,N,a,m,rfl,r1,ham,by omega,hN,fun p2 k kvs2 g2 H2 k2 r2 s2 hp2 okk szk ek=>?_⟩
  dsimp only[ak]
  refine bV r2.s (by omega) hp2 okk fun v H3 g3 kb s3 sub3 gv st=>?_
  have r3:=r2.call kb s3 sub3 (IN _)
  obtain⟨np,np'⟩:=r1.n2 hp1 (fun _ z=>nomatch z) (fun _ z=>nomatch z)
  have hp3:=kb _ _ np (k2 _ _ np np' hp1)
  obtain⟨dx3,hx3⟩:=r3.r.ob
  obtain⟨kvs4,e4,l4,f4⟩:=wJ kvs2 [.inl (a:Int),.inl (m:Int)] v
  have kl:=r2.kl
  have ll:(de kvs2).length=kvs2.length:=by simp[de]
  refine⟨x,A.c_Row,dx3,_,.ref D,rfl,hx3,T.cl_Row,T.na_Row_tops,rfl,.inr ⟨D,_,rfl,.inr ⟨_,[.inl (a:Int),.inl (m:Int)],p,r3.r.hd,rfl,hp3,Hs (m:=50000) (by omega) (aG (n:=50001) (by decide)),rfl⟩,?_⟩⟩
  have xD:x≠D:=aL hx3 r3.r.hd (fun z=>nomatch z)
  have LD:L≠D:=aL r3.r.hl r3.r.hd (fun z=>nomatch z)
  have pD:p≠D:=np'
  have szv:szK v≤szB m:=Gk (eB st) szk
  have okv:okP v=true:=dJ st (by unfold szB at szk;omega)
  have ev:∀h,Ext g3 h→v=h (bA h ((es.drop a).take m)):=fun h eh=>by rw[←ek h (Ext.of sub3 eh)];exact(eh _ _ gv).symm
  have gg:=eL.t (H:=upd H3 D (.dT (bZ (de kvs2) [.inl (a:Int),.inl (m:Int)] (kV v)))) (kvs:=bZ (de kvs2) [.inl (a:Int),.inl (m:Int)] (kV v)) (k:=[.inl (a:Int),.inl (m:Int)]) aj (by rw[al pD];exact hp3)
  rw[fX,if_pos rfl]at gg
  refine⟨x,A.c_Row,dx3,_,.ref D,rfl,by rw[al xD];exact hx3,T.cl_Row,T.na_Row_tops,rfl,.inr ⟨D,_,rfl,gg,?_⟩⟩
  have K4:bv b D H3 (upd H3 D (.dT (bZ (de kvs2) [.inl (a:Int),.inl (m:Int)] (kV v)))):=fun z o _ n e=>by rw[al n];exact e
  refine q v kvs4 g3 _ ((((bv.same S1).trans k2).trans (bv.kb kb)).trans K4) ⟨⟨⟨dx3,by rw[al xD];exact hx3⟩,by rw[al LD];exact r3.r.hl,by rw[e4];exact aj,r3.r.en,r3.r.le⟩,?_,?_,r3.db,by omega⟩ (s2.trans sub3) okv szv ev
  ·refine r3.s.keep (by omega) fun z o e _ _ hz=>?_
   have:z≠D:=by
    rcases hz with h|h
    ·rw[h];exact Gt r3.db
    ·exact aL e r3.r.hd (h _)
   rw[al this];exact e
  ·intro k' v' e'
   rw[f4]at e'
   by_cases hk:k'=[.inl (a:Int),.inl (m:Int)]
   ·rw[if_pos hk]at e'
    obtain rfl:=FY e'
    exact⟨a,m,hk,ham,okv,szv,ev⟩
   ·rw[if_neg hk]at e'
    exact r3.c _ _ e'
theorem yC (K:pz)(A:Adr):Ln (jc K A) 1:=by rintro vs H Q E ⟨f,b,g,n,rfl,_⟩;rfl
theorem Dk (T:Txt K mg A):Rd (jc K A) (Fh K A) ["stamper"]:=by
 intro vs H Q E h
 obtain⟨f,b,g,n,rfl,s,hn,q⟩:=h
 refine⟨aG (show 1≤1000000 by decide),fun p1 hp1=>?_⟩
 have S1:au H (upd H p1 (.tup [.str "void"])):=au.upd hp1
 have s1:=s.same (gV _) S1
 generalize upd H p1 (.tup [.str "void"])=H1 at S1 s1
 refine⟨f,rfl,s1.clo,aG (show 1≤1000000 by decide),fun p0 hp0=>?_⟩
 have S2:au H1 (upd H1 p0 (.tup [.str "void"])):=au.upd hp0
 have s2:=s1.same (gV _) S2
 have hk2:upd H1 p0 (.tup [.str "void"]) p0=some (.tup (([.inr "void"]:List Key).map kV)):=aj
 generalize upd H1 p0 (.tup [.str "void"])=H2 at S2 s2 hk2
 dsimp only[ak]
 refine bV s2 (by omega) hk2 jI fun w H3 g3 kb s3 sub3 gv st=>⟨aG (show 3≤1000000 by decide),fun p2 hp2=>⟨aG (show 2≤1000000 by decide),fun L hL=>?_⟩⟩
 have S4:au H3 (upd (upd H3 p2 (.tup [.str "row",.int 0,kV w])) L (.lst [.ref p1,.ref p2])):=(au.upd hp2).put (bu hL).2
 refine q L p1 p2 w g3 _ (((aR.same S1).trans (aR.same S2)).trans (kb.trans (aR.same S4))) (s3.same (gV _) S4) sub3 aj ?_ (dJ st (by rw[sz1,szW.1];decide)) (Gk (eB st) (by rw[sz1,szW.1];decide)) fun h eh=>?_
 ·rw[al (Gt (bu hL).1)];exact aj
 ·exact(eh _ _ gv).symm
theorem zT (K:pz)(A:Adr):Ln (mD K A) 1:=by rintro vs H Q E ⟨f,b,g,n,rfl,_⟩;rfl
theorem AO (T:Txt K mg A):Rd (mD K A) (FC K A) ["stamper"]:=by
 intro vs H Q E h
 obtain⟨f,b,g,n,rfl,s,hn,q⟩:=h
 refine⟨f,rfl,s.clo,f,b,g,n,rfl,s,hn,fun L p1 p2 v g1 H1 k1 s1 sub1 hL hp2 okv szv ev=>?_⟩
 refine dr (qs:=[.ref p1]) hL ?_
 dsimp only[ak]
 refine bV s1 (by omega) (k:=[.inr "row",.inl 0,v]) hp2 (eE (c:=0) (by decide) okv) fun w H3 g3 kb s3 sub3 gv st=>⟨aG (show 2≤1000000 by decide),fun p hp=>?_⟩
 refine q p w g3 _ (k1.trans (kb.trans (aR.same (au.upd hp)))) (s3.same (gV _) (au.upd hp)) (sub1.trans sub3) aj (dJ st ?_) fun h eh=>?_
 ·rw[sz3,szW.2.2.2]
  show 65+(62+_)≤_
  omega
 ·rw[←eh _ _ gv]
  unfold fb
  rw[←ev h (Ext.of sub3 eh)];rfl
theorem Cur.mono {g g':GK}{c:List Key}{v:Key}(t:Cur g c v)(s:Sub g g'):Cur g' c v:=⟨t.ok,t.sz,fun h e=>t.eq h (Ext.of s e)⟩
def PkW (H:Hp)(g:GK)(y:Addr×List Key):Prop:=∃v:Key,H y.1=some (.tup [.int (y.2.length:Int),kV v])∧Cur g y.2 v
abbrev sgs (xs:List (Addr×List Key)):List (List Key):=xs.map (·.2)
structure Pk (A:Adr)(H:Hp)(f b P:Addr)(xs:List (Addr×List Key))(g:GK)(N:Nat):Prop where
 s:Stp A H f b g N
 l:H P=some (.lst (xs.map fun y=>V.ref y.1))
 w:∀y∈xs,PkW H g y
 p:eJ (sgs xs)
theorem kL (xs:List (Addr×List Key))(h:0<xs.length):∃ys p s,xs=ys++[(p,s)]:=by
 rcases List.eq_nil_or_concat xs with e|⟨ys,y,e⟩
 ·rw[e]at h;cases h
 ·exact⟨ys,y.1,y.2,by rw[e];simp⟩
def LP (K:pz):TE:=tOp (aA K) (iM K "list" kR (ae 2)) (tC (.int 1))
def LJ (K:pz)(A:Adr):TE:=cA (cr K A) (fun _=>E0) (ae 0) (af (bc (af (tC (.str "joint")) (af (tOp (aA K) (iM K "list" kR (ae 2)) (tC (.int 1))) (af (ae 5) (ak))))) (ak))
section
variable {H:Hp}{f b P E p:Addr}{xs:List (Addr×List Key)}{g:GK}{N:Nat}{s c:List Key}{v:Key}{x3 x4 x5:Option V}{Q:VK}
theorem Pk.same {H':Hp}{M:Nat}(k:Pk A H f b P xs g N)(S:au H H')(hn:N≤M):Pk A H' f b P xs g M:=
 ⟨k.s.same hn S,S _ _ k.l,fun y hy=>(k.w y hy).imp fun v h=>⟨S _ _ h.1,h.2⟩,k.p⟩
theorem Pk.call {H':Hp}{M:Nat}{g':GK}(k:Pk A H f b P xs g N)(kb:aR b H H')(s':Stp A H' f b g' M)(sub:Sub g g'):Pk A H' f b P xs g' M:=
 ⟨s',kb _ _ (k.s.nb k.l (fun _ z=>nomatch z) (fun _ z=>nomatch z)) k.l,fun y hy=>(k.w y hy).imp fun v h=>⟨kb _ _ (k.s.nb (o:=.tup [.int (y.2.length:Int),kV v]) h.1 (fun _ z=>nomatch z) (fun _ z=>nomatch z)) h.1,h.2.mono sub⟩,k.p⟩
theorem Pk.set {ys:List (Addr×List Key)}(k:Pk A H f b P xs g N)(hw:∀y∈ys,PkW H g y)(hp:eJ (sgs ys)):Pk A (upd H P (.lst (ys.map fun y=>V.ref y.1))) f b P ys g N:=by
 refine⟨k.s.keep (gV _) fun z o e h1 _ _=>?_,aj,fun y hy=>(hw y hy).imp fun v h=>⟨?_,h.2⟩,hp⟩
 ·rw[al (aL e k.l (h1 _))];exact e
 ·rw[al (aL h.1 k.l (fun z=>nomatch z))];exact h.1
theorem sM (k:Pk A H f b P (xs++[(p,s)]) g N)(q:∀v H',(∀z o,z≠P→H z=some o→H' z=some o)→Pk A H' f b P xs g N→Cur g s v→Q (kV v) H'):LP K [some (.ref f),some (.ref E),some (.ref P),x3,x4,x5] H Q:=by
 obtain⟨v,hv,cv⟩:=k.w (p,s) (Gz _ Gu)
 have e1:((xs++[(p,s)]).map fun y=>V.ref y.1)=(xs.map fun y=>V.ref y.1)++[.ref p]:=by rw[Gb];rfl
 have l:=k.l
 rw[e1]at l
 refine⟨.inl ⟨rfl,_,SqL.of l⟩,P,_,.ref p,rfl,rfl,l,by simp,?_⟩
 rw[List.dropLast_concat]
 have nP:p≠P:=aL hv k.l (fun z=>nomatch z)
 exact ixT (j:=1) (by rw[al nP];exact hv) rfl rfl (q v _ (fun z o n e=>by rw[al n];exact e) (k.set (fun y hy=>k.w y (Hz _ hy)) (by have:=k.p;rw[show sgs (xs++[(p,s)])=sgs xs++[s]from by simp]at this;exact this.init.1)) cv)
theorem lu {a c:Nat}{x y:Key}(h1:1≤a)(h2:1≤c)(hx:szK x≤szB a)(hy:szK y≤szB c):szT [.inr "joint",x,y]+62≤szB (a+c):=by
 rw[sz3,szW.2.2.1]
 unfold szB at*
 omega
theorem wN (k:Pk A H f b P (xs++[(p,s)]) g N)(hN:N≤44000)(cv:Cur g c v)(h1:1≤c.length)(h2:c.length≤s.length)(h60:(s++c).length≤60)
  (q:∀w g' H',(∀z o,z≠b→z≠P→H z=some o→H' z=some o)→Pk A H' f b P xs g' (N+1)→Sub g g'→Cur g' (s++c) w→Q (kV w) H'):LJ K A [some (.ref f),some (.ref E),some (.ref P),x3,x4,some (kV v)] H Q:=by
 obtain⟨a,ha⟩:=k.p.pw s (by simp)
 have hl:(s++c).length=s.length+c.length:=pv
 refine⟨f,rfl,k.s.clo,?_⟩
 refine sM (K:=K) (E:=E) k fun u H1 k1 pk1 cu=>⟨aG (show 3≤1000000 by decide),fun t ht=>?_⟩
 have S2:au H1 (upd H1 t (.tup [.str "joint",kV u,kV v])):=au.upd ht
 have ht2:upd H1 t (.tup [.str "joint",kV u,kV v]) t=some (.tup (([.inr "joint",u,v]:List Key).map kV)):=aj
 have pk2:=pk1.same S2 (gV _)
 dsimp only[ak]
 have jz:=lu (a:=s.length) (c:=c.length) (by omega) h1 cu.sz cv.sz
 refine bV pk2.s (by omega) ht2 (eC cu.ok cv.ok) fun w H3 g3 kb s3 sub3 gv st=>q w g3 H3 (fun z o n1 n2 e=>kb z o n1 (S2 _ _ (k1 z o n2 e))) (pk2.call kb s3 sub3) sub3 ⟨dJ st (by unfold szB at jz;omega),by rw[hl];exact Gk (eB st) jz,fun h eh=>?_⟩
 rw[dL h ha h1 h2,←eh _ _ gv,cu.eq h (Ext.of sub3 eh),cv.eq h (Ext.of sub3 eh)]
end
theorem gc (xs:List (Addr×List Key))(p:Addr)(s:List Key):sgs (xs++[(p,s)])=sgs xs++[s]:=by simp
theorem lh (xs:List (Addr×List Key))(p:Addr)(s:List Key):(sgs (xs++[(p,s)])).flatten=(sgs xs).flatten++s:=by rw[gc];simp
structure Tw (A:Adr)(H0 H:Hp)(f b P:Addr)(xs:List (Addr×List Key))(c:List Key)(g0 g:GK)(v:Key)(pre:List Key)(M:Nat):Prop where
 pk:∃N,Pk A H f b P xs g N∧N+xs.length≤M
 fl:(sgs xs).flatten++c=pre
 c1:1≤c.length
 le:∀y∈xs,c.length≤y.2.length
 cv:Cur g c v
 sub:Sub g0 g
 kb:aR b H0 H
theorem Tw.step {H0 H:Hp}{f b P p E:Addr}{xs:List (Addr×List Key)}{c s:List Key}{g0 g:GK}{v:Key}{pre:List Key}{M:Nat}{x3 x4:Option V}{Q:VK}(w:Tw A H0 H f b P (xs++[(p,s)]) c g0 g v pre M)(hP:H0 P=none)(h60:pre.length≤60)(hM:M≤44000)
  (q:∀w g' H',Tw A H0 H' f b P xs (s++c) g0 g' w pre M→Q (kV w) H'):LJ K A [some (.ref f),some (.ref E),some (.ref P),x3,x4,some (kV v)] H Q:=by
 obtain⟨⟨N,pk,hN⟩,fl,c1,le,cv,sub,kb⟩:=w
 rw[lh]at fl
 have hl:(sgs xs).flatten.length+s.length+c.length=pre.length:=by rw[←fl];simp only[pv]
 have hs:=le (p,s) (by simp)
 have pp:=pk.p
 rw[gc]at pp
 have pi:=pp.init.2.2
 rw[pv]at hN
 have hN:N+(xs.length+1)≤M:=hN
 refine wN pk (by omega) cv c1 hs (by rw[pv];omega) fun w g' H' k' pk' sub' cw=>q w g' H' ⟨⟨N+1,pk',by omega⟩,by rw[←fl,GJ],by rw[pv];omega,fun y hy=>?_,cw,sub.trans sub',fun z o n e=>k' z o n (aq e hP) (kb z o n e)⟩
 have:=pi y.2 (Jc hy)
 have hs:c.length≤s.length:=hs
 rw[pv];omega
theorem yl (K:pz)(A:Adr):Ln (mq K A) 2:=by rintro vs H Q E ⟨f,b,F,es,g,n,rfl,_⟩;rfl
theorem CL (T:Txt K mg A):Rd (mq K A) (DT K A) ["_law_stamper_here","_law_entries","_law_peaks","_law_entry","_law_many","_law_top_here"]:=by
 intro vs H Q E h
 obtain⟨f,b,F,es,g,n,rfl,hF,en,l60,s,hn,q⟩:=h
 have nF:F≠b:=s.nb hF (fun _ z=>nomatch z) (fun _ z=>nomatch z)
 refine⟨Gc _,fun P hP=>?_⟩
 have S1:au H (upd H P (.lst [])):=au.upd hP
 refine⟨F,rfl,.inl ⟨⟨_,SqL.of (S1 _ _ hF)⟩,?_⟩⟩
 refine eU (xs:=es.map kV) (fun i σ H'=>∃xs g' N x3 x4 x5,σ=[some (.ref f),some (.ref F),some (.ref P),x3,x4,x5]∧Pk A H' f b P xs g' N∧(sgs xs).flatten=es.take i∧N+xs.length≤n+2*i∧Sub g g'∧aR b H H')
  ⟨[],g,n,none,none,none,rfl,⟨s.same (gV _) S1,aj,(fun _ h=>nomatch h),eJ.nil⟩,rfl,gV _,Sub.rfl',aR.same S1⟩
  (fun i σ H' _ h=>?_) (fun i x σ H1 hx h=>?_) (fun σ H1 h=>?_)
 ·obtain⟨xs,g',N,x3,x4,x5,rfl,pk,fl,cn,sub,kb⟩:=h
  exact SqL.of (kb _ _ nF hF)
 ·obtain⟨xs,g1,N,x3,x4,x5,rfl,pk,fl,cn,sub,kb⟩:=h
  obtain⟨e,he,rfl⟩:=eF hx
  have hi:=(FN.mp he).1
  have ene:=en e (Ga he)
  refine⟨f,rfl,pk.s.clo,aG (show 2≤1000000 by decide),fun p hp=>?_⟩
  have S2:au H1 (upd H1 p (.tup [.str "entry",kV e])):=au.upd hp
  have hp2:upd H1 p (.tup [.str "entry",kV e]) p=some (.tup (([.inr "entry",e]:List Key).map kV)):=aj
  have pk2:=pk.same S2 (gV _)
  generalize upd H1 p (.tup [.str "entry",kV e])=H2 at S2 hp2 pk2
  dsimp only[ak]
  refine bV pk2.s (by omega) hp2 (iH ene.1) fun v H3 g3 kb3 s3 sub3 gv st=>?_
  have z2:szT [.inr "entry",e]+62≤szB 1:=by
   have:=ene.2
   rw[sz2,szW.2.1];show _≤200;omega
  have t1:es.take (i+1)=es.take i++[e]:=by rw[HQ,he];rfl
  have tl:(es.take (i+1)).length≤60:=by rw[FJ];omega
  have w0:Tw A H H3 f b P xs [e] g g3 v (es.take (i+1)) (n+2*i+1):=⟨⟨N+1,pk2.call kb3 s3 sub3,by omega⟩,by rw[fl,t1],gV 1,fun y hy=>by
   obtain⟨a,ha⟩:=pk.p.pw y.2 (Jc hy)
   show 1≤y.2.length
   rw[ha];exact MI,⟨dJ st (by have:=z2;show _≤_;unfold szB at this;omega),Gk (eB st) z2,fun h eh=>(eh _ _ gv).symm⟩,sub.trans sub3,kb.trans ((aR.same S2).trans kb3)⟩
  refine⟨fun m σ H'=>∃xs c g' v a,σ=[some (.ref f),some (.ref F),some (.ref P),some (kV e),some (.int (c.length:Int)),some (kV v)]∧m=xs.length∧c.length=2^a∧Tw A H H' f b P xs c g g' v (es.take (i+1)) (n+2*i+1),⟨_,xs,[e],g3,v,0,rfl,rfl,rfl,w0⟩,?_⟩
  rintro m σ H' ⟨xs,c,g',v,a,rfl,rfl,ha,w⟩
  obtain⟨⟨N',pk',hN'⟩,fl',c1,le',cv,sub',kb'⟩:=id w
  have fin:(∀y∈xs,c.length<y.2.length)→bO (tBM K "list" bE (ae 2) (af (bc (af (ae 4) (af (ae 5) (ak)))) (ak))) {nx:=fun σ H'=>∃xs g' N x3 x4 x5,σ=[some (.ref f),some (.ref F),some (.ref P),x3,x4,x5]∧Pk A H' f b P xs g' N∧(sgs xs).flatten=es.take (i+1)∧N+xs.length≤n+2*(i+1)∧Sub g g'∧aR b H H',rt:=Q} [some (.ref f),some (.ref F),some (.ref P),some (kV e),some (.int (c.length:Int)),some (kV v)] H':=by
   intro lt
   refine⟨.inl ⟨rfl,_,SqL.of pk'.l⟩,aG (show 2≤1000000 by decide),fun p hp=>?_⟩
   have S4:au H' (upd H' p (.tup [.int (c.length:Int),kV v])):=au.upd hp
   have pk4:=pk'.same S4 (gV _)
   have hp4:upd H' p (.tup [.int (c.length:Int),kV v]) p=some (.tup [.int (c.length:Int),kV v]):=aj
   generalize upd H' p (.tup [.int (c.length:Int),kV v])=H4 at S4 pk4 hp4
   refine⟨P,_,.ref p,rfl,rfl,pk4.l,?_,?_⟩
   ·rw[FH];exact Hs (m:=50000) (by omega) (aG (n:=50001) (by decide))
   ·have e5:(xs.map fun y=>V.ref y.1)++[.ref p]=(xs++[(p,c)]).map fun y=>V.ref y.1:=by rw[Gb];rfl
    rw[e5]
    refine⟨xs++[(p,c)],g',N',_,_,_,rfl,pk4.set (fun y hy=>?_) ?_,by rw[lh];exact fl',by rw[pv];show N'+(xs.length+1)≤_;omega,sub',?_⟩
    ·rcases Gs.mp hy with h|h
     ·exact pk4.w y h
     ·rw[FU.mp h];exact⟨v,hp4,cv⟩
    ·rw[gc]
     exact pk'.p.push ⟨a,ha⟩ fun t ht=>by
      obtain⟨y,hy,rfl⟩:=HC.mp ht
      exact lt y hy
    ·intro z o nz ez
     rw[al (aq ez hP)]
     exact S4 _ _ (kb' z o nz ez)
  refine .inl (.inl ⟨_,SqL.of pk'.l,Sel.dec (fun h=>?_) (fun h=>?_)⟩)
  ·obtain⟨ys,p,s',rfl⟩:=kL xs (by rw[FH]at h;omega)
   obtain⟨u,hu,_⟩:=pk'.w (p,s') (by simp)
   have l:=pk'.l
   rw[Gb]at l
   refine dr l (ixT (j:=0) hu rfl rfl ?_)
   refine cq (Sel.dec (fun h=>?_) (fun h=>?_))
   ·refine⟨fun σ H'=>∃xs c g' v a,σ=[some (.ref f),some (.ref F),some (.ref P),some (kV e),some (.int (c.length:Int)),some (kV v)]∧ys.length=xs.length∧c.length=2^a∧Tw A H H' f b P xs c g g' v (es.take (i+1)) (n+2*i+1),fun σ' H' hh=>⟨ys.length,by rw[pv];exact Hb _,hh⟩,?_⟩
    refine w.step (K:=K) hP tl (by omega) fun w2 g2 H2 tw2=>?_
    have hsc:(s'.length:Int)=c.length:=h
    have el:(s'++c).length=2*c.length:=by rw[pv];omega
    have hcl:c.length≤60:=by
     have:=congrArg KL fl'
     rw[pv]at this
     omega
    refine⟨DK (by omega) (by omega),ys,s'++c,g2,w2,a+1,?_,rfl,by rw[el,ha,Jr];omega,tw2⟩
    rw[el,Int.natCast_mul];rfl
   ·refine fin fun y hy=>?_
    have hs:=le' (p,s') (by simp)
    have hs:c.length≤s'.length:=hs
    have hne:¬(s'.length:Int)=c.length:=h
    rcases Gs.mp hy with h|h
    ·have pp:=pk'.p
     rw[gc]at pp
     have:=pp.init.2.2 y.2 (Jc h)
     omega
    ·rw[FU.mp h];show c.length<s'.length;omega
  ·refine fin fun y hy=>?_
   rw[FH]at h
   have:=List.length_pos_of_mem hy
   omega
 ·obtain⟨xs,g1,N,x3,x4,x5,rfl,pk,fl,cn,sub,kb⟩:=h
  rw[FH,GZ]at fl
  rw[FH]at cn
  refine .inl (.inl ⟨_,SqL.of pk.l,Sel.dec (fun h=>?_) (fun h=>?_)⟩)
  ·rw[FH]at h
   obtain rfl:xs=[]:=IQ (by omega)
   obtain rfl:es=[]:=fl.symm
   refine⟨f,rfl,pk.s.clo,aG (show 1≤1000000 by decide),fun p hp=>?_⟩
   have S2:au H1 (upd H1 p (.tup [.str "void"])):=au.upd hp
   dsimp only[ak]
   exact bV (pk.s.same (gV _) S2) (by omega) (k:=[.inr "void"]) aj jI fun v H3 g3 kb3 s3 sub3 gv st=>
    q v g3 H3 (kb.trans ((aR.same S2).trans kb3)) (s3.same (by simp at cn⊢;omega) au.rfl') (sub.trans sub3) (dJ st (by rw[sz1,szW.1];decide)) (Gk (eB st) (by rw[sz1,szW.1];decide)) fun h eh=>(eh _ _ gv).symm
  ·rw[FH]at h
   obtain⟨ys,p,s',rfl⟩:=kL xs (by omega)
   have pp:=pk.p
   rw[gc]at pp
   obtain⟨a,ha⟩:=pp.init.2.1
   have hp1:0<2^a:=Jh a
   rw[pv]at cn
   have cn:N+(ys.length+1)≤n+2*es.length:=cn
   refine sM (K:=K) (E:=F) pk fun v H2 k2 pk2 cv=>?_
   have w0:Tw A H H2 f b P ys s' g g1 v es (n+2*es.length):=⟨⟨N,pk2,by omega⟩,by rw[←lh];exact fl,by omega,fun y hy=>by
    have:=pp.init.2.2 y.2 (Jc hy)
    omega,cv,sub,fun z o n1 e=>k2 z o (aq e hP) (kb z o n1 e)⟩
   refine⟨fun m σ H'=>∃xs c g' v,σ=[some (.ref f),some (.ref F),some (.ref P),x3,x4,some (kV v)]∧m=xs.length∧Tw A H H' f b P xs c g g' v es (n+2*es.length),⟨_,ys,s',g1,v,rfl,rfl,w0⟩,?_⟩
   rintro m σ H' ⟨xs,c,g',v,rfl,rfl,w⟩
   obtain⟨⟨N',pk',hN'⟩,fl',c1,le',cv,sub',kb'⟩:=id w
   refine .inl (.inl ⟨_,SqL.of pk'.l,?_⟩)
   refine cq (Sel.dec (fun h=>?_) (fun h=>?_))
   ·obtain⟨zs,p,s',rfl⟩:=kL xs (by rw[FH]at h;omega)
    refine⟨fun σ H'=>∃xs c g' v,σ=[some (.ref f),some (.ref F),some (.ref P),x3,x4,some (kV v)]∧zs.length=xs.length∧Tw A H H' f b P xs c g g' v es (n+2*es.length),fun σ' H' hh=>⟨zs.length,by rw[pv];exact Hb _,hh⟩,?_⟩
    exact w.step (K:=K) hP l60 (by omega) fun w2 g2 H2 tw2=>⟨zs,s'++c,g2,w2,rfl,rfl,tw2⟩
   ·rw[FH]at h
    obtain rfl:xs=[]:=IQ (by omega)
    obtain rfl:c=es:=fl'
    exact q v g' H' kb' (pk'.s.same (by omega) au.rfl') sub' cv.ok cv.sz cv.eq
theorem zj {xs:List V}{c:Nat}(h:c≤xs.length):eA xs none (some (c:Int))=xs.take c:=by
 unfold eA
 rw[HT.xl,HT.uY,Lj,Jq,GY h]
theorem wu {K:pz}{H:Hp}{E:Addr}{es:List Key}{c:Nat}{Q:VK}(hE:H E=some (.lst (es.map kV)))(hc:c≤es.length)(q:∀p,H p=none→Q (.ref p) (upd H p (.lst ((es.take c).map kV)))):iN K (.ref E) none (some (c:Int)) H Q:=by
 refine .inl (.inl ⟨E,_,rfl,SqL.of hE,fun p hp=>?_⟩)
 rw[zj (by rw[FH];exact hc),←List.map_take];exact q p hp
def hOf (g:GK)(k:List Key):Key:=(g k).getD (.inl 0)
theorem kO (g:GK):Ext g (hOf g):=fun k v e=>by unfold hOf;rw[e];rfl
theorem SqL.keep {H H':Hp}{a:Addr}{xs:List V}(e:∀o,H a=some o→H' a=some o)(h:SqL K H a xs):SqL K H' a xs:=by
 rcases h with(h|⟨o,h⟩)|h
 ·exact .inl (.inl (e _ h))
 ·exact .inl (.inr ⟨o,e _ h⟩)
 ·exact .inr h
section
variable {H H':Hp}{f b x L D y M F:Addr}{g g':GK}{n m:Nat}{es fs:List Key}
theorem cB.same (r:cB A H f b g n x L D es)(S:au H H')(hn:n≤m):cB A H' f b g m x L D es:=r.imp fun _ r=>r.same S hn
theorem cB.call (r:cB A H f b g n x L D es)(kb:aR b H H')(s:Stp A H' f b g' m)(sub:Sub g g')(hn:n≤m):cB A H' f b g' m x L D es:=r.imp fun _ r=>r.call kb s sub hn
theorem cB.other (r:cB A H f b g n x L D es)(s:cB A H f b g n y M F fs)(r':cB A H' f b g' m y M F fs)(k:bv b F H H')(sub:Sub g g')(hn:n≤m)(ne:D≠F):cB A H' f b g' m x L D es:=by
 obtain⟨kvs,r⟩:=r
 obtain⟨_,s⟩:=s
 obtain⟨_,r'⟩:=r'
 obtain⟨dx,hx⟩:=r.r.ob
 obtain⟨n1,n2⟩:=s.n2 hx (fun _ z=>nomatch z) (fun _ z=>nomatch z)
 obtain⟨n3,n4⟩:=s.n2 r.r.hl (fun _ z=>nomatch z) (fun _ z=>nomatch z)
 exact⟨kvs,⟨⟨dx,k _ _ n1 n2 hx⟩,k _ _ n3 n4 r.r.hl,k _ _ r.db ne r.r.hd,r.r.en,r.r.le⟩,r'.s,r.c.mono sub,r.db,Gk r.kl hn⟩
theorem cB.keepL {ys:List V}(r:cB A H f b g n x L D es)(k:∀z o,z≠M→H z=some o→H' z=some o)(hM:H M=some (.lst ys))(ne:L≠M):cB A H' f b g n x L D es:=by
 obtain⟨kvs,r⟩:=r
 obtain⟨dx,hx⟩:=r.r.ob
 refine⟨kvs,⟨⟨dx,k _ _ (aL hx hM (fun z=>nomatch z)) hx⟩,k _ _ ne r.r.hl,k _ _ (aL r.r.hd hM (fun z=>nomatch z)) r.r.hd,r.r.en,r.r.le⟩,r.s.keep (gV _) fun z o e h1 _ _=>k z o (aL e hM (h1 _)) e,r.c,r.db,r.kl⟩
end
theorem cH.toX {H:Hp}{f b x L D:Addr}{g:GK}{n:Nat}{es:List Key}(r:cH A H x f L D es [])(s:Stp A H f b g n)(ne:D≠b):cB A H f b g n x L D es:=⟨[],r,s,(fun _ _ e=>nomatch e),ne,Gc _⟩
theorem hV {n:Nat}(h:2≤n):n- ag n≤ag n:=by
 unfold ag
 have h1:=Nat.lt_log2_self (n:=n- 1)
 rw[Jr]at h1
 omega
theorem oj:∀(n m:Nat)(es:List Key)(e:Nat),es.length≤n→es.length≤m→grS n es e=grS m es e:=by
 have zero:∀(m:Nat)(es:List Key)(e:Nat),es.length=0→grS m es e=[es]:=by
  intro m es e h
  cases m with
  |zero=>rfl
  |succ m=>unfold grS;rw[if_pos (.inr (by omega))]
 intro n
 induction n with
 |zero=>intro m es e h1 h2;rw[zero m es e (by omega)];rfl
 |succ n ih=>
  intro m es e h1 h2
  cases m with
  |zero=>rw[zero (n+1) es e (by omega)];rfl
  |succ m=>
   unfold grS
   by_cases c:e=0∨es.length≤e
   ·rw[if_pos c,if_pos c]
   ·rw[if_neg c,if_neg c]
    obtain⟨g1,g2⟩:=be (n:=es.length) (by omega)
    rw[ih m (es.take (ag es.length)) e (by rw[FJ];omega) (by rw[FJ];omega),ih m (es.drop (ag es.length)) (e- ag es.length) (by rw[FS];omega) (by rw[FS];omega)]
abbrev gr (s:List Key)(d:Nat):List (List Key):=grS s.length s d
theorem kj {s:List Key}{d:Nat}(h:d=0∨s.length≤d):gr s d=[s]:=by
 unfold gr
 cases e:s.length with
 |zero=>rfl
 |succ n=>unfold grS;rw[if_pos (by rw[e]at h⊢;exact h)]
theorem wA {s:List Key}{d:Nat}(h0:0<d)(h1:d≤ag s.length)(h2:2≤s.length):gr s d=gr (s.take (ag s.length)) d++[s.drop (ag s.length)]:=by
 obtain⟨g1,g2⟩:=be h2
 have tl:(s.take (ag s.length)).length=ag s.length:=by rw[FJ];omega
 unfold gr
 cases e:s.length with
 |zero=>omega
 |succ n=>
  rw[grS,if_neg (by rw[e]at g2 h1⊢;omega),if_pos (by rw[e]at h1⊢;exact h1),e,←e,oj n (s.take (ag s.length)).length _ _ (by rw[tl];omega) (gV _)]
theorem vN {s:List Key}{d:Nat}(h1:ag s.length<d)(h3:d<s.length)(h2:2≤s.length):gr s d=s.take (ag s.length)::gr (s.drop (ag s.length)) (d- ag s.length):=by
 obtain⟨g1,g2⟩:=be h2
 unfold gr
 cases e:s.length with
 |zero=>omega
 |succ n=>
  rw[grS,if_neg (by rw[e]at g2 h1 h3⊢;omega),if_neg (by rw[e]at h1⊢;omega),e,←e,oj n (s.drop (ag s.length)).length _ _ (by rw[FS];omega) (gV _)]
theorem rg:∀(k:Nat)(s:List Key)(d:Nat),s.length≤2^k→(gr s d).length≤k+1:=by
 intro k
 induction k with
 |zero=>
  intro s d h
  have:d=0∨s.length≤d:=by omega
  rw[kj this];exact gV _
 |succ k ih=>
  intro s d h
  by_cases c:d=0∨s.length≤d
  ·rw[kj c];show 1≤_;omega
  ·have h2:2≤s.length:=by omega
   obtain⟨g1,g2⟩:=be h2
   have g3:=hV h2
   have hk:ag s.length≤2^k:=by
    unfold ag
    refine Mo (by decide) ?_
    have:ID (s.length- 1)<k+1:=(KY (by omega)).mpr (by omega)
    omega
   by_cases c2:d≤ag s.length
   ·rw[wA (by omega) c2 h2,pv]
    have:=ih (s.take (ag s.length)) d (by rw[FJ];omega)
    show _+1≤_
    omega
   ·rw[vN (by omega) (by omega) h2,HG]
    have:=ih (s.drop (ag s.length)) (d- ag s.length) (by rw[FS];omega)
    omega
theorem iU {α β:Type}{F:α→β→Prop}{b:α}:∀{l:List α}{ks:List β},Paired F (l++[b]) ks→∃ks' k,ks=ks'++[k]∧Paired F l ks'∧F b k
 |[],_,h=>by
  cases h with
  |cons h t=>cases t;exact⟨[],_,rfl,.nil,h⟩
 |a::l,_,h=>by
  cases h with
  |cons h t=>
   obtain⟨ks',k,rfl,h1,h2⟩:=iU t
   exact⟨_::ks',k,rfl,.cons h h1,h2⟩
theorem dF {α β:Type}{F:α→β→Prop}:∀{l m:List α}{ks js:List β},Paired F l ks→Paired F m js→Paired F (l++m) (ks++js)
 |_,_,_,_,.nil,h=>h
 |_,_,_,_,.cons a t,h=>.cons a (dF t h)
theorem nR {α β:Type}{F:α→β→Prop}:∀{l:List α}{ks:List β},Paired F l ks→Paired F l.reverse ks.reverse
 |_,_,.nil=>.nil
 |_,_,.cons a t=>by
  rw[IK,IK];exact dF (nR t) (.cons a .nil)
theorem nC {α β:Type}{F:α→β→Prop}:∀{l:List α}{ks:List β}{i:Nat}{a:α}{k:β},Paired F l ks→l[i]?=some a→ks[i]?=some k→F a k
 |_,_,_,_,_,.nil,h,_=>by cases h
 |_,_,0,_,_,.cons a t,h1,h2=>by cases h1;cases h2;exact a
 |_,_,i+1,_,_,.cons a t,h1,h2=>nC t h1 h2
theorem Mks.mono {g g':GK}{ss:List (List Key)}{ks:List Key}(m:Mks g ss ks)(s:Sub g g'):Mks g' ss ks:=L2.Paired.mapP m fun _ _ c=>c.mono s
theorem Mks.ok {g:List Key→Option Key}:∀{ss:List (List Key)}{ks:List Key},Mks g ss ks→∀k∈ks,okP k=true
 |_,_,.nil,k,h=>nomatch h
 |_,_,.cons c t,k,h=>by
  rcases Gh.mp h with z|z
  ·rw[z];exact c.ok
  ·exact Mks.ok t k z
theorem xo {g:List Key→Option Key}{es:List Key}{e:Nat}:∀(n:Nat)(s:List Key)(d:Nat)(st0:List (Int×Key))(ks:List Key),s.length≤n→1≤d→d≤s.length→Pth g es e st0 s d→Mks g (grS n s d) ks→
  ∃st x s',ks=dA st x∧st.map (·.1)=trF n s.length d∧Pth g es e (st0++st) s' s'.length∧1≤s'.length∧Cur g s' x∧st.length+1≤s.length:=by
 intro n
 induction n with
 |zero=>intro s d st0 ks h1 h2 h3;omega
 |succ n ih=>
  intro s d st0 ks h1 h2 h3 p m
  rw[grS]at m
  by_cases c:d=0∨s.length≤d
  ·rw[if_pos c]at m
   cases m with
   |cons x t=>
    cases t
    obtain rfl:d=s.length:=by omega
    refine⟨[],_,s,rfl,?_,by rw[GW];exact p,by omega,x,by simp;omega⟩
    rw[trF,if_pos c];rfl
  ·rw[if_neg c]at m
   have l2:2≤s.length:=by omega
   obtain⟨g1,g2⟩:=be l2
   have tl:(s.take (ag s.length)).length=ag s.length:=by rw[FJ];omega
   have dl:(s.drop (ag s.length)).length=s.length- ag s.length:=FS
   by_cases c2:d≤ag s.length
   ·rw[if_pos c2]at m
    obtain⟨ks',k,rfl,m1,ck⟩:=iU m
    obtain⟨st,x,s',e1,e2,e3,e4,e5,e6⟩:=ih _ d _ ks' (by omega) h2 (by omega) (Pth.lo p (by omega) c2 l2 ck) m1
    refine⟨(0,k)::st,x,s',by rw[e1];rfl,?_,by rw[GJ]at e3;exact e3,e4,e5,by rw[tl]at e6;simp;omega⟩
    rw[trF,if_neg c,if_pos c2,Gw,e2,tl]
   ·rw[if_neg c2]at m
    cases m with
    |cons ck m1=>
     obtain⟨st,x,s',e1,e2,e3,e4,e5,e6⟩:=ih _ (d- ag s.length) _ _ (by omega) (by omega) (by omega) (Pth.hi p (by omega) h3 l2 ck) m1
     refine⟨(1,_)::st,x,s',by rw[e1];rfl,?_,by rw[GJ]at e3;exact e3,e4,e5,by rw[dl]at e6;simp;omega⟩
     rw[trF,if_neg c,if_neg c2,Gw,e2,dl]
theorem hU:∀(n m r d:Nat),r≤n→r≤m→trF n r d=trF m r d:=by
 have zero:∀(m d:Nat),trF m 0 d=[]:=by
  intro m d
  cases m with
  |zero=>rfl
  |succ m=>rw[trF,if_pos (.inr (Gc _))]
 intro n
 induction n with
 |zero=>
  intro m r d h1 h2
  obtain rfl:r=0:=by omega
  exact(zero _ _).trans (zero _ _).symm
 |succ n ih=>
  intro m r d h1 h2
  cases m with
  |zero=>
   obtain rfl:r=0:=by omega
   exact(zero _ _).trans (zero _ _).symm
  |succ m=>
   rw[trF,trF]
   by_cases c:d=0∨r≤d
   ·rw[if_pos c,if_pos c]
   ·rw[if_neg c,if_neg c]
    obtain⟨g1,g2⟩:=be (n:=r) (by omega)
    rw[ih m (ag r) d (by omega) (by omega),ih m (r- ag r) (d- ag r) (by omega) (by omega)]
theorem rK {r d:Nat}(h:d=0∨r≤d):trF r r d=[]:=by
 cases r with
 |zero=>rfl
 |succ r=>rw[trF,if_pos h]
theorem AU {r d:Nat}(h0:0<d)(h1:d≤ag r)(h2:2≤r):trF r r d=0::trF (ag r) (ag r) d:=by
 obtain⟨g1,g2⟩:=be h2
 rw[hU r (r+1) r d (gV _) (by omega),trF,if_neg (by omega),if_pos h1,hU r (ag r) _ _ (by omega) (gV _)]
theorem BB {r d:Nat}(h1:ag r<d)(h3:d<r)(h2:2≤r):trF r r d=1::trF (r- ag r) (r- ag r) (d- ag r):=by
 obtain⟨g1,g2⟩:=be h2
 rw[hU r (r+1) r d (gV _) (by omega),trF,if_neg (by omega),if_neg (by omega),hU r (r- ag r) _ _ (by omega) (gV _)]
theorem Ae (K:pz)(A:Adr):Ln (jn K A) 3:=by rintro vs H Q E ⟨t,o,a,rfl,_⟩;rfl
theorem Dv (T:Txt K mg A):Rd (jn K A) (FF K A) ["turn","own","aside"]:=by
 intro vs H Q E h
 obtain⟨t,o,a,rfl,q⟩:=h
 unfold jtT at q
 refine Sel.dec (fun h=>⟨aG (show 3≤1000000 by decide),fun p hp=>?_⟩) (fun h=>⟨aG (show 3≤1000000 by decide),fun p hp=>?_⟩)
 ·rw[if_pos h]at q;exact q p hp
 ·rw[if_neg h]at q;exact q p hp
theorem An (K:pz)(A:Adr):Ln (mO K A) 1:=by rintro vs H Q E ⟨p,c,v,rfl,_⟩;rfl
theorem Dt (T:Txt K mg A):Rd (mO K A) (EK K A) ["thing"]:=by
 intro vs H Q E h
 obtain⟨p,c,v,rfl,hp,hc,okv,q⟩:=h
 have ty:tyN H (.ref p)=some "tuple":=by unfold tyN;dsimp only;rw[hp]
 refine⟨by decide,"tuple",ty,Sel.t (.inl (.inr (.inl ⟨_,SqT.of hp,Sel.t (ixT (j:=0) hp rfl rfl ⟨c,rfl,by omega,by omega,Sel.t (ixT (j:=1) hp rfl rfl ⟨_,_,rfl,nD v,?_⟩)⟩)⟩)))⟩
 rw[gi okv];exact q
theorem zP (K:pz)(A:Adr):Ln (ko K A) 1:=by rintro vs H Q E ⟨p,c,v,rfl,_⟩;rfl
theorem Cz (T:Txt K mg A):Rd (ko K A) (Fj K A) ["thing"]:=by
 intro vs H Q E h
 obtain⟨p,c,v,rfl,hp,hc,okv,q⟩:=h
 exact⟨p,c,v,rfl,hp,hc,okv,Sel.no rfl q⟩
theorem AG (K:pz)(A:Adr):Ln (jO K A) 2:=by rintro vs H Q E ⟨p,ks,rfl,_⟩;rfl
theorem Bo (T:Txt K mg A):Rd (jO K A) (DX K A) ["many","thing"]:=by
 intro vs H Q E h
 obtain⟨p,k,rfl,hp,ok,l5,q⟩:=h
 have ty:tyN H (.ref p)=some "tuple":=by unfold tyN;dsimp only;rw[hp]
 have hml:(k.map kV).length=k.length:=by simp
 refine⟨by decide,"tuple",ty,Sel.t (.inl (.inr (.inl ⟨_,SqT.of hp,?_⟩)))⟩
 rw[hml]
 refine Sel.dec (fun _=>?_) (fun h=>absurd rfl h)
 refine⟨p,rfl,.inr ⟨⟨_,SqT.of hp⟩,fun D hD=>?_⟩⟩
 have hne:p≠D:=aq hp hD
 refine fe (cK.tuple (xs:=k.map kV) .non) (fun i ys H2=>ys=(k.take i).map (fun x=>V.bl true)∧H2=upd H D (.lst ys)) (fun i ys H2 hi ⟨_,e2⟩=>?_) ⟨rfl,rfl⟩ (fun i ys H2 hi ⟨e1,e2⟩=>?_) (fun ys H2 ⟨e1,e2⟩=>?_)
 ·rw[e2];exact SqT.of (by rw[al hne];exact hp)
 ·subst e2
  have hi':i<k.length:=by omega
  obtain⟨x,hx⟩:∃x,k[i]?=some x:=⟨_,FQ hi'⟩
  have hg:(k.map kV).getD i .non=kV x:=by rw[Gp,GD,hx];rfl
  rw[hg]
  have hs:=gi (ok x (Ga hx))
  refine fz ⟨_,qS x,rfl,zM _ x,?_⟩
  rw[hs]
  have hyl:ys.length=i:=by rw[e1,FH,FJ];omega
  refine⟨aj,by rw[hyl];exact aK (by omega),CWd.next hi ⟨?_,kT⟩⟩
  rw[e1,HQ,Gb,hx];rfl
 ·subst e2
  refine⟨D,k.map fun _=>true,rfl,by rw[aj,e1,hml,GZ,Jn];rfl,?_⟩
  have:(k.map fun _=>true).all id=true:=by simp
  rw[this];exact q _ (au.upd hD)
theorem zr (K:pz)(A:Adr):Ln (mL K A) 2:=by rintro vs H Q E ⟨c,e,rfl,_⟩;rfl
theorem AZ (T:Txt K mg A):Rd (mL K A) (Ej K A) ["count","elder","turns","early","rest","ahead"]:=by
 intro vs H Q E h
 obtain⟨c,e,rfl,hec,hc,q⟩:=h
 refine⟨Gc _,fun L hL=>?_⟩
 refine⟨fun k σ H'=>∃(acc:List Int)(d r:Nat)(x5:Option V),σ=[some (.int (c:Int)),some (.int (e:Int)),some (.ref L),some (.int (d:Int)),some (.int (r:Int)),x5]∧k=r∧H'=upd H L (.lst (acc.map V.int))∧acc++trF r r d=trF c c e∧d≤r∧r≤c∧acc.length+r≤c,⟨_,[],e,c,none,rfl,rfl,rfl,rfl,hec,gV _,by simp⟩,?_⟩
 rintro k σ H' ⟨acc,d,r,x5,rfl,rfl,rfl,ht,hd,hr,hl⟩
 have fin:(d=0∨k≤d)→Q (.ref L) (upd H L (.lst (acc.map V.int))):=fun h=>by
  rw[rK h,GW]at ht
  exact q L _ (au.upd hL) (by rw[ht];exact aj)
 have lt:(acc.map V.int).length<sizeLine:=by rw[FH];exact aK (by omega)
 have ap:∀t:Int,upd (upd H L (.lst (acc.map V.int))) L (.lst (acc.map V.int++[.int t]))=upd H L (.lst ((acc++[t]).map V.int)):=fun t=>by rw[kT,Gb];rfl
 refine Sel.dec (fun h0=>?_) (fun h0=>?_)
 ·refine cq (Sel.dec (fun h1=>?_) (fun h1=>?_))
  ·have h2:2≤k:=by omega
   obtain⟨g1,g2⟩:=be h2
   refine⟨fun σ H'=>∃j,j<k∧∃(acc:List Int)(d r:Nat)(x5:Option V),σ=[some (.int (c:Int)),some (.int (e:Int)),some (.ref L),some (.int (d:Int)),some (.int (r:Int)),x5]∧j=r∧H'=upd H L (.lst (acc.map V.int))∧acc++trF r r d=trF c c e∧d≤r∧r≤c∧acc.length+r≤c,fun σ' H' hh=>hh,?_⟩
   refine⟨k,rfl,h2,by omega,Sel.dec (fun h=>?_) (fun h=>?_)⟩
   ·refine⟨.inl ⟨rfl,_,SqL.of aj⟩,L,_,_,rfl,rfl,aj,lt,?_⟩
    refine⟨ag k,g2,acc++[0],d,ag k,_,rfl,rfl,ap 0,?_,by omega,by omega,by rw[pv];show _+1+_≤_;omega⟩
    rw[AU (by omega) (by omega) h2]at ht
    rw[GJ];exact ht
   ·refine⟨.inl ⟨rfl,_,SqL.of aj⟩,L,_,_,rfl,rfl,aj,lt,?_⟩
    refine⟨k- ag k,by omega,acc++[1],d- ag k,k- ag k,some (.int ((ag k:Nat):Int)),?_,rfl,ap 1,?_,by omega,by omega,by rw[pv];show _+1+_≤_;omega⟩
    ·rw[Ib (by omega),Ib (by omega)];rfl
    ·rw[BB (by omega) (by omega) h2]at ht
     rw[GJ];exact ht
  ·exact fin (.inr (by omega))
 ·exact fin (.inl (by omega))
theorem Bt (K:pz)(A:Adr)(n:Nat):Ln (jL K A n) 4:=by rintro vs H Q E ⟨x,f,L,D,b,es,kvs,g,n,a,m,e,rfl,_⟩;rfl
theorem yd (K:pz)(A:Adr):∀vs H Q E,jL K A 0 vs H Q E→False:=by rintro vs H Q E ⟨x,f,L,D,b,es,kvs,g,n,a,m,e,_,_,_,_,_,h,_⟩;omega
theorem FE (T:Txt K mg A)(n:Nat):Rd (jL K A (n+1)) (T_2 K A n) ["self","first","many","elder","ahead"]:=by
 intro vs H Q E h
 obtain⟨x,f,L,D,b,es,kvs,g,N,a,m,e,rfl,r,ham,m1,em,hm,hN,q⟩:=h
 have l60:=r.r.le
 obtain⟨dx,hx⟩:=r.r.ob
 have sl:((es.drop a).take m).length=m:=by rw[FJ,FS];omega
 have gg:∀d,grS m ((es.drop a).take m) d=gr ((es.drop a).take m) d:=fun d=>by unfold gr;rw[sl]
 rw[gg]at q
 have fin:(e=0∨m≤e)→aH (bc (af (bq A.c_Row "top_of" (eM K A 70) (fun _=>E0) (ae 0) (af (ae 1) (af (ae 2) (ak)))) (ak))) {nx:=fun _ H'=>Q .non H',rt:=Q} [some (.ref x),some (.int (a:Int)),some (.int (m:Int)),some (.int (e:Int)),none] H:=by
  intro h
  refine⟨x,dx,_,rfl,hx,rfl,x,f,L,D,b,es,kvs,g,N,a,m,rfl,r,ham,by omega,by omega,fun v kvs' g' H' k1 r1 s1 ok1 sz1' e1=>⟨aG (show 1≤1000000 by decide),fun p hp=>?_⟩⟩
  refine q p [v] kvs' g' _ (k1.trans (bv.same (au.upd hp))) (r1.same (au.upd hp) (by omega)) s1 aj ?_
  rw[kj (by rw[sl];exact h)]
  exact .cons ⟨ok1,by rw[sl];exact sz1',e1⟩ .nil
 refine Sel.dec (fun h=>Sel.t (fin (.inl (by omega)))) (fun h0=>Sel.dec (fun h=>fin (.inr (by omega))) (fun h1=>?_))
 have m2:2≤m:=by omega
 obtain⟨g1,g2⟩:=be m2
 have tk:((es.drop a).take m).take (ag m)=(es.drop a).take (ag m):=by rw[If,GY (by omega)]
 have dp:((es.drop a).take m).drop (ag m)=(es.drop (a+ag m)).take (m- ag m):=by rw[JY,Ll]
 have l1:((es.drop a).take (ag m)).length=ag m:=by rw[FJ,FS];omega
 have l2:((es.drop (a+ag m)).take (m- ag m)).length=m- ag m:=by rw[FJ,FS];omega
 refine⟨m,rfl,m2,by omega,Sel.dec (fun h=>?_) (fun h=>?_)⟩
 ·have hle:e≤ag m:=by have:(e:Int)≤((ag m:Nat):Int):=h;omega
  refine⟨x,dx,_,rfl,hx,rfl,x,f,L,D,b,es,kvs,g,N,a,ag m,e,rfl,r,by omega,g1,hle,by omega,by omega,fun p ks kvs1 g1' H1 k1 r1 s1 hp mk=>?_⟩
  obtain⟨dx1,hx1⟩:=r1.r.ob
  refine⟨x,dx1,_,rfl,hx1,rfl,x,f,L,D,b,es,kvs1,g1',_,a+ag m,m- ag m,?_,r1,by omega,by omega,by omega,fun v kvs2 g2' H2 k2 r2 s2 ok2 sz2' e2=>⟨aG (show 1≤1000000 by decide),fun p2 hp2=>?_⟩⟩
  ·rw[IE,Ib (by omega)]
  ·obtain⟨n1,n2⟩:=r1.n2 hp (fun _ z=>nomatch z) (fun _ z=>nomatch z)
   have hp':=k2 _ _ n1 n2 hp
   refine .inr ⟨p,p2,ks.map kV,[kV v],rfl,rfl,by rw[al (aq hp' hp2)];exact hp',aj,?_,fun p3 H3 S3 hp3=>?_⟩
   ·have:=Paired.length mk
    rw[FH,←this]
    unfold grS at this
    have:=rg 10 ((es.drop a).take (ag m)) e (by rw[l1];show _≤1024;omega)
    unfold gr at this
    rw[l1]at this
    exact aG (by show _+1≤_;omega)
   ·refine q p3 (ks++[v]) kvs2 g2' H3 ((k1.trans k2).trans ((bv.same (au.upd hp2)).trans (bv.same S3))) ((r2.same (au.upd hp2) (gV _)).same S3 (by omega)) (s1.trans s2) (by rw[Gb];exact hp3) ?_
    rw[wA (by omega) (by rw[sl];exact hle) (by rw[sl];exact m2),sl,tk,dp]
    unfold gr
    rw[l1]
    exact Paired.snoc (Mks.mono mk s2) ⟨ok2,by rw[l2];exact sz2',e2⟩
 ·have hgt:ag m<e:=by have:¬(e:Int)≤((ag m:Nat):Int):=h;omega
  refine⟨x,dx,_,rfl,hx,rfl,x,f,L,D,b,es,kvs,g,N,a,ag m,rfl,r,by omega,by omega,by omega,fun v kvs1 g1' H1 k1 r1 s1 ok1 sz1' e1=>⟨aG (show 1≤1000000 by decide),fun p hp=>?_⟩⟩
  have r1':=r1.same (au.upd (o:=.tup [kV v]) hp) (gV _)
  obtain⟨dx1,hx1⟩:=r1'.r.ob
  refine⟨x,dx1,_,rfl,hx1,rfl,x,f,L,D,b,es,kvs1,g1',_,a+ag m,m- ag m,e- ag m,?_,r1',by omega,by omega,by omega,by omega,by omega,fun p2 ks kvs2 g2' H2 k2 r2 s2 hp2 mk=>?_⟩
  ·rw[IE,Ib (by omega),Ib (by omega)]
  ·obtain⟨n1,n2⟩:=r1'.n2 (o:=.tup [kV v]) aj (fun _ z=>nomatch z) (fun _ z=>nomatch z)
   refine .inr ⟨p,p2,[kV v],ks.map kV,rfl,rfl,k2 _ _ n1 n2 aj,hp2,?_,fun p3 H3 S3 hp3=>?_⟩
   ·have:=Paired.length mk
    rw[FH,←this]
    have:=rg 10 ((es.drop (a+ag m)).take (m- ag m)) (e- ag m) (by rw[l2];show _≤1024;omega)
    unfold gr at this
    rw[l2]at this
    exact aG (by show 1+_≤_;omega)
   ·refine q p3 (v::ks) kvs2 g2' H3 ((k1.trans (bv.same (au.upd hp))).trans (k2.trans (bv.same S3))) (r2.same S3 (by omega)) (s1.trans s2) hp3 ?_
    rw[vN (by rw[sl];exact hgt) (by rw[sl];omega) (by rw[sl];exact m2),sl,tk,dp]
    unfold gr
    rw[l2]
    exact .cons ⟨ok1,by rw[l1];exact sz1',fun h eh=>e1 h (Ext.of s2 eh)⟩ mk
theorem CH (K:pz)(A:Adr):Ln (kX K A) 3:=by rintro vs H Q E ⟨x,f,L,D,b,es,kvs,g,n,c,e,rfl,_⟩;rfl
theorem Fk (T:Txt K mg A):Rd (kX K A) (T_3 K A) ["self","count","elder"]:=by
 intro vs H Q E h
 obtain⟨x,f,L,D,b,es,kvs,g,n,c,e,rfl,r,hc,hec,hn,q⟩:=h
 obtain⟨dx,hx⟩:=r.r.ob
 have l60:=r.r.le
 have tl:(es.take c).length=c:=by rw[FJ];omega
 refine⟨x,dx,_,rfl,hx,rfl,x,f,L,D,es,kvs,_,_,rfl,r.r,by omega,by omega,by omega,Sel.no rfl ?_⟩
 refine Sel.dec (fun h=>?_) (fun h=>⟨Gc _,fun p hp=>?_⟩)
 ·refine⟨x,dx,_,rfl,hx,rfl,x,f,L,D,b,es,kvs,g,n,0,c,e,rfl,r,by omega,by omega,hec,by omega,by omega,fun p ks kvs' g' H' k' r' s' hp mk=>?_⟩
  refine q p ks kvs' g' H' k' (r'.same au.rfl' (by omega)) s' hp ?_
  unfold eY
  rw[tl,if_neg (by omega)];exact mk
 ·refine q p [] kvs g _ (bv.same (au.upd hp)) (r.same (au.upd hp) (by omega)) Sub.rfl' aj ?_
  unfold eY
  rw[tl,if_pos (by omega)];exact .nil
theorem fV:∀(st:List (Int×Key))(x:Key),(dA st x).length=st.length+1
 |[],_=>rfl
 |(t,k)::r,x=>by
  rw[dA]
  by_cases h:t=0
  ·rw[if_pos h,pv,fV r x];rfl
  ·rw[if_neg h,HG,fV r x];rfl
theorem SpW.same {H H':Hp}{ps:List Addr}{st:List (Int×Key)}(w:SpW H ps st)(S:au H H'):SpW H' ps st:=L2.Paired.mapP w fun _ _ h=>S _ _ h
theorem SpW.keep {H H':Hp}{ps:List Addr}{st:List (Int×Key)}(w:SpW H ps st)(S:∀z xs,H z=some (.tup xs)→H' z=some (.tup xs)):SpW H' ps st:=L2.Paired.mapP w fun _ _ h=>S _ _ h
theorem vf {g:List Key→Option Key}{es:List Key}{e:Nat}{st:List (Int×Key)}{t:Int}{k:Key}{s:List Key}{d:Nat}(p:Pth g es e (st++[(t,k)]) s d):
  (t=0∧∃s0,Pth g es e st s0 d∧0<d∧d≤ag s0.length∧2≤s0.length∧s=s0.take (ag s0.length)∧Cur g (s0.drop (ag s0.length)) k)∨
  (t=1∧∃s0 d0,Pth g es e st s0 d0∧ag s0.length<d0∧d0≤s0.length∧2≤s0.length∧s=s0.drop (ag s0.length)∧d=d0- ag s0.length∧Cur g (s0.take (ag s0.length)) k):=by
 generalize h:st++[(t,k)]=u at p
 cases p with
 |nil=>simp at h
 | @lo st' s0 d' k' p h0 h1 h2 c=>
   obtain⟨e1,e2⟩:=IR h rfl
   have e2:(t,k)=((0:Int),k'):=by simpa using e2
   cases e2
   subst e1
   exact .inl ⟨rfl,s0,p,h0,h1,h2,rfl,c⟩
 | @hi st' s0 d' k' p h0 h1 h2 c=>
   obtain⟨e1,e2⟩:=IR h rfl
   have e2:(t,k)=((1:Int),k'):=by simpa using e2
   cases e2
   subst e1
   exact .inr ⟨rfl,s0,d',p,h0,h1,h2,rfl,rfl,c⟩
theorem nA {g:GK}{s0:List Key}{x y w:Key}(h2:2≤s0.length)(cx:Cur g (s0.take (ag s0.length)) x)(cy:Cur g (s0.drop (ag s0.length)) y)(gv:g [.inr "joint",x,y]=some w)(st:iG [.inr "joint",x,y] w)(h60:s0.length≤60):Cur g s0 w:=by
 obtain⟨g1,g2⟩:=be h2
 have tl:(s0.take (ag s0.length)).length=ag s0.length:=by rw[FJ];omega
 have dl:(s0.drop (ag s0.length)).length=s0.length- ag s0.length:=FS
 have jz:=lu (a:=ag s0.length) (c:=s0.length- ag s0.length) (x:=x) (y:=y) g1 (by omega) (by have:=cx.sz;rw[tl]at this;exact this) (by have:=cy.sz;rw[dl]at this;exact this)
 rw[show ag s0.length+(s0.length- ag s0.length)=s0.length by omega]at jz
 refine⟨dJ st (by unfold szB at jz;omega),Gk (eB st) jz,fun h eh=>?_⟩
 rw[dG h h2,←eh _ _ gv,←cx.eq h eh,←cy.eq h eh]
theorem qY {g:GK}{s0:List Key}{d0:Nat}{x y w:Key}(h2:2≤s0.length)(h0:ag s0.length<d0)(h1:d0≤s0.length)(cx:Cur g (s0.take (ag s0.length)) x)(cy:Cur g ((s0.drop (ag s0.length)).take (d0- ag s0.length)) y)(gv:g [.inr "joint",x,y]=some w)(st:iG [.inr "joint",x,y] w)(h60:s0.length≤60):Cur g (s0.take d0) w:=by
 obtain⟨g1,g2⟩:=be h2
 have g3:=hV h2
 have tl:(s0.take (ag s0.length)).length=ag s0.length:=by rw[FJ];omega
 have dl:((s0.drop (ag s0.length)).take (d0- ag s0.length)).length=d0- ag s0.length:=by rw[FJ,FS];omega
 have e:s0.take d0=s0.take (ag s0.length)++(s0.drop (ag s0.length)).take (d0- ag s0.length):=by
  conv=>lhs;rw[show d0=ag s0.length+(d0- ag s0.length)by omega,List.take_add]
 have jz:=lu (a:=ag s0.length) (c:=d0- ag s0.length) (x:=x) (y:=y) g1 (by omega) (by have:=cx.sz;rw[tl]at this;exact this) (by have:=cy.sz;rw[dl]at this;exact this)
 rw[show ag s0.length+(d0- ag s0.length)=d0 by omega]at jz
 refine⟨dJ st (by unfold szB at jz;omega),by rw[FJ,GY h1];exact Gk (eB st) jz,fun h eh=>?_⟩
 rw[e,dL h (a:=ID (s0.length- 1)) tl (by rw[dl];omega) (by rw[dl,tl];omega),←eh _ _ gv,←cx.eq h eh,←cy.eq h eh]
theorem yL (K:pz)(A:Adr):Ln (mT K A) 2:=by rintro vs H Q E ⟨T,p,st,x,rfl,_⟩;rfl
theorem DD (T:Txt K mg A):Rd (mT K A) (EL K A) ["turns","marks","steps","first","last","turn"]:=by
 intro vs H Q E h
 obtain⟨TT,p,st,x,rfl,hT,hp,l5,q⟩:=h
 refine⟨Gc _,fun L hL=>?_⟩
 have S1:au H (upd H L (.lst [])):=au.upd hL
 refine .inl (.inr (.inl ⟨_,SqT.of (S1 _ _ hp),?_⟩))
 rw[FH,fV]
 refine⟨TT,rfl,.inl ⟨⟨_,SqL.of (S1 _ _ hT)⟩,?_⟩⟩
 refine eU (xs:=st.map fun s=>V.int s.1) (fun i σ H'=>∃(ps:List Addr)(a b:List Key)(x5:Option V),σ=[some (.ref TT),some (.ref p),some (.ref L),some (.int (a.length:Int)),some (.int ((a.length+(st.length- i):Nat):Int)),x5]∧dA st x=a++dA (st.drop i) x++b∧H' L=some (.lst (ps.map V.ref))∧SpW H' ps (st.take i)∧au H H')
  ⟨[],[],[],none,?_,by simp,aj,.nil,S1⟩ (fun i σ H' _ h=>?_) (fun i v σ H' hx h=>?_) (fun σ H' h=>?_)
 ·show[some (V.ref TT),some (V.ref p),some (V.ref L),some (V.int 0),some (V.int (((st.length+1:Nat):Int)- 1)),none]=_
  simp
 ·obtain⟨_,_,_,_,_,_,_,_,S⟩:=h
  exact SqL.of (S _ _ hT)
 ·obtain⟨ps,a,b,x5,rfl,ew,hL',sp,S⟩:=h
  obtain⟨⟨t,k⟩,hs,rfl⟩:=eF hx
  have hi:=(FN.mp hs).1
  have ed:st.drop i=(t,k)::st.drop (i+1):=by rw[Lk hi,(FN.mp hs).2]
  have wl:(dA (st.drop (i+1)) x).length=st.length- i:=by rw[fV,FS];omega
  have tk:st.take (i+1)=st.take i++[(t,k)]:=by rw[HQ,hs];rfl
  have pl:ps.length=i:=by have:=Paired.length sp;rw[FJ]at this;omega
  have lt:(ps.map V.ref).length<sizeLine:=by rw[FH];exact aK (by omega)
  have nx1:∀t':Addr,H' t'=none→upd (upd H' t' (.tup [.int t,kV k])) L (.lst (ps.map V.ref++[.ref t'])) L=some (.lst ((ps++[t']).map V.ref))∧SpW (upd (upd H' t' (.tup [.int t,kV k])) L (.lst (ps.map V.ref++[.ref t']))) (ps++[t']) (st.take (i+1))∧au H (upd (upd H' t' (.tup [.int t,kV k])) L (.lst (ps.map V.ref++[.ref t']))):=by
   intro t' ht'
   refine⟨by rw[aj,Gb];rfl,?_,fun z o e=>?_⟩
   ·rw[tk]
    exact Paired.snoc (sp.keep fun z xs h=>by rw[al (aL h hL' (fun z=>nomatch z)),al (aq h ht')];exact h) (by rw[al (Gt (aq hL' ht'))];exact aj)
   ·rw[al (aq e hL),al (aq (S _ _ e) ht')];exact S _ _ e
  have hLn:∀t':Addr,H' t'=none→upd H' t' (.tup [.int t,kV k]) L=some (.lst (ps.map V.ref)):=fun t' ht'=>by rw[al (aq hL' ht')];exact hL'
  rw[ed,dA]at ew
  refine Sel.dec (fun h0=>?_) (fun h0=>?_)
  ·have h0:t=0:=h0
   rw[if_pos h0]at ew
   refine⟨.inl ⟨rfl,_,SqL.of hL'⟩,ixT (j:=a.length+(st.length- i)) (x:=kV k) (S _ _ hp) rfl ?_ ⟨aG (show 2≤1000000 by decide),fun t' ht'=>⟨L,_,.ref t',rfl,rfl,hLn t' ht',lt,?_⟩⟩⟩
   ·rw[ew,GD]
    have:(a++(dA (st.drop (i+1)) x++[k])++b)[a.length+(st.length- i)]?=some k:=by
     rw[GJ,HF (by omega),GJ,HF (by omega)]
     simp[wl]
    rw[this];rfl
   ·obtain⟨n1,n2,n3⟩:=nx1 t' ht'
    refine⟨ps++[t'],a,k::b,some (V.int t),?_,by rw[ew];simp,n1,n2,n3⟩
    show[some (V.ref TT),some (V.ref p),some (V.ref L),some (V.int (a.length:Int)),some (V.int (((a.length+(st.length- i):Nat):Int)- 1)),some (V.int t)]=_
    rw[show((a.length+(st.length- i):Nat):Int)- 1=((a.length+(st.length- (i+1)):Nat):Int)by omega]
  ·have h0:¬t=0:=h0
   rw[if_neg h0]at ew
   refine⟨.inl ⟨rfl,_,SqL.of hL'⟩,ixT (j:=a.length) (x:=kV k) (S _ _ hp) rfl ?_ ⟨aG (show 2≤1000000 by decide),fun t' ht'=>⟨L,_,.ref t',rfl,rfl,hLn t' ht',lt,?_⟩⟩⟩
   ·rw[ew,GD]
    have:(a++k::dA (st.drop (i+1)) x++b)[a.length]?=some k:=by simp
    rw[this];rfl
   ·obtain⟨n1,n2,n3⟩:=nx1 t' ht'
    refine⟨ps++[t'],a++[k],b,some (V.int t),?_,by rw[ew];simp,n1,n2,n3⟩
    show[some (V.ref TT),some (V.ref p),some (V.ref L),some (V.int ((a.length:Int)+1)),some (V.int (((a.length+(st.length- i):Nat):Int))),some (V.int t)]=_
    rw[show((a.length+(st.length- i):Nat):Int)=(((a++[k]).length+(st.length- (i+1)):Nat):Int)by rw[pv];show _=((a.length+1+_:Nat):Int);omega,show(a.length:Int)+1=(((a++[k]).length:Nat):Int)by rw[pv];rfl]
 ·obtain⟨ps,a,b,x5,rfl,ew,hL',sp,S⟩:=h
  rw[FH]at*
  rw[Na]at ew
  rw[GZ]at sp
  refine ixT (j:=a.length) (x:=kV x) (S _ _ hp) rfl ?_ ?_
  ·rw[ew];simp[dA]
  ·refine⟨L,_,rfl,SqL.of hL',fun L2 hL2=>⟨aG (show 2≤1000000 by decide),fun P hP=>?_⟩⟩
   have S2:au H' (upd H' L2 (.lst (ps.map V.ref).reverse)):=au.upd hL2
   have S3:=S2.trans (au.upd (o:=.tup [kV x,.ref L2]) hP)
   refine q P L2 ps.reverse _ (S.trans S3) aj ?_ (SpW.same (nR sp) S3)
   rw[al (Gt (bu hP).1),List.map_reverse];exact aj
theorem Stp.setL {H:Hp}{f b P:Addr}{g:GK}{n:Nat}{xs ys:List V}(s:Stp A H f b g n)(hP:H P=some (.lst xs)):Stp A (upd H P (.lst ys)) f b g n:=s.keep (gV _) fun z o e h1 _ _=>by rw[al (aL e hP (h1 _))];exact e
theorem gm:∀(n m r p:Nat),r≤n→r≤m→bN n r p=bN m r p:=by
 have zero:∀(m r p:Nat),r≤1→bN m r p=[]:=by
  intro m r p h
  cases m with
  |zero=>rfl
  |succ m=>rw[bN,if_pos h]
 intro n
 induction n with
 |zero=>intro m r p h1 h2;rw[zero 0 r p (by omega),zero m r p (by omega)]
 |succ n ih=>
  intro m r p h1 h2
  cases m with
  |zero=>rw[zero (n+1) r p (by omega),zero 0 r p (by omega)]
  |succ m=>
   rw[bN,bN]
   by_cases c:r≤1
   ·rw[if_pos c,if_pos c]
   ·rw[if_neg c,if_neg c]
    obtain⟨g1,g2⟩:=be (n:=r) (by omega)
    rw[ih m (ag r) p (by omega) (by omega),ih m (r- ag r) (p- ag r) (by omega) (by omega)]
theorem rl {r p:Nat}(h:r≤1):bN r r p=[]:=by
 cases r with
 |zero=>rfl
 |succ r=>rw[bN,if_pos h]
theorem pJ {r p:Nat}(h2:2≤r)(h1:p<ag r):bN r r p=0::bN (ag r) (ag r) p:=by
 obtain⟨g1,g2⟩:=be h2
 rw[gm r (r+1) r p (gV _) (by omega),bN,if_neg (by omega),if_pos h1,gm r (ag r) _ _ (by omega) (gV _)]
theorem pI {r p:Nat}(h2:2≤r)(h1:¬p<ag r):bN r r p=1::bN (r- ag r) (r- ag r) (p- ag r):=by
 obtain⟨g1,g2⟩:=be h2
 rw[gm r (r+1) r p (gV _) (by omega),bN,if_neg (by omega),if_neg h1,gm r (r- ag r) _ _ (by omega) (gV _)]
theorem gj:∀(n m:Nat)(s:List Key)(p:Nat),s.length≤n→s.length≤m→di n s p=di m s p:=by
 have zero:∀(m:Nat)(s:List Key)(p:Nat),s.length≤1→di m s p=[]:=by
  intro m s p h
  cases m with
  |zero=>rfl
  |succ m=>rw[di,if_pos h]
 intro n
 induction n with
 |zero=>intro m s p h1 h2;rw[zero 0 s p (by omega),zero m s p (by omega)]
 |succ n ih=>
  intro m s p h1 h2
  cases m with
  |zero=>rw[zero (n+1) s p (by omega),zero 0 s p (by omega)]
  |succ m=>
   rw[di,di]
   by_cases c:s.length≤1
   ·rw[if_pos c,if_pos c]
   ·rw[if_neg c,if_neg c]
    obtain⟨g1,g2⟩:=be (n:=s.length) (by omega)
    rw[ih m (s.take (ag s.length)) p (by rw[FJ];omega) (by rw[FJ];omega),ih m (s.drop (ag s.length)) (p- ag s.length) (by rw[FS];omega) (by rw[FS];omega)]
abbrev wy (s:List Key)(p:Nat):List (List Key):=di s.length s p
theorem yy {s:List Key}{p:Nat}(h:s.length≤1):wy s p=[]:=by
 unfold wy
 cases e:s.length with
 |zero=>rfl
 |succ n=>rw[di,if_pos h]
theorem Ds {s:List Key}{p:Nat}(h2:2≤s.length)(h1:p<ag s.length):wy s p=s.drop (ag s.length)::wy (s.take (ag s.length)) p:=by
 obtain⟨g1,g2⟩:=be h2
 have tl:(s.take (ag s.length)).length=ag s.length:=by rw[FJ];omega
 unfold wy
 rw[gj s.length (s.length+1) s p (gV _) (by omega),di,if_neg (by omega),if_pos h1,gj s.length (s.take (ag s.length)).length _ _ (by rw[tl];omega) (gV _)]
theorem Br {s:List Key}{p:Nat}(h2:2≤s.length)(h1:¬p<ag s.length):wy s p=s.take (ag s.length)::wy (s.drop (ag s.length)) (p- ag s.length):=by
 obtain⟨g1,g2⟩:=be h2
 unfold wy
 rw[gj s.length (s.length+1) s p (gV _) (by omega),di,if_neg (by omega),if_neg h1,gj s.length (s.drop (ag s.length)).length _ _ (by rw[FS];omega) (gV _)]
theorem zi (K:pz)(A:Adr):Ln (jM K A) 2:=by rintro vs H Q E ⟨c,e,rfl,_⟩;rfl
theorem CJ (T:Txt K mg A):Rd (jM K A) (Fz K A) ["place","many","turns","first","rest","ahead"]:=by
 intro vs H Q E h
 obtain⟨c,p,rfl,hpc,hc,q⟩:=h
 refine⟨Gc _,fun L hL=>?_⟩
 refine⟨fun k σ H'=>∃(acc:List Int)(fi r:Nat)(x5:Option V),σ=[some (.int (p:Int)),some (.int (c:Int)),some (.ref L),some (.int (fi:Int)),some (.int (r:Int)),x5]∧k=r∧H'=upd H L (.lst (acc.map V.int))∧acc++bN r r (p- fi)=bN c c p∧fi≤p∧p- fi<r∧acc.length+r≤c,⟨_,[],0,c,none,rfl,rfl,rfl,rfl,Gc _,hpc,by simp⟩,?_⟩
 rintro k σ H' ⟨acc,fi,r,x5,rfl,rfl,rfl,ht,hf,hr,hl⟩
 have lt:(acc.map V.int).length<sizeLine:=by rw[FH];exact aK (by omega)
 have ap:∀t:Int,upd (upd H L (.lst (acc.map V.int))) L (.lst (acc.map V.int++[.int t]))=upd H L (.lst ((acc++[t]).map V.int)):=fun t=>by rw[kT,Gb];rfl
 refine cq (Sel.dec (fun h1=>?_) (fun h1=>?_))
 ·have h2:2≤k:=by have h1:(k:Int)>1:=h1;omega
  obtain⟨g1,g2⟩:=be h2
  refine⟨fun σ H'=>∃j,j<k∧∃(acc:List Int)(fi r:Nat)(x5:Option V),σ=[some (.int (p:Int)),some (.int (c:Int)),some (.ref L),some (.int (fi:Int)),some (.int (r:Int)),x5]∧j=r∧H'=upd H L (.lst (acc.map V.int))∧acc++bN r r (p- fi)=bN c c p∧fi≤p∧p- fi<r∧acc.length+r≤c,fun σ' H' hh=>hh,?_⟩
  refine⟨k,rfl,h2,by omega,Sel.dec (fun h=>?_) (fun h=>?_)⟩
  ·have h:(p:Int)<(fi:Int)+((ag k:Nat):Int):=h
   refine⟨.inl ⟨rfl,_,SqL.of aj⟩,L,_,_,rfl,rfl,aj,lt,?_⟩
   refine⟨ag k,g2,acc++[0],fi,ag k,_,rfl,rfl,ap 0,?_,hf,by omega,by rw[pv];show _+1+_≤_;omega⟩
   rw[pJ h2 (by omega)]at ht
   rw[GJ];exact ht
  ·have h:¬(p:Int)<(fi:Int)+((ag k:Nat):Int):=h
   refine⟨.inl ⟨rfl,_,SqL.of aj⟩,L,_,_,rfl,rfl,aj,lt,?_⟩
   refine⟨k- ag k,by omega,acc++[1],fi+ag k,k- ag k,some (.int ((ag k:Nat):Int)),?_,rfl,ap 1,?_,by omega,by omega,by rw[pv];show _+1+_≤_;omega⟩
   ·rw[Ib (by omega),IE];rfl
   ·rw[pI h2 (by omega)]at ht
    rw[GJ,show p- (fi+ag k)=p- fi- ag k by omega];exact ht
 ·have h1:¬(k:Int)>1:=h1
  rw[rl (by omega),GW]at ht
  exact q L _ hL (au.upd hL) (by rw[ht];exact aj)
theorem cE.setM {H:Hp}{x f L D b M:Addr}{es:List Key}{kvs:List (List Key×Key)}{g:GK}{n:Nat}{xs ys:List V}(r:cE A H x f L D b es kvs g n)(hM:H M=some (.lst xs))(ne:L≠M):cE A (upd H M (.lst ys)) x f L D b es kvs g n:=by
 obtain⟨dx,hx⟩:=r.r.ob
 exact⟨⟨⟨dx,by rw[al (aL hx hM (fun z=>nomatch z))];exact hx⟩,by rw[al ne];exact r.r.hl,by rw[al (aL r.r.hd hM (fun z=>nomatch z))];exact r.r.hd,r.r.en,r.r.le⟩,r.s.setL hM,r.c,r.db,r.kl⟩
structure Pp (A:Adr)(H H':Hp)(x f L D b M W:Addr)(es:List Key)(c p fi m i:Nat)(g g':GK)(n:Nat)(ks:List Key):Prop where
 fp:fi≤p
 pm:p- fi<m
 fm:fi+m≤c
 tr:(bN c c p).drop i=bN m m (p- fi)
 hM:H' M=some (.lst (ks.map kV))
 hW:H' W=some (.lst ((bN c c p).map V.int))
 k2:bv b D H H'
 r:∃kvs N,cE A H' x f L D b es kvs g' N∧N+2*m≤n+2*c
 sub:Sub g g'
 ss:∃ss,Mks g' ss ks∧di c (es.take c) p=ss++wy ((es.drop fi).take m) (p- fi)
 kl:ks.length+m≤c
theorem BH (K:pz)(A:Adr):Ln (iF K A) 3:=by rintro vs H Q E ⟨x,f,L,D,b,es,kvs,g,n,c,e,rfl,_⟩;rfl
theorem EN (T:Txt K mg A):Rd (iF K A) (T_6 K A) ["self","count","place","marks","first","many","turn","ahead"]:=by
 intro vs H Q E h
 obtain⟨x,f,L,D,b,es,kvs,g,n,c,p,rfl,r,hc,hpc,hn,q⟩:=h
 obtain⟨dx,hx⟩:=r.r.ob
 have l60:=r.r.le
 have tl:(es.take c).length=c:=by rw[FJ];omega
 refine⟨x,dx,_,rfl,hx,rfl,x,f,L,D,es,kvs,_,_,rfl,r.r,by omega,by omega,by omega,Sel.no rfl ⟨Gc _,fun M hM=>?_⟩⟩
 have LM:L≠M:=aq r.r.hl hM
 have S1:au H (upd H M (.lst [])):=au.upd hM
 have hM1:upd H M (.lst []) M=some (.lst (([]:List Key).map kV)):=aj
 generalize upd H M (.lst [])=H1 at S1 hM1
 refine⟨c,p,rfl,hpc,by omega,fun W H2 hWn S2 hW=>⟨W,rfl,.inl ⟨⟨_,SqL.of hW⟩,?_⟩⟩⟩
 have MW:W≠M:=Gt (aq hM1 hWn)
 refine eU (xs:=(bN c c p).map V.int) (fun i σ H'=>∃(fi m:Nat)(ks:List Key)(g':GK)(x6 x7:Option V),σ=[some (.ref x),some (.int (c:Int)),some (.int (p:Int)),some (.ref M),some (.int (fi:Int)),some (.int (m:Int)),x6,x7]∧Pp A H H' x f L D b M W es c p fi m i g g' n ks)
  ⟨0,c,[],g,none,none,rfl,Gc _,hpc,by omega,rfl,S2 _ _ hM1,hW,bv.same (S1.trans S2),⟨kvs,n,r.same (S1.trans S2) (gV _),gV _⟩,Sub.rfl',⟨[],.nil,by rw[Lj,Jq];unfold wy;rw[tl];rfl⟩,by simp⟩
  (fun i σ H' _ h=>?_) (fun i v σ H' hx' h=>?_) (fun σ H' h=>?_)
 ·obtain⟨_,_,_,_,_,_,_,pp⟩:=h
  exact SqL.of pp.hW
 ·obtain⟨fi,m,ks,g',x6,x7,rfl,pp⟩:=h
  obtain⟨fp,pm,fm,tr,hM',hW',k2,⟨kv,N,r',hN⟩,sub,⟨ss,ms,es'⟩,kl⟩:=pp
  obtain⟨t,ht,rfl⟩:=eF hx'
  have hi:=(FN.mp ht).1
  have ed:(bN c c p).drop i=t::(bN c c p).drop (i+1):=by rw[Lk hi,(FN.mp ht).2]
  rw[ed]at tr
  have m2:2≤m:=by
   rcases Mc m 2 with h|h
   ·rw[rl (r:=m) (by omega)]at tr;cases tr
   ·exact h
  obtain⟨g1,g2⟩:=be m2
  obtain⟨dx',hxx⟩:=r'.r.ob
  have sl:((es.drop fi).take m).length=m:=by rw[FJ,FS];omega
  have tk:((es.drop fi).take m).take (ag m)=(es.drop fi).take (ag m):=by rw[If,GY (by omega)]
  have dp:((es.drop fi).take m).drop (ag m)=(es.drop (fi+ag m)).take (m- ag m):=by rw[JY,Ll]
  have l1:((es.drop fi).take (ag m)).length=ag m:=by rw[FJ,FS];omega
  have l2:((es.drop (fi+ag m)).take (m- ag m)).length=m- ag m:=by rw[FJ,FS];omega
  have lt:(ks.map kV).length<sizeLine:=by rw[FH];exact aK (by omega)
  obtain⟨nM,nM2⟩:=r'.n2 hM' (fun _ z=>nomatch z) (fun _ z=>nomatch z)
  obtain⟨nW,nW2⟩:=r'.n2 hW' (fun _ z=>nomatch z) (fun _ z=>nomatch z)
  have app:∀v:Key,ks.map kV++[kV v]=(ks++[v]).map kV:=fun v=>by rw[Gb];rfl
  refine⟨m,rfl,m2,by omega,?_⟩
  by_cases hp:p- fi<ag m
  ·rw[pJ m2 hp]at tr
   have tr2:=(Ir tr).2
   obtain rfl:=(Ir tr).1
   rw[Ds (by rw[sl];exact m2) (by rw[sl];exact hp),sl,tk,dp]at es'
   refine Sel.dec (fun _=>?_) (fun h=>absurd rfl h)
   refine⟨.inl ⟨rfl,_,SqL.of hM'⟩,x,dx',_,rfl,hxx,rfl,x,f,L,D,b,es,kv,g',N,fi+ag m,m- ag m,?_,r',by omega,by omega,by omega,fun v kv2 g2' H3 k3 r3 sub3 okv szv ev=>?_⟩
   ·rw[IE,Ib (by omega)]
   have hM3:=k3 _ _ nM nM2 hM'
   refine⟨M,_,kV v,rfl,rfl,hM3,lt,?_⟩
   rw[app]
   refine⟨fi,ag m,ks++[v],g2',_,_,rfl,fp,hp,by omega,tr2,aj,by rw[al MW];exact k3 _ _ nW nW2 hW',fun z o n1 n2 e=>?_,⟨kv2,_,r3.setM hM3 LM,by omega⟩,sub.trans sub3,⟨ss++[(es.drop (fi+ag m)).take (m- ag m)],Paired.snoc (Mks.mono ms sub3) ⟨okv,by rw[l2];exact szv,ev⟩,by rw[es'];simp⟩,by rw[pv];show ks.length+1+_≤_;omega⟩
   rw[al (aq e hM)];exact k3 _ _ n1 n2 (k2 _ _ n1 n2 e)
  ·rw[pI m2 hp]at tr
   have tr2:=(Ir tr).2
   obtain rfl:=(Ir tr).1
   rw[Br (by rw[sl];exact m2) (by rw[sl];exact hp),sl,tk,dp]at es'
   refine Sel.dec (fun h=>absurd h (by decide)) (fun _=>?_)
   refine⟨.inl ⟨rfl,_,SqL.of hM'⟩,x,dx',_,rfl,hxx,rfl,x,f,L,D,b,es,kv,g',N,fi,ag m,rfl,r',by omega,by omega,by omega,fun v kv2 g2' H3 k3 r3 sub3 okv szv ev=>?_⟩
   have hM3:=k3 _ _ nM nM2 hM'
   refine⟨M,_,kV v,rfl,rfl,hM3,lt,?_⟩
   rw[app]
   refine⟨fi+ag m,m- ag m,ks++[v],g2',some (.int 1),some (.int ((ag m:Nat):Int)),?_,by omega,by omega,by omega,by rw[show p- (fi+ag m)=p- fi- ag m by omega];exact tr2,aj,by rw[al MW];exact k3 _ _ nW nW2 hW',fun z o n1 n2 e=>?_,⟨kv2,_,r3.setM hM3 LM,by omega⟩,sub.trans sub3,⟨ss++[(es.drop fi).take (ag m)],Paired.snoc (Mks.mono ms sub3) ⟨okv,by rw[l1];exact szv,ev⟩,by rw[es',show p- (fi+ag m)=p- fi- ag m by omega];simp⟩,by rw[pv];show ks.length+1+_≤_;omega⟩
   ·rw[Ib (by omega),IE];rfl
   ·rw[al (aq e hM)];exact k3 _ _ n1 n2 (k2 _ _ n1 n2 e)
 ·obtain⟨fi,m,ks,g',x6,x7,rfl,pp⟩:=h
  obtain⟨fp,pm,fm,tr,hM',hW',k2,⟨kv,N,r',hN⟩,sub,⟨ss,ms,es'⟩,kl⟩:=pp
  rw[FH,Na]at tr
  have m1:m≤1:=by
   rcases Mc m 2 with h|h
   ·omega
   ·by_cases hp:p- fi<ag m
    ·rw[pJ h hp]at tr;cases tr
    ·rw[pI h hp]at tr;cases tr
  rw[yy (by rw[FJ];omega),GW]at es'
  obtain⟨dx',hxx⟩:=r'.r.ob
  obtain⟨e,he⟩:∃e,es[p]?=some e:=⟨_,FQ (by omega)⟩
  refine⟨x,A.c_Row,dx',_,.ref L,rfl,hxx,T.cl_Row,T.na_Row_entries,rfl,ixL r'.r.hl rfl (by rw[GD,he];rfl) ?_⟩
  refine⟨M,_,rfl,.inl ⟨SqL.of hM',fun T hT=>⟨aG (show 2≤1000000 by decide),fun P hP=>?_⟩⟩⟩
  have S5:=(au.upd (o:=.tup (ks.map kV)) hT).trans (au.upd (o:=.tup [kV e,.ref T]) hP)
  exact q P T e ks kv g' _ (k2.trans (bv.same S5)) (r'.same S5 (by omega)) sub ⟨aj,au.upd hP _ _ aj⟩ he (by rw[es'];exact ms)
theorem qW {H:Hp}{f b L q0:Addr}{g:GK}{N:Nat}{qs:List V}{k:List Key}{R:VK}(s:Stp A H f b g N)(hN:N≤44000)(hL:H L=some (.lst qs))(hq:H q0=some (.tup (k.map kV)))(ok:okT k=true)
  (c:∀(v:Key)(H':Hp)(g':GK),aR b (upd H L (.lst (qs++[.ref q0]))) H'→Stp A H' f b g' (N+1)→Sub g g'→g' k=some v→iG k v→R (kV v) H'):jV (cr K A) f [.ref q0] (upd H L (.lst (qs++[.ref q0]))) R E0:=by
 refine bV (s.keep (gV _) fun z o e h1 _ _=>?_) (by omega) ?_ ok c
 ·rw[al (aL e hL (h1 _))];exact e
 ·rw[al (aL hq hL (fun z=>nomatch z))];exact hq
structure Gr (A:Adr)(H0 H:Hp)(f b Ly Lo:Addr)(g0 g:GK)(N:Nat)(py po:List Addr)(ty to:List (List Key)):Prop where
 s:Stp A H f b g N
 sub:Sub g0 g
 kb:aR b H0 H
 hy:H Ly=some (.lst (py.map V.ref))
 ho:H Lo=some (.lst (po.map V.ref))
 wy:PK H py ty
 wo:PK H po to
theorem PK.keep {H H':Hp}{ps:List Addr}{ts:List (List Key)}(w:PK H ps ts)(k:∀z xs,H z=some (.tup xs)→H' z=some (.tup xs)):PK H' ps ts:=L2.Paired.mapP w fun _ _ h=>⟨k _ _ h.1,h.2⟩
theorem PK.snoc {H:Hp}{ps:List Addr}{ts:List (List Key)}{p:Addr}{k:List Key}(w:PK H ps ts)(h:H p=some (.tup (k.map kV))∧okT k=true):PK H (ps++[p]) (ts++[k]):=dF w (.cons h .nil)
theorem Gr.app {H0 H:Hp}{f b Ly Lo q0:Addr}{g0 g:GK}{N:Nat}{py po:List Addr}{ty to:List (List Key)}{k:List Key}{R:VK}(w:Gr A H0 H f b Ly Lo g0 g N py po ty to)(hy0:H0 Ly=none)(ne:Ly≠Lo)(hN:N≤44000)(hq:H q0=none)(ok:okT k=true)
  (c:∀(v:Key)(H':Hp)(g':GK),Gr A H0 H' f b Ly Lo g0 g' (N+1) (py++[q0]) po (ty++[k]) to→Sub g g'→(∀z xs,H z=some (.tup xs)→H' z=some (.tup xs))→g' k=some v→iG k v→R (kV v) H'):jV (cr K A) f [.ref q0] (upd (upd H q0 (.tup (k.map kV))) Ly (.lst (py.map V.ref++[.ref q0]))) R E0:=by
 have S1:au H (upd H q0 (.tup (k.map kV))):=au.upd hq
 refine qW (w.s.same (gV _) S1) hN (S1 _ _ w.hy) aj ok fun v H' g' kb s' sub gv st=>?_
 have s1:=w.s.same (gV _) S1
 have nLy:Ly≠b:=s1.nb (S1 _ _ w.hy) (fun _ z=>nomatch z) (fun _ z=>nomatch z)
 have nLo:Lo≠b:=s1.nb (S1 _ _ w.ho) (fun _ z=>nomatch z) (fun _ z=>nomatch z)
 have kt:∀z xs,upd H q0 (.tup (k.map kV)) z=some (.tup xs)→H' z=some (.tup xs):=fun z xs e=>kb _ _ (s1.nb e (fun _ z=>nomatch z) (fun _ z=>nomatch z)) (by rw[al (aL e (S1 _ _ w.hy) (fun z=>nomatch z))];exact e)
 have kt0:∀z xs,H z=some (.tup xs)→H' z=some (.tup xs):=fun z xs e=>kt z xs (S1 _ _ e)
 refine c v H' g' ⟨s',w.sub.trans sub,fun z o n e=>?_,by rw[Gb];exact kb _ _ nLy aj,kb _ _ nLo (by rw[al (Gt ne)];exact S1 _ _ w.ho),PK.snoc (w.wy.keep kt0) ⟨kt _ _ aj,ok⟩,w.wo.keep kt0⟩ sub kt0 gv st
 exact kb _ _ n (by rw[al (aq e hy0)];exact S1 _ _ (w.kb z o n e))
theorem Gr.swap {H0 H:Hp}{f b Ly Lo:Addr}{g0 g:GK}{N:Nat}{py po:List Addr}{ty to:List (List Key)}(w:Gr A H0 H f b Ly Lo g0 g N py po ty to):Gr A H0 H f b Lo Ly g0 g N po py to ty:=⟨w.s,w.sub,w.kb,w.ho,w.hy,w.wo,w.wy⟩
theorem Cov.mono {h:List Key→Key}{ts us:List (List Key)}{s:List Key}(c:Cov h ts s)(k:∀t∈ts,t∈us):Cov h us s:=by
 induction c with
 |pow e=>exact .pow e
 |hi h2 m _ ih=>exact .hi h2 (k _ m) ih
theorem rY {n d:Nat}(h2:2≤n)(h0:ag n<d)(h1:d≤n):ag d=ag n:=by
 have t:=hV h2
 have e:d=2^ID (n- 1)+(d- ag n):=by unfold ag at h0⊢;omega
 rw[e,jC (by omega) (by unfold ag at t h0⊢;omega)];rfl
theorem xg {g:List Key→Option Key}{es:List Key}{e:Nat}{st:List (Int×Key)}{s:List Key}{d:Nat}(p:Pth g es e st s d)(h:e<es.length):d<s.length∨∃k,s.length=2^k:=by
 induction p with
 |nil=>exact .inl h
 | @lo st s d k _ h0 h1 h2 _ ih=>
   refine .inr ⟨ID (s.length- 1),?_⟩
   have:=be h2
   rw[FJ,GY (by omega)];rfl
 | @hi st s d k _ h0 h1 h2 _ ih=>
   rcases ih with ih|⟨k,ih⟩
   ·left;rw[FS];omega
   ·right
    cases k with
    |zero=>rw[ih]at h2;simp at h2
    |succ k=>
     refine⟨k,?_⟩
     have e1:2^(k+1)=2^k+2^k:=by rw[Jr];omega
     have hp:0<2^k:=Jh k
     rw[FS,ih,e1,jC (by omega) (gV _)];omega
theorem Pth.len {g:GK}{es:List Key}{e:Nat}{st:List (Int×Key)}{s:List Key}{d:Nat}(p:Pth g es e st s d):s.length≤es.length:=by
 induction p with
 |nil=>exact gV _
 |lo _ _ _ _ _ ih=>rw[FJ];omega
 |hi _ _ _ _ _ ih=>rw[FS];omega
theorem Aq (K:pz)(A:Adr):Ln (mU K A) 4:=by rintro vs H Q E ⟨f,b,P,L,ps,es,s,e,st,x,g,n,rfl,_⟩;rfl
theorem Bp (T:Txt K mg A):Rd (mU K A) (Eo K A) ["stamper","count","elder","steps","younger","older","top","older_top","step"]:=by
 intro vs H Q E h
 obtain⟨f,b,P,L,ps,es,s,e,st,x,g,n,rfl,s0,hn,l60,elt,st60,s1,hP,hL,sp,pt,cx,q⟩:=h
 refine⟨Gc _,fun Ly hLy=>⟨Gc _,fun Lo hLo=>?_⟩⟩
 obtain⟨nLo,hLo0⟩:=bu hLo
 have S1:au H (upd (upd H Ly (.lst [])) Lo (.lst [])):=(au.upd hLy).put hLo0
 have hy:upd (upd H Ly (.lst [])) Lo (.lst []) Ly=some (.lst []):=by rw[al (Gt nLo)];exact aj
 have ho:upd (upd H Ly (.lst [])) Lo (.lst []) Lo=some (.lst []):=aj
 generalize upd (upd H Ly (.lst [])) Lo (.lst [])=H1 at S1 hy ho
 have hLo0':H Lo=none:=(bu hLo).2
 have nP:P≠b:=s0.nb hP (fun _ z=>nomatch z) (fun _ z=>nomatch z)
 have nL:L≠b:=s0.nb hL (fun _ z=>nomatch z) (fun _ z=>nomatch z)
 have plen:ps.length=st.length:=by have:=Paired.length sp;rw[Kd]at this;exact this
 refine ixT (j:=0) (S1 _ _ hP) rfl rfl (ixT (j:=0) (S1 _ _ hP) rfl rfl (ixT (j:=1) (S1 _ _ hP) rfl rfl ⟨L,rfl,.inl ⟨⟨_,SqL.of (S1 _ _ hL)⟩,?_⟩⟩))
 refine eU (xs:=ps.map V.ref) (fun i σ H'=>∃(s:List Key)(d N:Nat)(top otop:Key)(g':GK)(py po:List Addr)(ty to:List (List Key))(x8:Option V),σ=[some (.ref f),some (.int (es.length:Int)),some (.int (e:Int)),some (.ref P),some (.ref Ly),some (.ref Lo),some (kV top),some (kV otop),x8]∧Pth g es e (st.take (st.length- i)) s d∧1≤d∧d≤s.length∧s.length≤60∧Cur g' s top∧Cur g' (s.take d) otop∧Gr A H H' f b Ly Lo g g' N py po ty to∧N≤n+2*i∧py.length≤i∧po.length≤i∧∀h,Ext g' h→Cov h to (s.take d))
  ⟨s,s.length,n,x,x,g,[],[],[],[],none,rfl,?_,s1,gV _,?_,cx,by rw[GZ];exact cx,⟨s0.same (gV _) S1,Sub.rfl',aR.same S1,hy,ho,.nil,.nil⟩,by omega,Gc _,Gc _,fun h _=>?_⟩ (fun i σ H' _ h=>?_) (fun i v σ H' hx h=>?_) (fun σ H' h=>?_)
 ·rw[Jq,GZ];exact pt
 ·have:=pt.len;omega
 ·rw[GZ]
  rcases xg pt elt with h|⟨k,h⟩
  ·exact absurd h (GP _)
  ·exact .pow h
 ·obtain⟨_,_,_,_,_,_,_,_,_,_,_,_,_,_,_,_,_,_,w,_⟩:=h
  exact SqL.of (w.kb _ _ nL hL)
 ·obtain⟨s,d,N,top,otop,g',py,po,ty,to,x8,rfl,p,d1,ds,sl,ct,co,w,hN,ly,lo,cov⟩:=h
  obtain⟨p0,hp0,rfl⟩:=eF hx
  have hi:=(FN.mp hp0).1
  have hr:st.reverse[i]?=st[st.length- 1- i]?:=HH (by omega)
  obtain⟨⟨t,k⟩,hs⟩:∃tk,st[st.length- 1- i]?=some tk:=⟨_,FQ (by omega)⟩
  have hp1:H p0=some (.tup [.int t,kV k]):=by
   have:=nC sp hp0 (hr.trans hs)
   exact this
  have hp':H' p0=some (.tup [.int t,kV k]):=w.kb _ _ (s0.nb hp1 (fun _ z=>nomatch z) (fun _ z=>nomatch z)) hp1
  have tk:st.take (st.length- i)=st.take (st.length- (i+1))++[(t,k)]:=by
   rw[show st.length- i=st.length- 1- i+1 by omega,HQ,hs,show st.length- (i+1)=st.length- 1- i by omega];rfl
  rw[tk]at p
  have nyo:Ly≠Lo:=Gt nLo
  have lty:(py.map V.ref).length<sizeLine:=aK (by rw[FH];omega)
  have lto:(po.map V.ref).length<sizeLine:=aK (by rw[FH];omega)
  have hLo0':H Lo=none:=hLo0
  refine⟨.inl ⟨rfl,_,SqL.of w.hy⟩,ixT (j:=0) hp' rfl rfl (ixT (j:=1) hp' rfl rfl ⟨t,top,k,rfl,fun q0 hq0=>⟨Ly,_,.ref q0,rfl,rfl,by rw[al (aq w.hy hq0)];exact w.hy,lty,?_⟩⟩)⟩
  have nyq:=aq w.hy hq0
  have wS:=w.s.same (gV _) (au.upd (o:=.tup ((jtT t top k).map kV)) hq0)
  rcases vf p with⟨rfl,s2,p2,h0,h1,h2,rfl,ck⟩|⟨rfl,s2,d2,p2,h0,h1,h2,rfl,rfl,ck⟩
  ·have l2:=p2.len
   have ck':=ck.mono w.sub
   refine⟨f,rfl,?_,dr aj ?_⟩
   ·refine(wS.keep (gV _) fun z o e h1 _ _=>?_).clo
    rw[al (aL e (show upd H' q0 _ Ly=some (.lst (py.map V.ref))by rw[al nyq];exact w.hy) (h1 _))];exact e
   dsimp only[ak]
   refine w.app hLy nyo (by omega) hq0 (k:=[.inr "joint",top,k]) (eC ct.ok ck'.ok) fun v H3 g3 w3 sub3 kt gv st3=>?_
   have cv:Cur g3 s2 v:=nA h2 (ct.mono sub3) (ck'.mono sub3) gv st3 (by omega)
   have co':Cur g3 (s2.take d) otop:=by
    have:=co.mono sub3
    rw[If,GY h1]at this;exact this
   refine ixT (j:=0) (kt _ _ hp') rfl rfl (Sel.no rfl ?_)
   exact⟨s2,d,N+1,v,otop,g3,_,po,_,to,_,rfl,p2,d1,by have:=be h2;omega,by omega,cv,co',w3,by omega,by rw[pv];show _+1≤_;omega,by omega,fun h eh=>by
    have:=cov h (Ext.of sub3 eh)
    rw[If,GY h1]at this;exact this⟩
  ·have l2:=p2.len
   have ck':=ck.mono w.sub
   refine⟨f,rfl,?_,dr aj ?_⟩
   ·refine(wS.keep (gV _) fun z o e h1 _ _=>?_).clo
    rw[al (aL e (show upd H' q0 _ Ly=some (.lst (py.map V.ref))by rw[al nyq];exact w.hy) (h1 _))];exact e
   dsimp only[ak]
   refine w.app hLy nyo (by omega) hq0 (k:=[.inr "joint",k,top]) (eC ck'.ok ct.ok) fun v H3 g3 w3 sub3 kt gv st3=>?_
   have cv:Cur g3 s2 v:=nA h2 (ck'.mono sub3) (ct.mono sub3) gv st3 (by omega)
   refine ixT (j:=0) (kt _ _ hp') rfl rfl (Sel.yes rfl ?_)
   refine⟨.inl ⟨rfl,_,SqL.of w3.ho⟩,ixT (j:=0) (kt _ _ hp') rfl rfl (ixT (j:=1) (kt _ _ hp') rfl rfl ⟨1,otop,k,rfl,fun q1 hq1=>⟨Lo,_,.ref q1,rfl,rfl,by rw[al (aq w3.ho hq1)];exact w3.ho,lto,?_⟩⟩)⟩
   refine⟨f,rfl,?_,dr aj ?_⟩
   ·refine((w3.s.same (gV _) (au.upd (o:=.tup ((jtT 1 otop k).map kV)) hq1)).keep (gV _) fun z o e h1 _ _=>?_).clo
    rw[al (aL e (show upd H3 q1 _ Lo=some (.lst (po.map V.ref))by rw[al (aq w3.ho hq1)];exact w3.ho) (h1 _))];exact e
   dsimp only[ak]
   refine w3.swap.app hLo0' nLo (by omega) hq1 (k:=[.inr "joint",k,otop]) (eC ck'.ok co.ok) fun u H4 g4 w4 sub4 kt4 gv4 st4=>?_
   have co':Cur g4 (s2.take d2) u:=qY h2 h0 h1 ((ck'.mono sub3).mono sub4) ((co.mono sub3).mono sub4) gv4 st4 (by omega)
   refine⟨s2,d2,N+2,v,u,g4,_,_,_,_,_,rfl,p2,by omega,h1,by omega,cv.mono sub4,co',w4.swap,by omega,by rw[pv];show _+1≤_;omega,by rw[pv];show _+1≤_;omega,fun h eh=>?_⟩
   have tl:(s2.take d2).length=d2:=by rw[FJ];omega
   have hh:=rY h2 h0 h1
   have g1:=(be h2).1
   have ed:(s2.take d2).drop (ag (s2.take d2).length)=(s2.drop (ag s2.length)).take (d2- ag s2.length):=by rw[tl,hh,JY]
   have et:(s2.take d2).take (ag (s2.take d2).length)=s2.take (ag s2.length):=by rw[tl,hh,If,GY (by omega)]
   refine .hi (by omega) ?_ ?_
   ·rw[dG h (by omega),et,ed,←((ck'.mono sub3).mono sub4).eq h eh,←((co.mono sub3).mono sub4).eq h eh]
    exact Gs.mpr (.inr (FU.mpr rfl))
   ·rw[ed]
    exact(cov h (Ext.of (sub3.trans sub4) eh)).mono fun t m=>Gs.mpr (.inl m)
 ·obtain⟨s,d,N,top,otop,g',py,po,ty,to,x8,rfl,p,d1,ds,sl,ct,co,w,hN,ly,lo,cov⟩:=h
  rw[FH,plen]at*
  rw[Nat.sub_self,Lg]at p
  generalize hst:([]:List (Int×Key))=st0 at p
  cases p with
  |lo _ _ _ _ _=>simp at hst
  |hi _ _ _ _ _=>simp at hst
  |nil=>
  have hY0:∀(z:Addr)(o:HO),H z=some o→z≠Ly:=fun z o e=>aq e hLy
  have okr:okT (rwK es.length top)=true:=eE (by omega) ct.ok
  have oko:okT (rwK e otop)=true:=eE (by omega) co.ok
  refine⟨.inl ⟨rfl,_,SqL.of w.hy⟩,aG (show 3≤1000000 by decide),fun y hpy=>⟨Ly,_,.ref y,rfl,rfl,by rw[al (aq w.hy hpy)];exact w.hy,aK (by rw[FH];omega),?_⟩⟩
  have n1:Ly≠y:=aq w.hy hpy
  have n2:Lo≠y:=aq w.ho hpy
  have ho3:upd (upd H' y (.tup [.str "row",.int (es.length:Int),kV top])) Ly (.lst (py.map V.ref++[.ref y])) Lo=some (.lst (po.map V.ref)):=by rw[al nLo,al n2];exact w.ho
  have hy3:upd (upd H' y (.tup [.str "row",.int (es.length:Int),kV top])) Ly (.lst (py.map V.ref++[.ref y])) Ly=some (.lst (py.map V.ref++[.ref y])):=aj
  have hpy3:upd (upd H' y (.tup [.str "row",.int (es.length:Int),kV top])) Ly (.lst (py.map V.ref++[.ref y])) y=some (.tup [.str "row",.int (es.length:Int),kV top]):=by rw[al (Gt n1)];exact aj
  have kt3:∀z xs,H' z=some (.tup xs)→upd (upd H' y (.tup [.str "row",.int (es.length:Int),kV top])) Ly (.lst (py.map V.ref++[.ref y])) z=some (.tup xs):=fun z xs e=>by rw[al (aL e w.hy (fun z=>nomatch z)),al (aq e hpy)];exact e
  have s3:Stp A (upd (upd H' y (.tup [.str "row",.int (es.length:Int),kV top])) Ly (.lst (py.map V.ref++[.ref y]))) f b g' N:=by
   refine w.s.keep (gV _) fun z o e h1 _ _=>?_
   rw[al (aL e w.hy (h1 _)),al (aq e hpy)];exact e
  have kb3:aR b H (upd (upd H' y (.tup [.str "row",.int (es.length:Int),kV top])) Ly (.lst (py.map V.ref++[.ref y]))):=fun z o n e=>by
   rw[al (aq e hLy),al (aq (w.kb z o n e) hpy)];exact w.kb z o n e
  generalize upd (upd H' y (.tup [.str "row",.int (es.length:Int),kV top])) Ly (.lst (py.map V.ref++[.ref y]))=H3 at ho3 hy3 hpy3 s3 kb3 kt3
  refine⟨.inl ⟨rfl,_,SqL.of ho3⟩,aG (show 3≤1000000 by decide),fun o hpo=>⟨Lo,_,.ref o,rfl,rfl,by rw[al (aq ho3 hpo)];exact ho3,aK (by rw[FH];omega),aG (show 2≤1000000 by decide),fun P2 hP2=>?_⟩⟩
  obtain⟨m1,hP2⟩:=bu hP2
  obtain⟨m2,hP2⟩:=bu hP2
  have n3:Lo≠o:=aq ho3 hpo
  have n4:Ly≠o:=aq hy3 hpo
  have n6:Ly≠P2:=aq hy3 hP2
  have kt4:∀z xs,H3 z=some (.tup xs)→upd (upd (upd H3 o (.tup [.str "row",.int (e:Int),kV otop])) Lo (.lst (po.map V.ref++[.ref o]))) P2 (.tup [.ref Ly,.ref Lo]) z=some (.tup xs):=fun z xs e=>by rw[al (aq e hP2),al (aL e ho3 (fun z=>nomatch z)),al (aq e hpo)];exact e
  have wl:=cT w.wy
  have wl2:=cT w.wo
  refine q P2 Ly Lo y o py po ty to top otop g' _ (fun z o n e=>?_) (s3.keep (by omega) fun z o e h1 _ _=>?_) w.sub aj ?_ ?_ (PK.snoc ((w.wy.keep kt3).keep kt4) ⟨kt4 _ _ hpy3,okr⟩) (PK.snoc ((w.wo.keep kt3).keep kt4) ⟨?_,oko⟩) (by omega) (by omega) ct co cov
  ·have ez:=kb3 z o n e
   rw[al (aq ez hP2),al (aq e hLo0'),al (aq ez hpo)];exact ez
  ·rw[al (aq e hP2),al (aL e ho3 (h1 _)),al (aq e hpo)];exact e
  ·rw[al n6,al (Gt nLo),al n4,Gb];exact hy3
  ·rw[al (Gt m1),aj,Gb];rfl
  ·rw[al (Gt m2),al (Gt n3)];exact aj
theorem xp {g:GK}{es ks:List Key}(h:es.length≠0)(m:Mks g (eY es 0) ks):∃k,ks=[k]∧Cur g es k:=by
 unfold eY at m
 rw[if_neg h]at m
 have m:Mks g (gr es 0) ks:=m
 rw[kj (.inl rfl)]at m
 cases m with
 |cons c t=>cases t;exact⟨_,rfl,c⟩
theorem lM {g:GK}{es ks:List Key}{e:Nat}(h1:1≤e)(h2:e≤es.length)(m:Mks g (eY es e) ks):∃st x s,ks=dA st x∧st.map (·.1)=trF es.length es.length e∧Pth g es e st s s.length∧1≤s.length∧Cur g s x∧st.length+1≤es.length:=by
 unfold eY at m
 rw[if_neg (by omega)]at m
 obtain⟨st,x,s,e1,e2,e3,e4,e5,e6⟩:=xo es.length es e [] ks (gV _) h1 h2 .nil m
 exact⟨st,x,s,e1,e2,e3,e4,e5,e6⟩
theorem wC {g:GK}{es ks:List Key}{e:Nat}(h:es.length≠0)(h2:e≤es.length)(m:Mks g (eY es e) ks):ks.length=(trF es.length es.length e).length+1∧ks.length≤es.length:=by
 by_cases c:e=0
 ·subst c
  obtain⟨k,rfl,_⟩:=xp h m
  rw[rK (.inl rfl)];exact⟨rfl,by show 1≤_;omega⟩
 ·obtain⟨st,x,s,e1,e2,_,_,_,e6⟩:=lM (by omega) h2 m
  rw[←e2,e1,fV,FH];exact⟨rfl,e6⟩
theorem xb {g:GK}{es ks:List Key}{e:Nat}(h:es.length=0)(m:Mks g (eY es e) ks):ks=[]:=by
 unfold eY at m
 rw[if_pos h]at m
 cases m;rfl
theorem PK.last {H:Hp}{ps:List Addr}{ts:List (List Key)}{p:Addr}{k:List Key}(w:PK H (ps++[p]) (ts++[k])):H p=some (.tup (k.map kV))∧okT k=true:=by
 obtain⟨ks',k',e,_,h⟩:=iU w
 obtain⟨_,e2⟩:=IR e rfl
 cases e2;exact h
theorem zn (K:pz)(A:Adr):Ln (jk K A) 4:=by rintro vs H Q E ⟨f,b,p,es,ks,e,g,n,rfl,_⟩;rfl
theorem DJ (T:Txt K mg A):Rd (jk K A) (ET K A) ["stamper","count","elder","marks","turns","younger"]:=by
 intro vs H Q E h
 obtain⟨f,b,p,es,ks,e,g,n,rfl,s,hn,l60,e1,elt,hp,mk,q⟩:=h
 have hec:e≤es.length:=by omega
 refine⟨_,_,rfl,by omega,by omega,by omega,Sel.no rfl ⟨es.length,e,rfl,hec,by omega,fun L H1 S1 hL=>?_⟩⟩
 have bR:∀H2,au H1 H2→qU K A {nx:=fun _ H'=>Q .non H',rt:=Q} [some (.ref f),some (.int (es.length:Int)),some (.int (e:Int)),some (.ref p),some (.ref L),none] H2:=by
  intro H2 S2
  have S:=S1.trans S2
  have s2:=s.same (gV _) S
  refine Sel.dec (fun h=>?_) (fun h=>?_)
  ·have h:(e:Int)=0:=h
   omega
  ·have h:¬(e:Int)=0:=h
   obtain⟨st,x,s',rfl,e2,pt,s1',cx,sl⟩:=lM (by omega) hec mk
   refine⟨L,p,st,x,rfl,?_,S _ _ hp,by omega,fun P L3 ps H3 S3 hP hL3 sp=>?_⟩
   ·have:=S2 _ _ hL
    rw[←e2,Jn]at this
    exact this
   ·exact⟨f,b,P,L3,ps,es,s',e,st,x,g,n,rfl,s2.same (gV _) S3,hn,l60,elt,by omega,s1',hP,hL3,sp,pt,cx,fun P' Ly Lo y o py po ty to top otop g' H' k=>q P' Ly Lo y o py po ty to top otop g' H' ((aR.same (S.trans S3)).trans k)⟩
 refine Sel.dec (fun h=>?_) (fun h=>?_)
 ·have h:(es.length:Int)=0:=h
  obtain rfl:=xb (by omega) mk
  exact⟨p,[],rfl,S1 _ _ hp,(fun _ h=>nomatch h),Gc _,fun H2 S2=>Sel.no rfl (bR H2 S2)⟩
 ·have h:¬(es.length:Int)=0:=h
  obtain⟨kl,kl2⟩:=wC (by omega) hec mk
  refine .inl (.inl ⟨_,SqL.of hL,p,ks,?_,S1 _ _ hp,Mks.ok mk,by omega,fun H2 S2=>Sel.no rfl (bR H2 S2)⟩)
  rw[kl,FH];rfl
theorem xV (K:pz)(A:Adr):Ln (mS K A) 4:=by rintro vs H Q E ⟨f,b,hd,p,es,ks,e,mk,g,n,rfl,_⟩;rfl
theorem DB (T:Txt K mg A):Rd (mS K A) (DW K A) ["stamper","head","elder","marks","terms","came"]:=by
 intro vs H Q E h
 obtain⟨f,b,hd,p,es,ks,e,mk,g,n,rfl,s,hn,l60,e1,elt,hh,okm,em,hp,mks,q⟩:=h
 have hec:e≤es.length:=by omega
 have tl:(es.take e).length=e:=by rw[FJ];omega
 have nh:hd≠b:=s.nb hh (fun _ z=>nomatch z) (fun _ z=>nomatch z)
 refine⟨hd,es.length,mk,rfl,hh,by omega,okm,ixT (j:=0) hh rfl rfl ?_⟩
 refine⟨f,b,p,es,ks,e,g,n,rfl,s,hn,l60,e1,elt,hp,mks,fun P Ly Lo py po pys pos ty to top otop g1 H1 k1 s1 sub1 hP hLy hLo wy wo _ _ ct co _=>?_⟩
 have hpy:=(PK.last wy).1
 have hpo:=(PK.last wo).1
 rw[Gb]at hLy hLo
 have nP:P≠b:=s1.nb hP (fun _ z=>nomatch z) (fun _ z=>nomatch z)
 have nLo:Lo≠b:=s1.nb hLo (fun _ z=>nomatch z) (fun _ z=>nomatch z)
 have npo:po≠b:=s1.nb hpo (fun _ z=>nomatch z) (fun _ z=>nomatch z)
 have rz:∀(c:Nat)(x:Key)(r:List Key),r.length≤60→szK x≤szB r.length→szT [.inr "row",.inl (c:Int),x]≤100000:=fun c x r h h2=>by
  rw[sz3,szW.2.2.2]
  unfold szB at h2
  show 65+(62+_)≤_
  omega
 refine⟨f,rfl,s1.clo,ixT (j:=0) hP rfl rfl (dr hLy ?_)⟩
 dsimp only[ak]
 refine bV s1 (by omega) (k:=[.inr "row",.inl (es.length:Int),top]) hpy (eE (by omega) ct.ok) fun v H2 g2 kb s2 sub2 gv st=>?_
 have ev:v=mk:=by
  have x:=kO g2
  rw[em _ (Ext.of sub1 (Ext.of sub2 x)),←x _ _ gv,ct.eq _ (Ext.of sub2 x)];rfl
 subst ev
 refine ixT (j:=1) (kb _ _ nh (k1 _ _ nh hh)) rfl rfl ?_
 refine ia (Sel.f ⟨f,rfl,s2.clo,ixT (j:=1) (kb _ _ nP hP) rfl rfl (dr (kb _ _ nLo hLo) ?_)⟩)
 dsimp only[ak]
 refine bV s2 (by omega) (k:=[.inr "row",.inl (e:Int),otop]) (kb _ _ npo hpo) (eE (by omega) co.ok) fun w H3 g3 kb3 s3 sub3 gv3 st3=>?_
 refine q w g3 H3 (k1.trans (kb.trans kb3)) (s3.same (by omega) au.rfl') (sub1.trans (sub2.trans sub3)) fun h eh=>?_
 rw[←eh _ _ gv3,co.eq h (Ext.of sub2 (Ext.of sub3 eh))]
 unfold fb
 rw[tl]
inductive Plc (g:GK)(es:List Key):List (Int×Key)→List Key→Prop
 |nil:Plc g es [] es
 |lo {st s k}:Plc g es st s→2≤s.length→Cur g (s.drop (ag s.length)) k→Plc g es (st++[(0,k)]) (s.take (ag s.length))
 |hi {st s k}:Plc g es st s→2≤s.length→Cur g (s.take (ag s.length)) k→Plc g es (st++[(1,k)]) (s.drop (ag s.length))
theorem Plc.mono {g g':GK}{es:List Key}{st:List (Int×Key)}{s:List Key}(p:Plc g es st s)(sub:Sub g g'):Plc g' es st s:=by
 induction p with
 |nil=>exact .nil
 |lo _ h c ih=>exact .lo ih h (c.mono sub)
 |hi _ h c ih=>exact .hi ih h (c.mono sub)
theorem Plc.len {g:GK}{es:List Key}{st:List (Int×Key)}{s:List Key}(p:Plc g es st s):s.length≤es.length:=by
 induction p with
 |nil=>exact gV _
 |lo _ h c ih=>rw[FJ];omega
 |hi _ h c ih=>rw[FS];omega
theorem um {g:List Key→Option Key}{es:List Key}{st:List (Int×Key)}{t:Int}{k:Key}{s:List Key}(p:Plc g es (st++[(t,k)]) s):
  (t=0∧∃s0,Plc g es st s0∧2≤s0.length∧s=s0.take (ag s0.length)∧Cur g (s0.drop (ag s0.length)) k)∨
  (t=1∧∃s0,Plc g es st s0∧2≤s0.length∧s=s0.drop (ag s0.length)∧Cur g (s0.take (ag s0.length)) k):=by
 generalize h:st++[(t,k)]=u at p
 cases p with
 |nil=>simp at h
 | @lo st' s0 k' p h2 c=>
   obtain⟨e1,e2⟩:=IR h rfl
   have e2:(t,k)=((0:Int),k'):=by simpa using e2
   cases e2
   subst e1
   exact .inl ⟨rfl,s0,p,h2,rfl,c⟩
 | @hi st' s0 k' p h2 c=>
   obtain⟨e1,e2⟩:=IR h rfl
   have e2:(t,k)=((1:Int),k'):=by simpa using e2
   cases e2
   subst e1
   exact .inr ⟨rfl,s0,p,h2,rfl,c⟩
theorem xw {g:List Key→Option Key}{es:List Key}{e:Key}:∀(n:Nat)(s:List Key)(p:Nat)(st0:List (Int×Key))(ks:List Key),s.length≤n→s[p]? =some e→Plc g es st0 s→Mks g (di n s p) ks→
  ∃st,st.map (·.2)=ks∧st.map (·.1)=bN n s.length p∧Plc g es (st0++st) [e]∧st.length+1≤s.length:=by
 intro n
 induction n with
 |zero=>
  intro s p st0 ks h1 h2
  rw[IQ (l:=s) (by omega)]at h2;cases h2
 |succ n ih=>
  intro s p st0 ks h1 h2 pl m
  rw[di]at m
  have hl:=(FN.mp h2).1
  by_cases c:s.length≤1
  ·rw[if_pos c]at m
   cases m
   refine⟨[],rfl,by rw[bN,if_pos c];rfl,?_,by simp;omega⟩
   have es1:s=[e]:=by
    match s,c,hl,h2 with
    |[x],_,hl,h2=>
     have:p=0:=by simp at hl;omega
     subst this
     cases h2;rfl
   rw[GW,←es1];exact pl
  ·rw[if_neg c]at m
   have l2:2≤s.length:=by omega
   obtain⟨g1,g2⟩:=be l2
   have tl:(s.take (ag s.length)).length=ag s.length:=by rw[FJ];omega
   have dl:(s.drop (ag s.length)).length=s.length- ag s.length:=FS
   by_cases c2:p<ag s.length
   ·rw[if_pos c2]at m
    cases m with
    |cons ck m1=>
     obtain⟨st,e1,e2,e3,e4⟩:=ih _ p _ _ (by omega) (by rw[Kn,if_pos c2];exact h2) (Plc.lo pl l2 ck) m1
     refine⟨(0,_)::st,by rw[Gw,e1],?_,by rw[GJ]at e3;exact e3,by rw[tl]at e4;simp;omega⟩
     rw[bN,if_neg c,if_pos c2,Gw,e2,tl]
   ·rw[if_neg c2]at m
    cases m with
    |cons ck m1=>
     obtain⟨st,e1,e2,e3,e4⟩:=ih _ (p- ag s.length) _ _ (by omega) (by rw[ME,show ag s.length+(p- ag s.length)=p by omega];exact h2) (Plc.hi pl l2 ck) m1
     refine⟨(1,_)::st,by rw[Gw,e1],?_,by rw[GJ]at e3;exact e3,by rw[dl]at e4;simp;omega⟩
     rw[bN,if_neg c,if_neg c2,Gw,e2,dl]
structure Trm (g:GK)(s k:List Key):Prop where
 ok:okT k=true
 sz:szT k+62≤szB s.length
 eq:∀h,Ext g h→k=bA h s
theorem Trm.mono {g g':GK}{s k:List Key}(t:Trm g s k)(sub:Sub g g'):Trm g' s k:=⟨t.ok,t.sz,fun h eh=>t.eq h (Ext.of sub eh)⟩
theorem Trm.cur {g:GK}{s k:List Key}{v:Key}(t:Trm g s k)(l60:s.length≤60)(gv:g k=some v)(st:iG k v):Cur g s v:=by
 have z:=t.sz
 exact⟨dJ st (by unfold szB at z;omega),Gk (eB st) z,fun h eh=>by rw[←t.eq h eh];exact(eh _ _ gv).symm⟩
theorem Trm.entry {g:GK}{e:Key}(en:enK e):Trm g [e] [.inr "entry",e]:=⟨iH en.1,by have:=en.2;rw[sz2,szW.2.1];show _≤200;omega,fun h _=>rfl⟩
theorem Trm.joint {g:GK}{s:List Key}{x y:Key}(h2:2≤s.length)(cx:Cur g (s.take (ag s.length)) x)(cy:Cur g (s.drop (ag s.length)) y):Trm g s [.inr "joint",x,y]:=by
 obtain⟨g1,g2⟩:=be h2
 have tl:(s.take (ag s.length)).length=ag s.length:=by rw[FJ];omega
 have dl:(s.drop (ag s.length)).length=s.length- ag s.length:=FS
 have sx:=cx.sz
 have sy:=cy.sz
 rw[tl]at sx
 rw[dl]at sy
 refine⟨eC cx.ok cy.ok,?_,fun h eh=>by rw[dG h h2,←cx.eq h eh,←cy.eq h eh]⟩
 rw[sz3,szW.2.2.1]
 unfold szB at sx sy⊢
 omega
theorem bQ.same {H H':Hp}{P T:Addr}{e:Key}{ks:List Key}(w:bQ H P T e ks)(S:au H H'):bQ H' P T e ks:=⟨S _ _ w.hP,S _ _ w.hT⟩
theorem bQ.kb {H H':Hp}{P T f b:Addr}{e:Key}{ks:List Key}{g:GK}{n:Nat}(w:bQ H P T e ks)(s:Stp A H f b g n)(k:aR b H H'):bQ H' P T e ks:=
 ⟨k _ _ (s.nb w.hP (fun _ z=>nomatch z) (fun _ z=>nomatch z)) w.hP,k _ _ (s.nb w.hT (fun _ z=>nomatch z) (fun _ z=>nomatch z)) w.hT⟩
theorem zI (K:pz)(A:Adr):Ln (mv K A) 2:=by rintro vs H Q E ⟨L,P,T,ts,e,ks,rfl,_⟩;rfl
theorem Cd (T:Txt K mg A):Rd (mv K A) (Ex K A) ["turns","thing"]:=by
 intro vs H Q E h
 obtain⟨L,P,TT,ts,e,ks,rfl,hL,w,oke,okk,hl,l5,q⟩:=h
 have ty:tyN H (.ref P)=some "tuple":=by unfold tyN;dsimp only;rw[w.hP]
 refine⟨by decide,"tuple",ty,Sel.no rfl (.inl (.inr (.inl ⟨_,SqT.of w.hP,Sel.no (by simp) (ixT (j:=0) w.hP rfl rfl ⟨_,_,rfl,nD e,?_⟩)⟩)))⟩
 rw[gi oke]
 refine Sel.t (.inl (.inl ⟨_,SqL.of hL,ixT (j:=1) w.hP rfl rfl ⟨TT,ks,?_,w.hT,okk,l5,q⟩⟩))
 rw[FH,hl]
theorem xY (K:pz)(A:Adr):Ln (jd K A) 4:=by rintro vs H Q E ⟨f,b,P,T,es,ks,p,e,g,n,rfl,_⟩;rfl
structure Pt (A:Adr)(H H':Hp)(f b Z L:Addr)(ps:List Addr)(st:List (Int×Key))(es:List Key)(i:Nat)(g g':GK)(n:Nat):Prop where
 kb:aR b H H'
 s:Stp A H' f b g' (n+i)
 sub:Sub g g'
 hZ:H' Z=some (.lst (ps.map V.ref))
 hp:∀(j:Nat)(p:Addr)(s:Int×Key),ps[j]?=some p→st[j]?=some s→H' p=some (.tup [.int s.1,kV s.2])
 l:∃(qs:List Addr)(pr:Addr)(ts:List (List Key))(k s:List Key),H' L=some (.lst (qs.map V.ref++[.ref pr]))∧qs.length=i∧PK H' qs ts∧H' pr=some (.tup (k.map kV))∧Plc g' es (st.take (st.length- i)) s∧Trm g' s k
theorem Ba (T:Txt K mg A):Rd (jd K A) (Et K A) ["stamper","count","place","paper","turns","terms","step"]:=by
 intro vs H Q E h
 obtain⟨f,b,P,TT,es,ks,p,e,g,n,rfl,pp,q⟩:=h
 obtain⟨s,hn,l60,lt,ge,en,w,ms⟩:=pp
 have okk:=Mks.ok ms
 obtain⟨st,e1,e2,pl,sl⟩:=xw es.length es p [] ks (gV _) ge .nil ms
 have kl:ks.length=st.length:=by rw[←e1,FH]
 have tl:(bN es.length es.length p).length=st.length:=by rw[←e2,FH]
 refine⟨_,_,rfl,by omega,by omega,by omega,Sel.no rfl ⟨es.length,p,rfl,lt,by omega,fun W H1 _ S1 hW=>?_⟩⟩
 refine⟨W,P,TT,_,e,ks,rfl,hW,w.same S1,en.1,okk,by rw[kl,tl],by omega,fun H2 S2=>Sel.no rfl ?_⟩
 have w2:=(w.same S1).same S2
 refine ixT (j:=0) w2.hP rfl rfl ⟨aG (show 2≤1000000 by decide),fun t ht=>⟨aG (show 1≤1000000 by decide),fun L hL=>?_⟩⟩
 have S3:au H2 (upd (upd H2 t (.tup [.str "entry",kV e])) L (.lst [.ref t])):=(au.upd ht).trans (au.upd hL)
 have hL3:upd (upd H2 t (.tup [.str "entry",kV e])) L (.lst [.ref t]) L=some (.lst [.ref t]):=aj
 have ht3:upd (upd H2 t (.tup [.str "entry",kV e])) L (.lst [.ref t]) t=some (.tup (([.inr "entry",e]:List Key).map kV)):=au.upd hL _ _ aj
 have hLn:H2 L=none:=(bu hL).2
 generalize upd (upd H2 t (.tup [.str "entry",kV e])) L (.lst [.ref t])=H3 at S3 hL3 ht3
 have w3:=w2.same S3
 have hLH:H L=none:=by
  cases z:H L with
  |none=>rfl
  |some o=>rw[S2 _ _ (S1 _ _ z)]at hLn;cases hLn
 refine ixT (j:=1) w3.hP rfl rfl ⟨W,TT,_,_,rfl,SqL.of (S3 _ _ (S2 _ _ hW)),SqT.of w3.hT,by rw[FH,FH,tl,kl],fun Z ps H4 hZn S4 lp hps hZ=>⟨Z,_,rfl,.inl ⟨SqL.of hZ,?_⟩⟩⟩
 have S:au H H4:=S1.trans (S2.trans (S3.trans S4))
 have lps:ps.length=st.length:=by rw[lp,FH,tl]
 have hp4:∀(j:Nat)(p:Addr)(s:Int×Key),ps[j]?=some p→st[j]?=some s→H4 p=some (.tup [.int s.1,kV s.2]):=fun j p' s' h1 h2=>hps j p' _ _ h1 (by rw[←e2,Jn,GD,h2];rfl) (by rw[←e1,Jn,GD,h2];rfl)
 have LZ:Z≠L:=Gt (aq hL3 hZn)
 have hZz:SqL K H4 Z (ps.map V.ref):=SqL.of hZ
 have s4:=s.same (gV _) S
 refine yG (cK.revL (xs:=ps.map V.ref) .non) (fun i σ H'=>∃x6 g',σ=[some (.ref f),some (.int (es.length:Int)),some (.int (p:Int)),some (.ref P),some (.ref W),some (.ref L),x6]∧Pt A H H' f b Z L ps st es i g g' n)
  ⟨none,g,rfl,aR.same S,s4,Sub.rfl',hZ,hp4,⟨[],t,[],_,[e],S4 _ _ hL3,rfl,.nil,S4 _ _ ht3,by rw[Jq,GZ];exact pl,Trm.entry en⟩⟩
  (fun i σ H' _ h=>?_) (fun i σ H5 hi h=>?_) (fun σ H5 h=>?_)
 ·obtain⟨_,_,_,x⟩:=h
  exact SqL.of x.hZ
 ·obtain⟨x6,g5,rfl,kb,s5,sub,hZ5,hp5,qs,pr,ts,k,sg,hL5,hq,wq,hpr,pl5,tm⟩:=h
  have hi:i<st.length:=by rw[FH,lps]at hi;exact hi
  have hj:st.length- 1- i<st.length:=by omega
  obtain⟨sp,hsp⟩:∃sp,st[st.length- 1- i]?=some sp:=⟨_,FQ hj⟩
  obtain⟨pj,hpj⟩:∃pj,ps[st.length- 1- i]?=some pj:=⟨_,FQ (by omega)⟩
  have hg:(ps.map V.ref).reverse.getD i .non=.ref pj:=by
   rw[Gp,HH (by rw[FH];omega),FH,lps,GD,hpj];rfl
  rw[hg]
  have hpp:=hp5 _ _ _ hpj hsp
  obtain⟨t,kk⟩:=sp
  have tk:st.take (st.length- i)=st.take (st.length- (i+1))++[(t,kk)]:=by
   rw[show st.length- i=st.length- 1- i+1 by omega,HQ,hsp,show st.length- (i+1)=st.length- 1- i by omega];rfl
  rw[tk]at pl5
  have npj:pj≠b:=s5.nb hpp (fun _ z=>nomatch z) (fun _ z=>nomatch z)
  have nL:L≠b:=s5.nb hL5 (fun _ z=>nomatch z) (fun _ z=>nomatch z)
  have nZ:Z≠b:=s5.nb hZ5 (fun _ z=>nomatch z) (fun _ z=>nomatch z)
  have pjL:pj≠L:=aL hpp hL5 (fun z=>nomatch z)
  refine⟨.inl ⟨rfl,_,SqL.of hL5⟩,ixT (j:=0) hpp rfl rfl ⟨f,rfl,s5.clo,dr hL5 ?_⟩⟩
  dsimp only[ak]
  refine bV s5 (by omega) hpr tm.ok fun v H6 g6 kb6 s6 sub6 gv st6=>?_
  have len6:=pl5.len
  have cv:Cur g6 sg v:=(tm.mono sub6).cur (by omega) gv st6
  have hL6:=kb6 _ _ nL hL5
  refine ixT (j:=1) (kb6 _ _ npj hpp) rfl rfl ⟨t,v,kk,rfl,fun p7 hp7=>⟨L,_,.ref p7,rfl,rfl,au.upd hp7 _ _ hL6,?_,?_⟩⟩
  ·rw[pv,FH,hq];exact aK (by show i+1≤_;omega)
  have L7:p7≠L:=Gt (aq hL6 hp7)
  have Sx:∀z o,z≠L→H6 z=some o→upd (upd H6 p7 (.tup ((jtT t v kk).map kV))) L (.lst (qs.map V.ref++[.ref pr]++[.ref p7])) z=some o:=fun z o nz ez=>by rw[al nz];exact au.upd hp7 _ _ ez
  have hn7:upd (upd H6 p7 (.tup ((jtT t v kk).map kV))) L (.lst (qs.map V.ref++[.ref pr]++[.ref p7])) p7=some (.tup ((jtT t v kk).map kV)):=by rw[al L7];exact aj
  have sx:Stp A (upd (upd H6 p7 (.tup ((jtT t v kk).map kV))) L (.lst (qs.map V.ref++[.ref pr]++[.ref p7]))) f b g6 (n+i+1):=(s6.same (gV _) (au.upd hp7)).setL (au.upd hp7 _ _ hL6)
  refine⟨_,g6,rfl,fun z o nz ez=>Sx z o (aq ez hLH) (kb6 _ _ nz (kb _ _ nz ez)),sx,sub.trans sub6,Sx _ _ LZ (kb6 _ _ nZ hZ5),fun j p' s' h1 h2=>?_,?_⟩
  ·have h5:=hp5 j p' s' h1 h2
   exact Sx _ _ (aL h5 hL5 (fun z=>nomatch z)) (kb6 _ _ (s5.nb h5 (fun _ z=>nomatch z) (fun _ z=>nomatch z)) h5)
  ·have kt:∀z xs,H5 z=some (.tup xs)→upd (upd H6 p7 (.tup ((jtT t v kk).map kV))) L (.lst (qs.map V.ref++[.ref pr]++[.ref p7])) z=some (.tup xs):=fun z xs e=>Sx _ _ (aL e hL5 (fun z=>nomatch z)) (kb6 _ _ (s5.nb e (fun _ z=>nomatch z) (fun _ z=>nomatch z)) e)
   have wq':=PK.snoc (wq.keep kt) ⟨kt _ _ hpr,tm.ok⟩
   have hL':upd (upd H6 p7 (.tup ((jtT t v kk).map kV))) L (.lst (qs.map V.ref++[.ref pr]++[.ref p7])) L=some (.lst ((qs++[pr]).map V.ref++[.ref p7])):=by rw[aj,Gb];rfl
   rcases um pl5 with⟨rfl,s0,p0,h2,rfl,ck⟩|⟨rfl,s0,p0,h2,rfl,ck⟩
   ·exact⟨qs++[pr],p7,_,jtT 0 v kk,s0,hL',by rw[pv,hq];rfl,wq',hn7,p0.mono sub6,Trm.joint h2 cv (ck.mono sub6)⟩
   ·exact⟨qs++[pr],p7,_,jtT 1 v kk,s0,hL',by rw[pv,hq];rfl,wq',hn7,p0.mono sub6,Trm.joint h2 (ck.mono sub6) cv⟩
 ·obtain⟨x6,g5,rfl,kb,s5,sub,hZ5,hp5,qs,pr,ts,k,sg,hL5,hq,wq,hpr,pl5,tm⟩:=h
  rw[FH,lps]at*
  rw[Nat.sub_self,Lg]at pl5
  obtain rfl:es=sg:=by
   generalize hu:([]:List (Int×Key))=u at pl5
   cases pl5 with
   |nil=>rfl
   |lo _ _ _=>simp at hu
   |hi _ _ _=>simp at hu
  have nL:L≠b:=s5.nb hL5 (fun _ z=>nomatch z) (fun _ z=>nomatch z)
  refine⟨.inl ⟨rfl,_,SqL.of hL5⟩,f,rfl,s5.clo,dr hL5 ?_⟩
  dsimp only[ak]
  refine bV s5 (by omega) hpr tm.ok fun v H6 g6 kb6 s6 sub6 gv st6=>?_
  have cv:Cur g6 es v:=(tm.mono sub6).cur (by omega) gv st6
  have hL6:=kb6 _ _ nL hL5
  refine⟨aG (show 3≤1000000 by decide),fun p7 hp7=>⟨L,_,.ref p7,rfl,rfl,au.upd hp7 _ _ hL6,?_,?_⟩⟩
  ·rw[pv,FH,hq];exact aK (by show st.length+1≤_;omega)
  have L7:p7≠L:=Gt (aq hL6 hp7)
  have kt:∀z xs,H5 z=some (.tup xs)→upd (upd H6 p7 (.tup [.str "row",.int (es.length:Int),kV v])) L (.lst (qs.map V.ref++[.ref pr]++[.ref p7])) z=some (.tup xs):=fun z xs e=>by rw[al (aL e hL5 (fun z=>nomatch z))];exact au.upd hp7 _ _ (kb6 _ _ (s5.nb e (fun _ z=>nomatch z) (fun _ z=>nomatch z)) e)
  have lq:=cT wq
  refine q L p7 (qs++[pr]) (ts++[k]) v g6 _ (fun z o nz ez=>?_) (((s6.same (by omega) (au.upd hp7)).setL (au.upd hp7 _ _ hL6))) (sub.trans sub6) (by rw[aj,Gb,Gb];rfl) (PK.snoc (PK.snoc (wq.keep kt) ⟨kt _ _ hpr,tm.ok⟩) ⟨by rw[al L7];exact aj,eE (by omega) cv.ok⟩) (by rw[pv];show _+1≤_;omega) cv
  rw[al (aq ez hLH)];exact au.upd hp7 _ _ (kb6 _ _ nz (kb _ _ nz ez))
theorem zF (K:pz)(A:Adr):Ln (mM K A) 4:=by rintro vs H Q E ⟨f,b,P,T,es,ks,p,e,g,n,rfl,_⟩;rfl
theorem CN (T:Txt K mg A):Rd (mM K A) (Ff K A) ["stamper","count","place","paper"]:=by
 intro vs H Q E h
 obtain⟨f,b,P,TT,es,ks,p,e,g,n,rfl,pp,q⟩:=h
 have hn:=pp.hn
 have l60:=pp.l60
 refine⟨f,rfl,pp.s.clo,f,b,P,TT,es,ks,p,e,g,n,rfl,pp,fun L pr qs ts top g1 H1 k1 s1 sub1 hL wq _ ct=>?_⟩
 have hpr:=(PK.last wq).1
 rw[Gb]at hL
 refine dr hL ?_
 dsimp only[ak]
 refine bV s1 (by omega) (k:=[.inr "row",.inl (es.length:Int),top]) hpr (eE (by omega) ct.ok) fun v H2 g2 kb s2 sub2 gv st=>?_
 refine q v g2 H2 (k1.trans kb) s2 (sub1.trans sub2) fun h eh=>?_
 rw[←eh _ _ gv,ct.eq h (Ext.of sub2 eh)];rfl
theorem sW (K:pz)(A:Adr):Ln (km K A) 4:=by rintro vs H Q E ⟨f,b,hd,P,T,es,ks,p,e,mk,g,n,rfl,_⟩;rfl
theorem BL (T:Txt K mg A):Rd (km K A) (Em K A) ["stamper","head","place","paper","came"]:=by
 intro vs H Q E h
 obtain⟨f,b,hd,P,TT,es,ks,p,e,mk,g,n,rfl,pp,hh,okm,em,q⟩:=h
 have l60:=pp.l60
 have nh:hd≠b:=pp.s.nb hh (fun _ z=>nomatch z) (fun _ z=>nomatch z)
 refine⟨hd,es.length,mk,rfl,hh,by omega,okm,ixT (j:=0) hh rfl rfl ?_⟩
 refine⟨f,b,P,TT,es,ks,p,e,g,n,rfl,pp,fun w g1 H1 k1 s1 sub1 ew=>?_⟩
 have e1:w=mk:=by
  have x:=kO g1
  rw[ew _ x,em _ (Ext.of sub1 x)]
 subst e1
 refine ixT (j:=1) (k1 _ _ nh hh) rfl rfl ?_
 refine ia (Sel.f ?_)
 exact ixT (j:=0) (pp.w.kb pp.s k1).hP rfl rfl (q g1 H1 k1 s1 sub1)
theorem Stp.keepX {H H':Hp}{f b:Addr}{g:GK}{n m:Nat}(s:Stp A H f b g n)(k:∀z o,H z=some o→((∃φ,o=.ext φ)∨∃y,o=.own y)→H' z=some o):Stp A H' f b g m:=by
 cases s with
 |wea q m h1 h2 hc hb hg=>exact .wea q m h1 h2 (hc.keep fun z φ e=>k _ _ e (.inl ⟨_,rfl⟩)) (hb.imp fun y e=>k _ _ e (.inr ⟨_,rfl⟩)) hg
theorem aR.obj {H H':Hp}{b z:Addr}{o:HO}(k:aR b H H')(sb:∃y,H b=some (.own y))(e:H z=some o)(n:∀y,o≠.own y):H' z=some o:=by
 obtain⟨y,hy⟩:=sb
 exact k _ _ (aL e hy (n y)) e
theorem tI {α:Type}{ks:List α}{a:α}:∀(j:Nat),ks[j]? =some a→∃j0,j0≤j∧ks[j0]? =some a∧∀j',j'<j0→ks[j']? ≠some a:=by
 intro j
 induction j using Nat.strongRecOn with
 |ind j ih=>
  intro h
  by_cases e:∃j',j'<j∧ks[j']? =some a
  ·obtain⟨j',h1,h2⟩:=e
   obtain⟨j0,h3,h4,h5⟩:=ih j' h1 h2
   exact⟨j0,by omega,h4,h5⟩
  ·exact⟨j,gV _,h,fun j' h1 h2=>e ⟨j',h1,h2⟩⟩
theorem fQ {k:List Key}(h:okT k=true):k.all rZ=true:=by
 rw[Ht]
 intro x hx
 have:=oY h hx
 cases x with
 |inl i=>rfl
 |inr z=>exact nw (FP.mp this).1
theorem Dd {H:Hp}{ps:List Addr}{ts:List (List Key)}(h:PK H ps ts):∀{i:Nat}{p:Addr},ps[i]? =some p→∃t,ts[i]? =some t∧H p=some (.tup (t.map kV))∧okT t=true:=by
 induction h with
 |nil=>intro i t e;cases e
 |cons r _ ih=>
  intro i t e
  cases i with
  |zero=>cases e;exact⟨_,rfl,r⟩
  |succ i=>exact ih e
theorem zY (K:pz)(A:Adr):Ln (mC K A) 2:=by rintro vs H Q E ⟨f,bb,L,ps,ks,g,n,rfl,_⟩;rfl
theorem Cg (T:Txt K mg A):Rd (mC K A) (Ei K A) ["stamper","terms","firsts","term","ahead"]:=by
 intro vs H Q E h
 obtain⟨f,bb,L,ps,ks,g,n,rfl,s,hL,pk,hk9,hn,q⟩:=h
 have sdd:=s.bb
 have pl:=cT pk
 refine .inl fun d hd=>?_
 have S0:=au.upd (o:=.dK []) hd
 refine⟨L,rfl,.inl ⟨⟨_,SqL.of (S0 _ _ hL)⟩,?_⟩⟩
 have noc:∀(i:Nat)(H':Hp)(g':List Key→Option Key)(kvs:List (Key×V)),(∀j a,j<i→ks[j]? =some a→∃v p,g' a=some v∧bT kvs v=some (.ref p)∧H' p=some (.tup (a.map kV)))→∀(h:List Key→Key),Ext g' h→∀(j k:Nat) a b,j<k→k<i→ks[j]? =some a→ks[k]? =some b→h a=h b→a=b:=by
  intro i H' g' kvs I1 h hh j k a b h1 h2 h3 h4 h5
  obtain⟨v,p,e1,e2,e3⟩:=I1 j a (by omega) h3
  obtain⟨v',p',e1',e2',e3'⟩:=I1 k b h2 h4
  have:v=v':=by rw[hh _ _ e1,hh _ _ e1']at h5;exact h5
  subst this
  rw[e2]at e2';cases e2'
  rw[e3]at e3'
  injection e3' with e;injection e with e
  exact gQ e
 refine eU (xs:=ps.map V.ref) (fun i σ H'=>∃x3 x4 g' kvs,σ=[some (.ref f),some (.ref L),some (.ref d),x3,x4]∧aR bb H H'∧Stp A H' f bb g' (n+i)∧Sub g g'∧H' d=some (.dK kvs)∧kvs.length≤i∧
   (∀j a,j<i→ks[j]? =some a→∃v p,g' a=some v∧bT kvs v=some (.ref p)∧H' p=some (.tup (a.map kV)))∧
   ∀v x,bT kvs v=some x→∃j a p,j<i∧ks[j]? =some a∧x=.ref p∧H' p=some (.tup (a.map kV))∧okT a=true∧g' a=some v)
  ⟨none,none,g,[],rfl,aR.same S0,s.same (gV _) S0,fun _ _ e=>e,aj,gV _,fun j a hj=>by omega,fun v x e=>by cases e⟩ ?_ ?_ ?_
 ·rintro i σ H' _ ⟨x3,x4,g',kvs,rfl,kp,_⟩;exact SqL.of (kp.obj sdd hL (fun _ z=>nomatch z))
 ·rintro i x σ H' hx ⟨x3,x4,g',kvs,rfl,kp,s',sub,hd',hl,I1,I2⟩
  obtain⟨p,hp,rfl⟩:=eF hx
  obtain⟨k,hk,hpk,ok⟩:=Dd pk hp
  have hi:i<ks.length:=(FN.mp hk).1
  refine⟨.inr (.inr (.inl ⟨rfl,.inl ⟨_,hd'⟩⟩)),f,rfl,s'.clo,tc1 rfl (bV s' (by omega) (kp.obj sdd hpk (fun _ z=>nomatch z)) ok fun v H3 g3 k3 s3 sub3 gv _=>tc1 rfl ?_)⟩
  have hp3:H3 p=some (.tup (k.map kV)):=k3.obj s'.bb (kp.obj sdd hpk (fun _ z=>nomatch z)) (fun _ z=>nomatch z)
  have hd3:=k3.obj s'.bb hd' (fun _ z=>nomatch z)
  have J1:∀j a,j<i→ks[j]? =some a→∃v p,g3 a=some v∧bT kvs v=some (.ref p)∧H3 p=some (.tup (a.map kV)):=fun j a hj e=>by
   obtain⟨v,p,e1,e2,e3⟩:=I1 j a hj e
   exact⟨v,p,sub3 _ _ e1,e2,k3.obj s'.bb e3 (fun _ z=>nomatch z)⟩
  have J2:∀v x,bT kvs v=some x→∃j a p,j<i∧ks[j]? =some a∧x=.ref p∧H3 p=some (.tup (a.map kV))∧okT a=true∧g3 a=some v:=fun v x e=>by
   obtain⟨j,a,p,e1,e2,e3,e4,e5,e6⟩:=I2 v x e
   exact⟨j,a,p,e1,e2,e3,k3.obj s'.bb e4 (fun _ z=>nomatch z),e5,sub3 _ _ e6⟩
  have kp3:=kp.trans k3
  have sub':Sub g g3:=fun a b e=>sub3 a b (sub a b e)
  have gd:=eL.k (k:=v) hd3
  cases ev:bT kvs v with
  |some x=>
   rw[ev]at gd
   obtain⟨j0,a0,p0,hj0,ha0,rfl,hp0,ok0,g0⟩:=J2 v x ev
   refine⟨d,kV v,.ref p,.ref p0,H3,rfl,rfl,.inl ⟨gd,rfl⟩,?_⟩
   refine⟨_,_,fh hp0,fh hp3,cC (fQ ok0),cC (fQ ok),yU _,Sel.mk (fun t=>?_) (fun t=>?_)⟩
   ·have ne:=sG t
    refine⟨aG (n:=2) (by decide),fun r hr=>?_⟩
    have S:=au.upd (o:=.tup [V.ref p0,V.ref p]) hr
    refine q _ _ g3 (some (a0,k)) (kp3.trans (aR.same S)) (s3.same (by omega) S) sub' ⟨r,p0,p,rfl,aj,S _ _ hp0,S _ _ hp3,ok0,ok⟩ (fun h hh=>?_)
    obtain⟨j1,hj1,hb1,hmin⟩:=tI j0 ha0
    refine⟨j1,i,by omega,hb1,hk,ne,by rw[hh _ _ g0,hh _ _ gv],noc i H3 g3 kvs J1 h hh,fun j' a hj' ha he=>?_⟩
    obtain⟨v1,p1,e1,e2,e3⟩:=J1 j' a (by omega) ha
    have:v1=v:=by rw[hh _ _ e1,hh _ _ gv]at he;exact he
    subst this
    rw[ev]at e2;cases e2
    rw[hp0]at e3
    injection e3 with e;injection e with e
    have:=gQ e
    subst this
    exact(hmin j' hj' ha).elim
   ·have e:=xQ t
    subst e
    refine⟨_,_,g3,kvs,rfl,kp3,s3,sub',hd3,by omega,fun j a hj ha=>?_,fun w x e=>?_⟩
    ·by_cases e:j=i
     ·subst e;rw[hk]at ha;cases ha
      exact⟨v,p0,gv,ev,hp0⟩
     ·exact J1 j a (by omega) ha
    ·obtain⟨j,a,r,e1,e2⟩:=J2 w x e
     exact⟨j,a,r,by omega,e2⟩
  |none=>
   rw[ev]at gd
   refine⟨d,kV v,.ref p,.ref p,upd H3 d (.dK (bZ kvs v (.ref p))),rfl,rfl,.inr ⟨gd,lg.k hd3 (Hs hl (aG (n:=i+1) (by omega))),rfl⟩,?_⟩
   have dn:∀b o,H3 b=some o→(∀kvs,o≠.dK kvs)→upd H3 d (.dK (bZ kvs v (.ref p))) b=some o:=fun b o e nd=>by rw[al (fun z=>by subst z;rw[hd3]at e;cases e;exact nd _ rfl)];exact e
   have hp4:=dn _ _ hp3 (fun _ z=>nomatch z)
   refine⟨_,_,fh hp4,fh hp4,cC (fQ ok),cC (fQ ok),yU _,Sel.mk (fun t=>(sG t rfl).elim) (fun t=>?_)⟩
   refine⟨_,_,g3,bZ kvs v (.ref p),rfl,?_,s3.keepX (fun b o e nd=>dn b o e (fun kvs z=>by rcases nd with⟨_,w⟩|⟨_,w⟩<;>rw[z]at w<;>cases w)),sub',aj,Gk (dQ _ _ _) (by omega),fun j a hj ha=>?_,fun w x e=>?_⟩
   ·intro b o nb e
    rw[al (aq e hd)]
    exact kp3 _ _ nb e
   ·by_cases e:j=i
    ·subst e;rw[hk]at ha;cases ha
     exact⟨v,p,gv,by rw[fX,if_pos rfl],hp4⟩
    ·obtain⟨w,r,e1,e2,e3⟩:=J1 j a (by omega) ha
     exact⟨w,r,e1,by rw[fX,if_neg (fun z=>by subst z;rw[ev]at e2;cases e2)];exact e2,dn _ _ e3 (fun _ z=>nomatch z)⟩
   ·rw[fX]at e
    by_cases ew:w=v
    ·subst ew
     rw[if_pos rfl]at e;cases e
     exact⟨i,k,p,by omega,hk,rfl,hp4,ok,gv⟩
    ·rw[if_neg ew]at e
     obtain⟨j,a,r,e1,e2,e3,e4,e5⟩:=J2 w x e
     exact⟨j,a,r,by omega,e2,e3,dn _ _ e4 (fun _ z=>nomatch z),e5⟩
 ·rintro σ H' ⟨x3,x4,g',kvs,rfl,kp,s',sub,hd',hl,I1,I2⟩
  have el:(ps.map V.ref).length=ks.length:=by rw[FH,pl]
  rw[el]at s' I1
  refine q _ _ g' none kp s' sub rfl fun h hh=>?_
  exact fun j k a b h1 h2 h3 h4=>noc ks.length H' g' kvs I1 h hh j k a b h1 (FN.mp h3).1 h2 h3 h4
theorem gw {H:Hp}{Q:VK}{a b:Addr}{k l:List Key}(ha:H a=some (.tup (k.map kV)))(hb:H b=some (.tup (l.map kV)))(q:Q (.bl (decide (k=l))) H):bJ K (.ref a) (.ref b) H Q:=by
 refine .inl ⟨a,b,_,_,rfl,rfl,SqT.of ha,SqT.of hb,lO _,lO _,?_⟩
 by_cases e:k=l
 ·subst e;rw[decide_eq_true rfl]at q⊢;exact q
 ·rw[decide_eq_false e]at q;rw[decide_eq_false fun z=>e (gQ z)];exact q
theorem oB {K:pz}{H:Hp}{ps:List Addr}{tt:List (List Key)}(h:PK H ps tt):DatVs K H (ps.map V.ref) (tt.map fun t=>GX (t.map bK)):=by
 induction h with
 |nil=>exact .nil
 |cons r _ ih=>exact .cons (fh r.1) ih
theorem rD {H:Hp}{ps:List Addr}{tt:List (List Key)}(h:PK H ps tt):Hi (tt.map fun t=>GX (t.map bK))=true∧Gi (tt.map fun t=>GX (t.map bK))≤1:=by
 induction h with
 |nil=>exact⟨rfl,Gc _⟩
 | @cons p t l1 l2 r _ ih=>
   refine⟨?_,?_⟩
   ·show(Hi (t.map bK)&&Hi _)=true
    rw[cC (fQ r.2),ih.1];rfl
   ·show max (Gi (t.map bK)+1) (Gi _)≤1
    rw[eO];have:=ih.2;omega
theorem se {tt:List (List Key)}{t:List Key}(h:t∈tt):((tt.map fun t=>GX (t.map bK)).any fun e=>e.eqv (GX (t.map bK)))=true:=by
 rw[List.any_eq_true]
 refine⟨_,HC.mpr ⟨t,h,rfl⟩,?_⟩
 show Lc (t.map bK) (t.map bK)=true
 rw[fo];exact decide_eq_true rfl
theorem AJ (K:pz)(A:Adr):Ln (mw K A) 3:=by rintro vs H Q E ⟨f,b,L,ps,ks,r,v,g,n,rfl,_⟩;rfl
theorem CI (T:Txt K mg A):Rd (mw K A) (Fp K A) ["_law_stamper","_law_terms","_law_found"]:=by
 intro vs H Q E h
 obtain⟨f,b,L,ps,ks,r,v,g,n,rfl,s,hL,pk,hk9,hn,⟨p,a1,a2,rfl,hp,h1,h2,ok1,ok2⟩,m1,m2,ne,eqh,q⟩:=h
 have ty:tyN H (.ref p)=some "tuple":=by unfold tyN;dsimp only;rw[hp]
 obtain⟨cl,dl⟩:=rD pk
 have no:∀(a:Addr)(k:List Key)(R:VK),H a=some (.tup (k.map kV))→okT k=true→k∈ks→R (.bl false) H→gG K (.ref a) (.ref L) H R:=fun a k R ha ok hm hR=>
  .inr ⟨_,_,fh ha,.inl (.lst (SqL.of hL) (oB pk)),cl,cC (fQ ok),by show Gi (k.map bK)+1≤140;rw[eO];decide,by rw[se hm];exact hR⟩
 refine⟨by decide,"tuple",ty,Sel.no rfl (.inl (.inr (.inl ⟨_,SqT.of hp,Sel.no rfl ?_⟩)))⟩
 refine ixT (j:=0) hp rfl rfl (ixT (j:=1) hp rfl rfl (gw h1 h2 (Sel.no (decide_eq_false ne) ?_)))
 refine ixT (j:=0) hp rfl rfl (no _ _ _ h1 ok1 m1 (Sel.no rfl (ixT (j:=1) hp rfl rfl (no _ _ _ h2 ok2 m2 (Sel.no rfl ?_)))))
 refine⟨f,rfl,s.clo,ixT (j:=0) hp rfl rfl ?_⟩
 dsimp only[ak]
 refine bV s (by omega) h1 ok1 fun v1 H1 g1 kb1 s1 sub1 gv1 st1=>?_
 have hp1:=kb1.obj s.bb hp (fun _ z=>nomatch z)
 refine⟨f,rfl,s1.clo,ixT (j:=1) hp1 rfl rfl ?_⟩
 dsimp only[ak]
 refine bV s1 (by omega) (kb1.obj s.bb h2 (fun _ z=>nomatch z)) ok2 fun v2 H2 g2 kb2 s2 sub2 gv2 st2=>?_
 have e:v1=v2:=by
  have x:=kO g2
  rw[←x _ _ (sub2 _ _ gv1),←x _ _ gv2]
  exact eqh _ (Ext.of (sub1.trans sub2) x)
 subst e
 refine fc ?_
 rw[decide_eq_true rfl];exact q _ _ (kb1.trans kb2) (s2.same (by omega) au.rfl') (sub1.trans sub2)
theorem cN {h:List Key→Key}{g:GK}(s:Sub (gW h) g):g=gW h:=funext fun k=>s k (h k) rfl
theorem eR {h:List Key→Key}:Ext (gW h) h:=fun k v e=>FY e
theorem la {h h':List Key→Key}(e:Ext (gW h) h'):h'=h:=funext fun k=>e k (h k) rfl
theorem sO {h:List Key→Key}{ss:List (List Key)}{ks:List Key}(m:Mks (gW h) ss ks):ks=ss.map fun s=>h (bA h s):=by
 induction m with
 |nil=>rfl
 |cons c _ ih=>rw[Gw,←ih,c.eq h eR]
theorem Stp.okh {H:Hp}{f b:Addr}{h:List Key→Key}{n:Nat}(s:Stp A H f b (gW h) n)(k:List Key):okP (h k)=true:=by
 cases s with
 |wea q m h1 h2 hc hb hg=>
  have e:some (h k)=some (jq m k):=congrFun hg k
  rw[FY e]
  have r0:=Ji (k.foldl gZ k.length) (b:=m) (by omega)
  have r1:=IF (k.foldl gZ k.length) (b:=m) (by omega)
  have p60:(10007:Int)<10^60:=by decide+kernel
  exact decide_eq_true ⟨r0,by omega⟩
section
variable {H H' H2:Hp}{f b z:Addr}{h:List Key→Key}{n m:Nat}{r s:Rw}{o:HO}{g:GK}
theorem KD.rfl':KD b r s H H:=fun _ _ _ _ _ e=>e
theorem KD.trans (a:KD b r s H H')(c:KD b r s H' H2):KD b r s H H2:=fun z o n1 n2 n3 e=>c z o n1 n2 n3 (a z o n1 n2 n3 e)
theorem KD.same (S:au H H'):KD b r s H H':=fun z o _ _ _ e=>S z o e
theorem KD.kb (k:aR b H H'):KD b r s H H':=fun z o n1 _ _ e=>k z o n1 e
theorem KD.k2 (k:bv b r.D H H'):KD b r s H H':=fun z o n1 n2 _ e=>k z o n1 n2 e
theorem KD.swap (k:KD b r s H H'):KD b s r H H':=fun z o n1 n2 n3 e=>k z o n1 n3 n2 e
theorem Duo.swap (w:Duo A H f b h n r s):Duo A H f b h n s r:=⟨w.rs,w.rr,Gt w.ne⟩
theorem Duo.st (w:Duo A H f b h n r s):Stp A H f b (gW h) m:=by
 obtain⟨_,r⟩:=w.rr
 exact r.s.any
theorem Duo.keep (w:Duo A H f b h n r s)(k:KD b r s H H')(e:H z=some o)(h1:∀y,o≠.own y)(h2:∀kvs,o≠.dT kvs):H' z=some o:=by
 obtain⟨_,r1⟩:=w.rr
 obtain⟨_,r2⟩:=w.rs
 obtain⟨n1,n2⟩:=r1.n2 e h1 h2
 exact k _ _ n1 n2 (r2.n2 e h1 h2).2 e
theorem Duo.same (w:Duo A H f b h n r s)(S:au H H')(hn:n≤m):Duo A H' f b h m r s:=⟨w.rr.same S hn,w.rs.same S hn,w.ne⟩
theorem Duo.up (w:Duo A H f b h n r s)(hn:n≤m):Duo A H f b h m r s:=w.same au.rfl' hn
theorem Duo.call (w:Duo A H f b h n r s)(kb:aR b H H')(st:Stp A H' f b g m)(sub:Sub (gW h) g):Duo A H' f b h n r s:=by
 have e:=cN sub
 subst e
 exact⟨w.rr.call kb st.any sub (gV _),w.rs.call kb st.any sub (gV _),w.ne⟩
theorem Duo.op (w:Duo A H f b h n r s)(k:bv b r.D H H')(rr:cB A H' f b g m r.x r.L r.D r.es)(sub:Sub (gW h) g)(hn:n≤m):Duo A H' f b h m r s:=by
 have e:=cN sub
 subst e
 exact⟨rr,w.rs.other w.rr rr k sub hn (Gt w.ne),w.ne⟩
theorem lE {q:Addr}(hq:H' q=none):au H' (bL [q] H H'):=fun z o e=>by
 rw[bY (fun hm=>by rw[FU.mp hm,hq]at e;cases e)];exact e
theorem KD.back {q:Addr}(k:KD b r s (bB [q] H) H'):KD b r s H (bL [q] H H'):=fun z o n1 n2 n3 e=>by
 by_cases hm:z∈[q]
 ·rw[jD hm];exact e
 ·rw[bY hm];exact k z o n1 n2 n3 (by rw[br hm];exact e)
theorem cB.hide {q x L D:Addr}{cvs:List V}{es:List Key}(r:cB A H f b g n x L D es)(c:bX H [q] cvs)(st:Stp A (bB [q] H) f b g n):cB A (bB [q] H) f b g n x L D es:=by
 obtain⟨kvs,⟨⟨dx,hx⟩,hl,hd,en,le⟩,_,cc,db,kl⟩:=r
 exact⟨kvs,⟨⟨dx,c.hide hx (fun _ z=>nomatch z)⟩,c.hide hl (fun _ z=>nomatch z),c.hide hd (fun _ z=>nomatch z),en,le⟩,st,cc,db,kl⟩
theorem Duo.hide {q:Addr}{cvs:List V}(w:Duo A H f b h n r s)(c:bX H [q] cvs)(st:∀n,Stp A (bB [q] H) f b (gW h) n):Duo A (bB [q] H) f b h n r s:=⟨w.rr.hide c (st n),w.rs.hide c (st n),w.ne⟩
theorem Lnx.kd {ln x:Addr}(l:Lnx A H f b h ln x)(w:Duo A H f b h n r s)(w':Duo A H' f b h m r s)(k:KD b r s H H'):Lnx A H' f b h ln x:=by
 obtain⟨dx,fa,q,h1,h2,h3⟩:=l
 have kx:∀z φ,H z=some (.ext φ)→H' z=some (.ext φ):=fun z φ e=>w.keep k e (fun _ z=>nomatch z) (fun _ z=>nomatch z)
 refine⟨dx,fa,q,w.keep k h1 (fun _ z=>nomatch z) (fun _ z=>nomatch z),h2.keep kx,fun n=>?_⟩
 obtain⟨y',hb'⟩:=(w'.st (m:=0)).bb
 cases h3 n with
 |wea q0 m0 m1 m2 hc hb hg=>
  obtain⟨y,hb⟩:=hb
  have nb:b∉[q]:=fun hm=>by rw[cz hm]at hb;cases hb
  refine .wea q0 m0 m1 m2 (hc.keep fun z φ e=>?_) ⟨y',by rw[br nb];exact hb'⟩ hg
  have nz:z∉[q]:=fun hm=>by rw[cz hm]at e;cases e
  rw[br nz]at e⊢
  exact kx z φ e
theorem Lnx.same {ln x:Addr}(l:Lnx A H f b h ln x)(S:au H H'):Lnx A H' f b h ln x:=by
 obtain⟨dx,fa,q,h1,h2,h3⟩:=l
 refine⟨dx,fa,q,S _ _ h1,h2.keep fun z φ e=>S _ _ e,fun n=>(h3 n).same (gV _) fun z o e=>?_⟩
 have nz:z∉[q]:=fun hm=>by rw[cz hm]at e;cases e
 rw[br nz]at e⊢
 exact S _ _ e
end
theorem AS (T:Txt K mg A)(a0 b0:V)(H:Hp)(Q:VK)(E:XK)(h:qe K A [a0,b0] H Q E):zE K A {nx:=fun _ H'=>Q .non H',rt:=Q} (eQ ["_law_question","_law_row_here"] [a0] [b0]) H:=by
 obtain⟨p,f,b,h,n,r,s,c,e,ee,w,hn,h⟩:=h
 cases ee
 obtain⟨kvs,rr⟩:=w.rr
 obtain⟨dx,hx⟩:=rr.r.ob
 rcases h with⟨hp,h1,h2,q⟩|⟨hp,h1,h2,q⟩
 ·refine ixT (j:=0) hp rfl rfl (Sel.yes rfl ⟨r.x,dx,_,rfl,hx,rfl,ixT (j:=1) hp rfl rfl (ixT (j:=2) hp rfl rfl ?_)⟩)
  refine⟨r.x,f,r.L,r.D,b,r.es,kvs,_,n,c,e,rfl,rr,h1,h2,hn,fun P ks kvs' g' H' k r' sub hP mk=>?_⟩
  have eg:=cN sub
  subst eg
  exact q P ks H' (KD.k2 k) (w.op k ⟨_,r'⟩ sub (by omega)) hP mk
 ·refine ixT (j:=0) hp rfl rfl (Sel.no rfl ⟨r.x,dx,_,rfl,hx,rfl,ixT (j:=1) hp rfl rfl (ixT (j:=2) hp rfl rfl ?_)⟩)
  refine⟨r.x,f,r.L,r.D,b,r.es,kvs,_,n,c,e,rfl,rr,h1,h2,hn,fun P T e ks kvs' g' H' k r' sub hP ge mk=>?_⟩
  have eg:=cN sub
  subst eg
  have ek:=sO mk
  subst ek
  exact q P T e H' (KD.k2 k) (w.op k ⟨_,r'⟩ sub (by omega)) hP ge mk
theorem Ao (K:pz)(A:Adr):Ln (mQ K A) 2:=by rintro vs H Q E ⟨x,dx,f,rfl,_⟩;rfl
theorem AN (T:Txt K mg A):Rd (mQ K A) (Ey K A) ["self","say"]:=by
 intro vs H Q E h
 obtain⟨x,dx,f,rfl,hx,q⟩:=h
 exact⟨x,A.c_Spoken,dx,_,rfl,hx,T.cl_Spoken,T.na_Spoken_answerer,by decide,q⟩
theorem yY (K:pz)(A:Adr):Ln (mt K A) 3:=by rintro vs H Q E ⟨ln,f,b,h,n,r,s,c,e,rfl,_⟩;rfl
theorem AX (T:Txt K mg A):Rd (mt K A) (Fe K A) ["self","count","elder"]:=by
 intro vs H Q E h
 obtain⟨ln,f,b,h,n,r,s,c,e,rfl,l,w,hn,h1,h2,q⟩:=h
 obtain⟨dx,fa,qq,hl,hc,st⟩:=l
 refine⟨ln,dx,_,fa,rfl,hl,rfl,⟨_,m0,_,_,hc⟩,aG (show 3≤1000000 by decide),fun p hp=>?_⟩
 have S:=au.upd (o:=.tup [.str "growth",.int (c:Int),.int (e:Int)]) hp
 have hp1:upd H p (.tup [.str "growth",.int (c:Int),.int (e:Int)]) p=some (.tup [.str "growth",.int (c:Int),.int (e:Int)]):=aj
 generalize upd H p (.tup [.str "growth",.int (c:Int),.int (e:Int)])=H1 at S hp1
 have hc1:=hc.keep fun z φ e=>S z _ e
 have w1:=w.same S (gV _)
 obtain⟨_,_,_,_,_,st1⟩:=Lnx.same ⟨dx,fa,qq,hl,hc,st⟩ S
 have st1:∀n,Stp A (bB [qq] H1) f b (gW h) n:=fun n=>(st n).same (gV _) fun z o e=>by
  have nz:z∉[qq]:=fun hm=>by rw[cz hm]at e;cases e
  rw[br nz]at e⊢
  exact S _ _ e
 refine⟨_,m0,_,_,hc1,rfl,p,f,b,h,n,r,s,c,e,rfl,w1.hide hc1.cells st1,hn,.inl ⟨hc1.cells.hide hp1 (fun _ z=>nomatch z),h1,h2,fun P ks H' k w' hP mk hq=>?_⟩⟩
 have Sb:=lE (H:=H1) (hq qq (FU.mpr rfl))
 exact q P ks _ ((KD.same S).trans k.back) (w'.same Sb (gV _)) (Sb _ _ hP) mk
theorem AD (K:pz)(A:Adr):Ln (ig K A) 3:=by rintro vs H Q E ⟨ln,f,b,h,n,r,s,c,e,rfl,_⟩;rfl
theorem CO (T:Txt K mg A):Rd (ig K A) (EB K A) ["self","count","place"]:=by
 intro vs H Q E h
 obtain⟨ln,f,b,h,n,r,s,c,e,rfl,l,w,hn,h1,h2,q⟩:=h
 obtain⟨dx,fa,qq,hl,hc,st⟩:=l
 refine⟨ln,dx,_,fa,rfl,hl,rfl,⟨_,m0,_,_,hc⟩,aG (show 3≤1000000 by decide),fun p hp=>?_⟩
 have S:=au.upd (o:=.tup [.str "placed",.int (c:Int),.int (e:Int)]) hp
 have hp1:upd H p (.tup [.str "placed",.int (c:Int),.int (e:Int)]) p=some (.tup [.str "placed",.int (c:Int),.int (e:Int)]):=aj
 generalize upd H p (.tup [.str "placed",.int (c:Int),.int (e:Int)])=H1 at S hp1
 have hc1:=hc.keep fun z φ e=>S z _ e
 have w1:=w.same S (gV _)
 have st1:∀n,Stp A (bB [qq] H1) f b (gW h) n:=fun n=>(st n).same (gV _) fun z o e=>by
  have nz:z∉[qq]:=fun hm=>by rw[cz hm]at e;cases e
  rw[br nz]at e⊢
  exact S _ _ e
 refine⟨_,m0,_,_,hc1,rfl,p,f,b,h,n,r,s,c,e,rfl,w1.hide hc1.cells st1,hn,.inr ⟨hc1.cells.hide hp1 (fun _ z=>nomatch z),h1,h2,fun P T e H' k w' hP ge mk hq=>?_⟩⟩
 have Sb:=lE (H:=H1) (hq qq (FU.mpr rfl))
 exact q P T e _ ((KD.same S).trans k.back) (w'.same Sb (gV _)) (hP.same Sb) ge mk
theorem zW (K:pz)(A:Adr):Ln (fJ K A) 1:=by rintro vs H Q E ⟨x,f,b,h,rfl,_⟩;rfl
theorem fF.keep {H H':Hp}(h:fF A H)(k:∀z o,H z=some o→((∃ps,o=.tbl ps)∨∃φ,o=.ext φ)→H' z=some o):fF A H':=by
 obtain⟨ps,h1,h2⟩:=h
 exact⟨ps,k _ _ h1 (.inl ⟨_,rfl⟩),h2.imp id fun⟨c,z1,z2⟩=>⟨c,z1,k _ _ z2 (.inr ⟨_,rfl⟩)⟩⟩
theorem Cs (T:Txt K mg A)(q0:Addr)(hnd:([q0]:List Addr).Nodup)(vs:List V)(H:Hp)(Q:VK)(E:XK)(h:fJ K A vs H Q E):Aw K A q0 {nx:=fun σ H'=>(∀p∈([(0,q0)]:List (Nat×Addr)),H' p.2=none)→Q .non (dm [(0,q0)] σ H'),rt:=fun σ v H'=>(∀p∈([(0,q0)]:List (Nat×Addr)),H' p.2=none)→Q v (dm [(0,q0)] σ H')} (L2.cJ ["_law_row_here","_law_say"] vs) H:=by
 obtain⟨x,f,b,h,rfl,⟨ps,hP,tab⟩,st,q⟩:=h
 have key:∀(c fa:Addr)(H3:Hp),cp A.t_17 H H3→fF A H3→H3 fa=some (dO fa dw [q0] c)→H3 c=some (dz c dw.qual)→∀(y dx:Addr),H3 y=none→H3 dx=none→dx≠y→upd (upd (upd H3 dx (.own y)) y (.ins A.c_Spoken dx [])) y (.ins A.c_Spoken dx [("answerer",.ref fa)]) q0=none→
   Q (.ref y) (upd (upd (upd (upd H3 dx (.own y)) y (.ins A.c_Spoken dx [])) y (.ins A.c_Spoken dx [("answerer",.ref fa)])) q0 (cG q0 (.ref x))):=by
  intro c fa H3 S3 tb hf hc y dx hy hdx ne hq
  have S4:au H3 (upd (upd (upd H3 dx (.own y)) y (.ins A.c_Spoken dx [])) y (.ins A.c_Spoken dx [("answerer",.ref fa)])):=fun z o e=>by
   have n1:=aq e hy
   have n2:=aq e hdx
   rw[al n1,al n1,al n2];exact e
  have hy4:upd (upd (upd H3 dx (.own y)) y (.ins A.c_Spoken dx [])) y (.ins A.c_Spoken dx [("answerer",.ref fa)]) y=some (.ins A.c_Spoken dx [("answerer",.ref fa)]):=aj
  generalize upd (upd (upd H3 dx (.own y)) y (.ins A.c_Spoken dx [])) y (.ins A.c_Spoken dx [("answerer",.ref fa)])=H4 at S4 hq hy4
  have S5:=au.upd (o:=cG q0 (.ref x)) hq
  have S:=S4.trans S5
  have st4:∀n,Stp A H4 f b (gW h) n:=fun n=>(st n).keep (gV _) fun z o e _ h2 _=>S4 _ _ (S3 z o e (aL e hP (h2 _)))
  refine q y _ (S3.trans fun z o e n=>S z o e) (tb.keep fun z o e _=>S z o e) ⟨dx,fa,q0,S5 _ _ hy4,⟨⟨c,S _ _ hf,S _ _ hc⟩,.cons aj .nil⟩,fun n=>(st4 n).same (gV _) fun z o e=>?_⟩
  have nz:=aq e hq
  rw[br (fun hm=>nz (FU.mp hm)),al nz];exact e
 rcases tab with rfl|⟨c,rfl,hc⟩
 ·refine⟨#[],hP,trivial,.inl ⟨rfl,fun c fa hc hf hne=>?_⟩⟩
  have cP:=dY hP hc
  have fP:=dY hP hf
  have c1:∀o,upd H A.t_17 o c=none:=fun o=>by rw[al cP];exact hc
  have f1:∀o,upd (upd H A.t_17 o) c (dz c dw.qual) fa=none:=fun o=>by rw[al (Gt hne),al fP];exact hf
  intro y dx hy hdx ne
  refine⟨y,dx,fa,rfl,aj,rfl,fun hq=>?_⟩
  refine key c fa _ (cp.tab.trans ((cp.new (c1 _)).trans (cp.new (f1 _)))) ⟨_,?_,.inr ⟨c,rfl,?_⟩⟩ aj ?_ y dx hy hdx ne (hq (0,q0) (FU.mpr rfl))
  ·rw[al (Gt fP),al (Gt cP)];exact aj
  ·rw[al hne];exact aj
  ·rw[al hne];exact aj
 ·refine⟨_,hP,trivial,.inr ⟨c,rfl,fun fa hf=>?_⟩⟩
  have S1:=au.upd (o:=dO fa dw [q0] c) hf
  intro y dx hy hdx ne
  refine⟨y,dx,fa,rfl,aj,rfl,fun hq=>?_⟩
  exact key c fa _ (cp.new hf) ⟨_,S1 _ _ hP,.inr ⟨c,rfl,S1 _ _ hc⟩⟩ aj (S1 _ _ hc) y dx hy hdx ne (hq (0,q0) (FU.mpr rfl))
section
variable {H H':Hp}{f b M S:Addr}{h:List Key→Key}{n m c d:Nat}{r s:Rw}{ys zs:List V}
theorem Duo.L1 (w:Duo A H f b h n r s)(hM:H M=none):r.L≠M:=by
 obtain⟨_,r1⟩:=w.rr
 exact aq r1.r.hl hM
theorem Duo.setL (w:Duo A H f b h n r s)(hM:H M=some (.lst ys))(n1:r.L≠M)(n2:s.L≠M):Duo A (upd H M (.lst zs)) f b h n r s:=
 ⟨w.rr.keepL (fun z o nz e=>by rw[al nz];exact e) hM n1,w.rs.keepL (fun z o nz e=>by rw[al nz];exact e) hM n2,w.ne⟩
theorem KD.setL {o:HO}(k:KD b r s H H')(hM:H M=none):KD b r s H (upd H' M o):=fun z o n1 n2 n3 e=>by
 rw[al (aq e hM)];exact k z o n1 n2 n3 e
theorem Duo.le (w:Duo A H f b h n r s):r.es.length≤60:=by
 obtain⟨_,r1⟩:=w.rr
 exact r1.r.le
theorem Duo.en (w:Duo A H f b h n r s):∀e∈r.es,enK e:=by
 obtain⟨_,r1⟩:=w.rr
 exact r1.r.en
theorem Hd.kd {hd:Addr}(x:Hd H h hd r.es c)(w:Duo A H f b h n r s)(k:KD b r s H H'):Hd H' h hd r.es c:=⟨w.keep k x.w (fun _ z=>nomatch z) (fun _ z=>nomatch z),x.c1,x.c2⟩
theorem Sds.kd (x:Sds A H f b h S r s c d)(w:Duo A H f b h n r s)(w':Duo A H' f b h m r s)(k:KD b r s H H'):Sds A H' f b h S r s c d:=by
 obtain⟨t,u,hr,hs,lr,ls,h1,h2,h3,h4,h5,h6,h7⟩:=x.ex
 exact⟨t,u,hr,hs,lr,ls,w.keep k h1 (fun _ z=>nomatch z) (fun _ z=>nomatch z),w.keep k h2 (fun _ z=>nomatch z) (fun _ z=>nomatch z),w.keep k h3 (fun _ z=>nomatch z) (fun _ z=>nomatch z),h4.kd w k,h5.kd w.swap k.swap,h6.kd w w' k,h7.kd w w' k⟩
end
theorem yK (K:pz)(A:Adr):Ln (mE K A) 4:=by rintro vs H Q E ⟨f,b,hd,ln,h,n,r,s,c,k,rfl,_⟩;rfl
theorem Dg (T:Txt K mg A):Rd (mE K A) (Fc K A) ["stamper","head","count","line","marks"]:=by
 intro vs H Q E h
 obtain⟨f,b,hd,ln,h,n,r,s,c,k,rfl,l,w,hh,hk,hn,q⟩:=h
 refine ixT (j:=0) hh.w rfl rfl (Sel.dec (fun e=>?_) (fun e=>?_))
 ·have e:(k:Int)=c:=e
  obtain rfl:k=c:=by omega
  exact ixT (j:=1) hh.w rfl rfl (q H KD.rfl' (w.up (by omega)))
 have e:¬(k:Int)=c:=e
 refine Sel.dec (fun e0=>?_) (fun e0=>?_)
 ·have e0:(k:Int)=0:=e0
  obtain rfl:k=0:=by omega
  refine⟨f,b,gW h,0,rfl,w.st,by omega,fun p v g' H' kb st' sub hp okv ev=>ixT (j:=1) hp rfl rfl ?_⟩
  have eg:=cN sub
  subst eg
  rw[ev h eR]
  exact q H' (KD.kb kb) ((w.call kb st' sub).up (by omega))
 have e0:¬(k:Int)=0:=e0
 obtain⟨dx,fa,qq,hl,l2⟩:=l
 have c2:=hh.c2
 have l60:=w.le
 have tl:(r.es.take c).length=c:=by rw[FJ];omega
 refine⟨ln,dx,_,rfl,hl,rfl,ixT (j:=0) hh.w rfl rfl ⟨ln,f,b,h,n,r,s,c,k,rfl,⟨dx,fa,qq,hl,l2⟩,w,hn,c2,hk,fun P ks H1 kd w1 hP mk=>?_⟩⟩
 refine⟨f,b,hd,P,r.es.take c,ks,k,mkO h r.es c,gW h,0,rfl,w1.st,by omega,by omega,by omega,by omega,by rw[tl];exact(hh.kd w kd).w,(w1.st (m:=0)).okh _,fun h' eh=>by rw[la eh];rfl,hP,mk,fun u g' H2 kb st' sub eu=>?_⟩
 have eg:=cN sub
 subst eg
 have:u=mkO h r.es k:=by rw[eu h eR,If,GY hk];rfl
 rw[this]
 exact q H2 (kd.trans (KD.kb kb)) (w1.call kb st' sub)
theorem yw (K:pz)(A:Adr):Ln (ky K A) 3:=by rintro vs H Q E ⟨f,b,S,h,n,r,s,c,d,k,rfl,_⟩;rfl
theorem By (T:Txt K mg A):Rd (ky K A) (Fg K A) ["stamper","sides","count","marks","head","line"]:=by
 intro vs H Q E h
 obtain⟨f,b,S,h,n,r,s,c,d,k,rfl,x,w,kc,kd,hn,q⟩:=h
 obtain⟨t,u,hr,hs,lr,ls,h1,h2,h3,h4,h5,h6,h7⟩:=x.ex
 refine⟨Gc _,fun M hM=>?_⟩
 have S0:=au.upd (o:=.lst []) hM
 have w0:=w.same S0 (gV _)
 have nL:=w.L1 hM
 have nL2:=w.swap.L1 hM
 refine⟨S,rfl,.inr ⟨⟨_,SqT.of (S0 _ _ h1)⟩,?_⟩⟩
 refine kJ (xs:=[.ref t,.ref u]) (fun i σ H'=>∃x4 x5,σ=[some (.ref f),some (.ref S),some (.int (k:Int)),some (.ref M),x4,x5]∧KD b r s H H'∧Duo A H' f b h (n+200*i) r s∧H' M=some (.lst ([kV (mkO h r.es k),kV (mkO h s.es k)].take i)))
  ⟨none,none,rfl,KD.same S0,w0,aj⟩ ?_ ?_ ?_
 ·rintro i σ H' _ ⟨x4,x5,rfl,kk,_⟩;exact SqT.of (w.keep kk h1 (fun _ z=>nomatch z) (fun _ z=>nomatch z))
 ·rintro i v σ H' hv ⟨x4,x5,rfl,kk,w',hM'⟩
  match i,hv with
  |0,hv=>
   cases hv
   refine⟨t,_,rfl,SqT.of (w.keep kk h2 (fun _ z=>nomatch z) (fun _ z=>nomatch z)),rfl,_,_,rfl,_,_,rfl,rfl,?_⟩
   refine⟨.inl ⟨rfl,_,SqL.of hM'⟩,f,b,hr,lr,h,_,r,s,c,k,rfl,h6.kd w w' kk,w',h4.kd w kk,kc,by omega,fun H2 k2 w2=>?_⟩
   have hM2:=w'.keep k2 hM' (fun _ z=>nomatch z) (fun _ z=>nomatch z)
   exact⟨M,_,_,rfl,rfl,hM2,aK (by simp),_,_,rfl,(kk.trans k2).setL hM,w2.setL hM2 nL nL2,aj⟩
  |1,hv=>
   cases hv
   refine⟨u,_,rfl,SqT.of (w.keep kk h3 (fun _ z=>nomatch z) (fun _ z=>nomatch z)),rfl,_,_,rfl,_,_,rfl,rfl,?_⟩
   refine⟨.inl ⟨rfl,_,SqL.of hM'⟩,f,b,hs,ls,h,_,s,r,d,k,rfl,h7.kd w w' kk,w'.swap,h5.kd w.swap kk.swap,kd,by omega,fun H2 k2 w2=>?_⟩
   have hM2:=w'.keep k2.swap hM' (fun _ z=>nomatch z) (fun _ z=>nomatch z)
   exact⟨M,_,_,rfl,rfl,hM2,aK (by simp),_,_,rfl,(kk.trans k2.swap).setL hM,w2.swap.setL hM2 nL nL2,aj⟩
  |i+2,hv=>simp at hv
 ·rintro σ H' ⟨x4,x5,rfl,kk,w',hM'⟩
  exact q M H' kk w' hM'
theorem As (K:pz)(A:Adr):∀vs H Q E,gU K A vs H Q E→vs.length=4:=sW K A
theorem DH (T:Txt K mg A):Rd (gU K A) (Ef K A) ["stamper","head","place","paper"]:=by
 intro vs H Q E h
 obtain⟨f,b,hd,P,TT,es,ks,p,e,mk,g,n,rfl,h⟩:=h
 exact⟨f,b,hd,P,TT,es,ks,p,e,mk,g,n,rfl,h⟩
theorem oP {H:Hp}{Q:VK}{e:Key}(q:Q (.bl false) H):qr (kV e) .non H Q:=by cases e<;>exact q
def ShI (H:Hp)(h:List Key→Key)(r s:Rw)(c d p:Nat)(Pp En:Addr):Nat→Prop
 |0=>H Pp=some (.lst [])∧H En=some (.lst [])
 |1=>∃P T e,r.es[p]?=some e∧bQ H P T e (wkO h r.es c p)∧H Pp=some (.lst [.ref P])∧H En=some (.lst [kV e])
 |_=>∃P T e P2 T2 e2,r.es[p]?=some e∧s.es[p]?=some e2∧bQ H P T e (wkO h r.es c p)∧bQ H P2 T2 e2 (wkO h s.es d p)∧H Pp=some (.lst [.ref P,.ref P2])∧H En=some (.lst [kV e,kV e2])
theorem bQ.kd {H H':Hp}{f b P T:Addr}{h:List Key→Key}{n:Nat}{r s:Rw}{e:Key}{ks:List Key}(x:bQ H P T e ks)(w:Duo A H f b h n r s)(k:KD b r s H H'):bQ H' P T e ks:=⟨w.keep k x.hP (fun _ z=>nomatch z) (fun _ z=>nomatch z),w.keep k x.hT (fun _ z=>nomatch z) (fun _ z=>nomatch z)⟩
theorem bQ.setL {H:Hp}{P T M:Addr}{e:Key}{ks:List Key}{ys zs:List V}(x:bQ H P T e ks)(hM:H M=some (.lst ys)):bQ (upd H M (.lst zs)) P T e ks:=⟨by rw[al (aL x.hP hM (fun z=>nomatch z))];exact x.hP,by rw[al (aL x.hT hM (fun z=>nomatch z))];exact x.hT⟩
theorem lJ {H:Hp}{f b hd ln:Addr}{h:List Key→Key}{n c p:Nat}{r s:Rw}{Q:Addr→Key→Hp→Prop}(w:Duo A H f b h n r s)(hh:Hd H h hd r.es c)(l:Lnx A H f b h ln r.x)(pc:p<c)(hn:n+200≤30000)
  (q:∀(P T:Addr)(e:Key)(H':Hp),KD b r s H H'→Duo A H' f b h (n+200) r s→bQ H' P T e (wkO h r.es c p)→r.es[p]?=some e→Q P e H'):
  ∃dx fs,H ln=some (.ins A.c_Spoken dx fs)∧fs.lookup ("placed":Str)=none∧ig K A [.ref ln,.int (c:Int),.int (p:Int)] H (fun v H1=>∃P e,v=.ref P∧gU K A [.ref f,.ref hd,.int (p:Int),.ref P] H1 (fun v2 H2=>v2=kV e∧Q P e H2) E0) E0:=by
 obtain⟨dx,fa,qq,hl,l2⟩:=l
 have c2:=hh.c2
 have l60:=w.le
 have tl:(r.es.take c).length=c:=by rw[FJ];omega
 refine⟨dx,_,hl,rfl,ln,f,b,h,n,r,s,c,p,rfl,⟨dx,fa,qq,hl,l2⟩,w,hn,c2,pc,fun P T e H1 k1 w1 pw ge mk=>⟨P,e,rfl,?_⟩⟩
 refine⟨f,b,hd,P,T,r.es.take c,wkO h r.es c p,p,e,mkO h r.es c,gW h,0,rfl,⟨w1.st,by omega,by omega,by omega,by rw[Iy pc];exact ge,w.en e (Ga ge),pw,by rw[tl];exact mk⟩,by rw[tl];exact(hh.kd w k1).w,(w1.st (m:=0)).okh _,fun h' eh=>by rw[la eh];rfl,fun g' H2 kb st' sub=>⟨rfl,?_⟩⟩
 exact q P T e H2 (k1.trans (KD.kb kb)) (w1.call kb st' sub) (pw.kd w1 (KD.kb kb)) ge
theorem gE {vs:List V}{H:Hp}{Q Q':VK}{E:XK}(h:ig K A vs H Q E)(k:∀v H',Q v H'→Q' v H'):ig K A vs H Q' E0:=by
 obtain⟨ln,f,b,h,n,r,s,c,e,rfl,l,w,hn,h1,h2,q⟩:=h
 exact⟨ln,f,b,h,n,r,s,c,e,rfl,l,w,hn,h1,h2,fun P T e H' a b c d f=>k _ _ (q P T e H' a b c d f)⟩
theorem ir {vs:List V}{H:Hp}{Q Q':VK}{E:XK}(h:gU K A vs H Q E)(k:∀v H',Q v H'→Q' v H'):gU K A vs H Q' E0:=by
 obtain⟨f,b,hd,P,TT,es,ks,p,e,mk,g,n,rfl,h1,h2,h3,h4,q⟩:=h
 exact⟨f,b,hd,P,TT,es,ks,p,e,mk,g,n,rfl,h1,h2,h3,h4,fun g' H' a b c=>k _ _ (q g' H' a b c)⟩
theorem zO (K:pz)(A:Adr):Ln (mG K A) 3:=by rintro vs H Q E ⟨f,b,S,h,n,r,s,c,d,p,rfl,_⟩;rfl
theorem BK (T:Txt K mg A):Rd (mG K A) (Ea K A) ["stamper","sides","place","papers","entries","head","line","paper","entry"]:=by
 intro vs H Q E h
 obtain⟨f,b,S,h,n,r,s,c,d,p,rfl,x,w,pc,pd,hn,q⟩:=h
 obtain⟨t,u,hr,hs,lr,ls,h1,h2,h3,h4,h5,h6,h7⟩:=x.ex
 refine⟨Gc _,fun Pp hPp=>⟨Gc _,fun En hEn=>?_⟩⟩
 obtain⟨nE,hEn0⟩:=bu hEn
 have S0:au H (upd (upd H Pp (.lst [])) En (.lst [])):=(au.upd hPp).put hEn0
 have e1:upd (upd H Pp (.lst [])) En (.lst []) Pp=some (.lst []):=by rw[al (Gt nE)];exact aj
 have e2:upd (upd H Pp (.lst [])) En (.lst []) En=some (.lst []):=aj
 generalize upd (upd H Pp (.lst [])) En (.lst [])=H0 at S0 e1 e2
 have w0:=w.same S0 (gV _)
 have a1:=w.L1 hPp
 have a2:=w.swap.L1 hPp
 have a3:=w.L1 hEn0
 have a4:=w.swap.L1 hEn0
 refine⟨S,rfl,.inr ⟨⟨_,SqT.of (S0 _ _ h1)⟩,?_⟩⟩
 refine kJ (xs:=[.ref t,.ref u]) (fun i σ H'=>∃x5 x6 x7 x8,σ=[some (.ref f),some (.ref S),some (.int (p:Int)),some (.ref Pp),some (.ref En),x5,x6,x7,x8]∧KD b r s H H'∧Duo A H' f b h (n+200*i) r s∧ShI H' h r s c d p Pp En i)
  ⟨none,none,none,none,rfl,KD.same S0,w0,e1,e2⟩ ?_ ?_ ?_
 ·rintro i σ H' _ ⟨x5,x6,x7,x8,rfl,kk,_⟩;exact SqT.of (w.keep kk h1 (fun _ z=>nomatch z) (fun _ z=>nomatch z))
 ·rintro i v σ H' hv ⟨x5,x6,x7,x8,rfl,kk,w',si⟩
  match i,hv,si with
  |0,hv,⟨b1,b2⟩=>
   cases hv
   refine⟨t,_,rfl,SqT.of (w.keep kk h2 (fun _ z=>nomatch z) (fun _ z=>nomatch z)),rfl,_,_,rfl,_,_,rfl,rfl,?_⟩
   have hh:=h4.kd w kk
   obtain⟨dx,fs,g1,g2,g3⟩:=lJ (K:=K) (Q:=fun P e H2=>KD b r s H' H2∧Duo A H2 f b h (n+200*0+200) r s∧(∃T,bQ H2 P T e (wkO h r.es c p))∧r.es[p]? =some e) w' hh (h6.kd w w' kk) pc (by omega) (fun P T e H2 a b c d=>⟨a,b,⟨T,c⟩,d⟩)
   refine⟨lr,dx,fs,rfl,g1,g2,ixT (j:=0) hh.w rfl rfl ?_⟩
   refine gE g3 fun v H1 ⟨P,e,ev,g4⟩=>?_
   subst ev
   dsimp only[aw,ax,aB,az,af,ae,ak]
   refine ir g4 fun v2 H2 ⟨ev,k2,w2,⟨TT,pw⟩,ge⟩=>?_
   subst ev
   have b1':=w'.keep k2 b1 (fun _ z=>nomatch z) (fun _ z=>nomatch z)
   have b2':=w'.keep k2 b2 (fun _ z=>nomatch z) (fun _ z=>nomatch z)
   dsimp only[ax,aB,aw,bg,aP,tOp,ae,tC]
   refine oP ?_
   refine Sel.f ?_
   refine⟨.inl ⟨rfl,_,SqL.of b1'⟩,Pp,_,_,rfl,rfl,b1',aK (by simp),?_⟩
   have b2'':upd H2 Pp (.lst ([]++[.ref P])) En=some (.lst []):=by rw[al nE];exact b2'
   refine⟨.inl ⟨rfl,_,SqL.of b2''⟩,En,_,_,rfl,rfl,b2'',aK (by simp),?_⟩
   exact⟨_,_,_,_,rfl,((kk.trans k2).setL hPp).setL hEn0,(w2.setL b1' a1 a2).setL b2'' a3 a4,P,TT,e,ge,(pw.setL b1').setL b2'',by rw[al (Gt nE)];exact aj,aj⟩
  |1,hv,⟨P0,T0,e0,ge0,pw0,b1,b2⟩=>
   cases hv
   refine⟨u,_,rfl,SqT.of (w.keep kk h3 (fun _ z=>nomatch z) (fun _ z=>nomatch z)),rfl,_,_,rfl,_,_,rfl,rfl,?_⟩
   have hh:=h5.kd w.swap kk.swap
   obtain⟨dx,fs,g1,g2,g3⟩:=lJ (K:=K) (Q:=fun P e H2=>KD b s r H' H2∧Duo A H2 f b h (n+200*1+200) s r∧(∃T,bQ H2 P T e (wkO h s.es d p))∧s.es[p]? =some e) w'.swap hh (h7.kd w w' kk) pd (by omega) (fun P T e H2 a b c d=>⟨a,b,⟨T,c⟩,d⟩)
   refine⟨ls,dx,fs,rfl,g1,g2,ixT (j:=0) hh.w rfl rfl ?_⟩
   refine gE g3 fun v H1 ⟨P,e,ev,g4⟩=>?_
   subst ev
   dsimp only[aw,ax,aB,az,af,ae,ak]
   refine ir g4 fun v2 H2 ⟨ev,k2,w2,⟨TT,pw⟩,ge⟩=>?_
   subst ev
   have k2:=k2.swap
   have w2:=w2.swap
   have b1':=w'.keep k2 b1 (fun _ z=>nomatch z) (fun _ z=>nomatch z)
   have b2':=w'.keep k2 b2 (fun _ z=>nomatch z) (fun _ z=>nomatch z)
   dsimp only[ax,aB,aw,bg,aP,tOp,ae,tC]
   refine oP ?_
   refine Sel.f ?_
   refine⟨.inl ⟨rfl,_,SqL.of b1'⟩,Pp,_,_,rfl,rfl,b1',aK (by simp),?_⟩
   have b2'':upd H2 Pp (.lst ([.ref P0]++[.ref P])) En=some (.lst [kV e0]):=by rw[al nE];exact b2'
   refine⟨.inl ⟨rfl,_,SqL.of b2''⟩,En,_,_,rfl,rfl,b2'',aK (by simp),?_⟩
   exact⟨_,_,_,_,rfl,((kk.trans k2).setL hPp).setL hEn0,(w2.setL b1' a1 a2).setL b2'' a3 a4,P0,T0,e0,P,TT,e,ge0,ge,((pw0.kd w' k2).setL b1').setL b2'',(pw.setL b1').setL b2'',by rw[al (Gt nE)];exact aj,aj⟩
  |i+2,hv,_=>simp at hv
 ·rintro σ H' ⟨x5,x6,x7,x8,rfl,kk,w',P,T1,e,P2,T2,e2,ge,ge2,pw,pw2,b1,b2⟩
  refine ixL (j:=0) b2 rfl rfl (ixL (j:=1) b2 rfl rfl (fc (Sel.dec (fun ee=>?_) (fun ee=>?_))))
  ·refine⟨aG (show 1≤1000000 by decide),fun R hR=>?_⟩
   have S1:=au.upd (o:=.tup [.str "dark"]) hR
   exact q R _ (kk.trans (KD.same S1)) (w'.same S1 (gV _)) (.inl ⟨by rw[ge,ge2,ee],aj⟩)
  ·refine ixL (j:=0) b1 rfl rfl (ixL (j:=1) b1 rfl rfl ⟨aG (show 4≤1000000 by decide),fun R hR=>?_⟩)
   have S1:=au.upd (o:=.tup [.str "lie",.int (p:Int),.ref P,.ref P2]) hR
   exact q R _ (kk.trans (KD.same S1)) (w'.same S1 (gV _)) (.inr ⟨P,T1,P2,T2,e,e2,ge,ge2,ee,aj,pw.same S1,pw2.same S1⟩)
theorem yS {q:Nat→Bool}{n lo hi:Nat}(h:¬1<hi- lo):bsF q n lo hi=lo:=by
 cases n with
 |zero=>rfl
 |succ n=>rw[bsF,if_neg h]
structure Bs (h:List Key→Key)(r s:Rw)(k lo hi:Nat):Prop where
 lt:lo<hi
 le:hi≤k
 fu:∃u,hi- lo≤u∧bsF (eqM h r s) u lo hi=bsP h r s k
theorem Bs.init {h:List Key→Key}{r s:Rw}{k:Nat}(h1:1≤k):Bs h r s k 0 k:=⟨h1,gV _,k,by omega,rfl⟩
theorem Bs.yes {h:List Key→Key}{r s:Rw}{k lo hi:Nat}(w:Bs h r s k lo hi)(g:1<hi- lo)(e:eqM h r s ((lo+hi)/2)=true):Bs h r s k ((lo+hi)/2) hi:=by
 obtain⟨lt,le,u,hu,eu⟩:=w
 cases u with
 |zero=>omega
 |succ u=>rw[bsF,if_pos g,if_pos e]at eu;exact⟨by omega,le,u,by omega,eu⟩
theorem Bs.no {h:List Key→Key}{r s:Rw}{k lo hi:Nat}(w:Bs h r s k lo hi)(g:1<hi- lo)(e:eqM h r s ((lo+hi)/2)=false):Bs h r s k lo ((lo+hi)/2):=by
 obtain⟨lt,le,u,hu,eu⟩:=w
 cases u with
 |zero=>omega
 |succ u=>rw[bsF,if_pos g,if_neg (by rw[e];decide)]at eu;exact⟨by omega,by omega,u,by omega,eu⟩
theorem Bs.done {h:List Key→Key}{r s:Rw}{k lo hi:Nat}(w:Bs h r s k lo hi)(g:¬1<hi- lo):bsP h r s k=lo∧hi=lo+1:=by
 obtain⟨lt,le,u,hu,eu⟩:=w
 rw[yS g]at eu
 exact⟨eu.symm,by omega⟩
theorem xZ (K:pz)(A:Adr):Ln (mR K A) 3:=by rintro vs H Q E ⟨f,b,S,h,n,r,s,c,d,k,rfl,_⟩;rfl
theorem BQ (T:Txt K mg A):Rd (mR K A) (ES K A) ["stamper","sides","low","lo","hi","mid","marks"]:=by
 intro vs H Q E h
 obtain⟨f,b,S,h,n,r,s,c,d,k,rfl,x,w,k1,kc,kd,c14,hn,q⟩:=h
 refine⟨fun m σ H'=>∃(lo hi:Nat)(x5 x6:Option V),σ=[some (.ref f),some (.ref S),some (.int (k:Int)),some (.int (lo:Int)),some (.int (hi:Int)),x5,x6]∧m=hi- lo∧Bs h r s k lo hi∧KD b r s H H'∧Duo A H' f b h (n+400*(k- (hi- lo))) r s,
  ⟨_,0,k,none,none,rfl,rfl,Bs.init k1,KD.rfl',w.up (by omega)⟩,?_⟩
 rintro m σ H' ⟨lo,hi,x5,x6,rfl,rfl,bs,kk,w'⟩
 have b1:=bs.lt
 have b2:=bs.le
 refine cq (Sel.dec (fun g=>?_) (fun g=>?_))
 ·have g:((hi:Int)- lo)>1:=g
  have g':1<hi- lo:=by omega
  refine⟨fun σ H'=>∃j,j<hi- lo∧∃(lo hi:Nat)(x5 x6:Option V),σ=[some (.ref f),some (.ref S),some (.int (k:Int)),some (.int (lo:Int)),some (.int (hi:Int)),x5,x6]∧j=hi- lo∧Bs h r s k lo hi∧KD b r s H H'∧Duo A H' f b h (n+400*(k- (hi- lo))) r s,fun σ' H' hh=>hh,?_⟩
  have em:((lo:Int)+hi)/2=(((lo+hi)/2:Nat):Int):=by omega
  refine⟨⟨by decide,by decide⟩,?_⟩
  rw[em]
  refine⟨f,b,S,h,_,r,s,c,d,(lo+hi)/2,rfl,x.kd w w' kk,w',by omega,by omega,by omega,fun M H2 k2 w2 hM=>?_⟩
  refine .inl (.inl ⟨_,SqL.of hM,Sel.no rfl (ixL (j:=0) hM rfl rfl (ixL (j:=1) hM rfl rfl (fc (Sel.dec (fun ee=>?_) (fun ee=>?_)))))⟩)
  ·exact⟨hi- (lo+hi)/2,by omega,_,hi,_,_,rfl,rfl,bs.yes g' (decide_eq_true ee),kk.trans k2,w2.up (by omega)⟩
  ·exact⟨(lo+hi)/2- lo,by omega,lo,_,_,_,rfl,rfl,bs.no g' (decide_eq_false ee),kk.trans k2,w2.up (by omega)⟩
 ·have g:¬((hi:Int)- lo)>1:=g
  obtain⟨e1,e2⟩:=bs.done (by omega)
  refine⟨f,b,S,h,_,r,s,c,d,lo,rfl,x.kd w w' kk,w',by omega,by omega,by omega,fun R H2 k2 w2 sh=>?_⟩
  rw[←e1]at sh
  exact q R H2 (kk.trans k2) (w2.up (by omega)) sh
theorem Ai (K:pz)(A:Adr):Ln (jY K A) 5:=by rintro vs H Q E ⟨f,b,hr,hs,lr,ls,h,n,r,s,c,d,rfl,_⟩;rfl
theorem Dr (T:Txt K mg A):Rd (jY K A) (DZ K A) ["stamper","one","other","line","second","sides","low","marks"]:=by
 intro vs H Q E h
 obtain⟨f,b,hr,hs,lr,ls,h,n,r,s,c,d,rfl,h1,h2,l1,l2,w,c14,hn,q⟩:=h
 refine⟨aG (show 2≤1000000 by decide),fun t ht=>⟨aG (show 2≤1000000 by decide),fun u hu=>⟨aG (show 2≤1000000 by decide),fun S hS=>?_⟩⟩⟩
 obtain⟨nu,hu0⟩:=bu hu
 obtain⟨nS,hS1⟩:=bu hS
 obtain⟨nS2,hS0⟩:=bu hS1
 have S1:au H (upd (upd (upd H t (.tup [.ref hr,.ref lr])) u (.tup [.ref hs,.ref ls])) S (.tup [.ref t,.ref u])):=(au.upd ht).trans ((au.upd hu).trans (au.upd hS))
 have e1:upd (upd (upd H t (.tup [.ref hr,.ref lr])) u (.tup [.ref hs,.ref ls])) S (.tup [.ref t,.ref u]) t=some (.tup [.ref hr,.ref lr]):=by rw[al (Gt nS2),al (Gt nu)];exact aj
 have e2:upd (upd (upd H t (.tup [.ref hr,.ref lr])) u (.tup [.ref hs,.ref ls])) S (.tup [.ref t,.ref u]) u=some (.tup [.ref hs,.ref ls]):=by rw[al (Gt nS)];exact aj
 have e3:upd (upd (upd H t (.tup [.ref hr,.ref lr])) u (.tup [.ref hs,.ref ls])) S (.tup [.ref t,.ref u]) S=some (.tup [.ref t,.ref u]):=aj
 generalize upd (upd (upd H t (.tup [.ref hr,.ref lr])) u (.tup [.ref hs,.ref ls])) S (.tup [.ref t,.ref u])=H1 at S1 e1 e2 e3
 have w1:=w.same S1 (gV _)
 have x1:Sds A H1 f b h S r s c d:=⟨t,u,hr,hs,lr,ls,e3,e1,e2,⟨S1 _ _ h1.w,h1.c1,h1.c2⟩,⟨S1 _ _ h2.w,h2.c1,h2.c2⟩,l1.same S1,l2.same S1⟩
 refine ixT (j:=0) (S1 _ _ h1.w) rfl rfl (ixT (j:=0) (S1 _ _ h2.w) rfl rfl ?_)
 have em:(if (d:Int)<c then(d:Int)else c)=((min c d:Nat):Int):=by split<;>omega
 dsimp only[ak,lm]
 rw[em]
 have c1:=h1.c1
 have d1:=h2.c1
 refine⟨f,b,S,h,_,r,s,c,d,min c d,rfl,x1,w1,by omega,by omega,by omega,fun M H2 k2 w2 hM=>?_⟩
 refine .inl (.inl ⟨_,SqL.of hM,Sel.no rfl (ixL (j:=0) hM rfl rfl (ixL (j:=1) hM rfl rfl (fc (Sel.dec (fun ee=>?_) (fun ee=>?_)))))⟩)
 ·refine⟨aG (show 1≤1000000 by decide),fun R hR=>?_⟩
  have S3:=au.upd (o:=.tup [.str "one"]) hR
  exact q R _ ((KD.same S1).trans (k2.trans (KD.same S3))) (w2.same S3 (by omega)) (.inl ⟨decide_eq_true ee,aj⟩)
 ·refine⟨f,b,S,h,_,r,s,c,d,min c d,rfl,x1.kd w1 w2 k2,w2,by omega,by omega,by omega,c14,by omega,fun R H3 k3 w3 sh=>?_⟩
  exact q R _ ((KD.same S1).trans (k2.trans k3)) (w3.up (by omega)) (.inr ⟨decide_eq_false ee,sh⟩)
theorem yj (K:pz)(A:Adr):Ln (fH K A) 3:=by rintro vs H Q E ⟨f,b,E,h,es,k,rfl,_⟩;rfl
theorem Bf (T:Txt K mg A):Rd (fH K A) (Fw K A) ["_law_stamper","_law_entries","_law_count"]:=by
 intro vs H Q E h
 obtain⟨f,b,F,h,es,k,rfl,hF,en,l60,hk,st,q⟩:=h
 refine⟨f,rfl,(st 0).clo,k,rfl,wu hF hk fun p hp=>?_⟩
 have S1:au H (upd H p (.lst ((es.take k).map kV))):=au.upd hp
 have hp1:upd H p (.lst ((es.take k).map kV)) p=some (.lst ((es.take k).map kV)):=aj
 generalize upd H p (.lst ((es.take k).map kV))=H1 at S1 hp1
 have hl:(es.take k).length=k:=by rw[FJ];omega
 refine⟨f,b,p,es.take k,gW h,0,rfl,hp1,fun e he=>en e (IW he),by omega,(st 0).same (gV _) S1,by omega,fun v g2 H2 k2 s2 sub2 okv szv ev=>⟨aG (show 3≤1000000 by decide),fun t ht=>?_⟩⟩
 have S3:au H2 (upd H2 t (.tup [.str "row",.int (k:Int),kV v])):=au.upd ht
 have ht3:upd H2 t (.tup [.str "row",.int (k:Int),kV v]) t=some (.tup (([.inr "row",.inl (k:Int),v]:List Key).map kV)):=aj
 generalize upd H2 t (.tup [.str "row",.int (k:Int),kV v])=H3 at S3 ht3
 have eg:=cN sub2
 subst eg
 dsimp only[ak]
 refine bV (s2.same (gV _) S3) (by omega) ht3 (eE (by omega) okv) fun w H4 g4 kb s4 sub4 gv st4=>?_
 have eg:=cN sub4
 subst eg
 have ew:w=mkO h es k:=by
  have e1:some (h [.inr "row",.inl (k:Int),v])=some w:=gv
  have e2:w=h [.inr "row",.inl (k:Int),v]:=(FY e1).symm
  rw[e2,ev h eR]
  unfold mkO fb
  rw[hl]
 rw[ew]
 exact q H4 ((aR.same S1).trans (k2.trans ((aR.same S3).trans kb))) fun n=>s4.any
theorem yu (K:pz)(A:Adr):Ln (iW K A) 2:=by rintro vs H Q E ⟨f,E,es,rfl,_⟩;rfl
theorem CU (T:Txt K mg A):Rd (iW K A) (EO K A) ["_law_stamper","_law_entries","_law_row_here","_law_entry"]:=by
 intro vs H Q E h
 obtain⟨f,F,es,rfl,hF,en,l60,q⟩:=h
 intro x dx hx hdx ne
 refine⟨x,dx,f,rfl,aj,fun L D H1 k1 hL hD nLD e1 e2 e3=>⟨rfl,?_⟩⟩
 have S1:au H H1:=fun z o e=>by
  have n1:z≠x:=aq e hx
  have n2:z≠dx:=aq e hdx
  exact k1 z o n1 (by rw[al n1,al n2];exact e)
 have e4:H1 dx=some (.own x):=k1 _ _ ne (by rw[al ne];exact aj)
 have hL0:=(bu (bu hL).2).2
 have hD0:=(bu (bu hD).2).2
 refine⟨F,rfl,.inl ⟨⟨_,SqL.of (S1 _ _ hF)⟩,?_⟩⟩
 refine eU (xs:=es.map kV) (fun i σ H'=>∃x3,σ=[some (.ref f),some (.ref F),some (.ref x),x3]∧au H H'∧cH A H' x f L D (es.take i) []∧H' dx=some (.own x))
  ⟨none,rfl,S1,⟨⟨dx,e1⟩,e2,e3,(fun _ h=>nomatch h),Gc _⟩,e4⟩ ?_ ?_ ?_
 ·rintro i σ H' _ ⟨_,_,S,_⟩;exact SqL.of (S _ _ hF)
 ·rintro i v σ H' hv ⟨x3,rfl,S,r,ho⟩
  obtain⟨u,hu,rfl⟩:=eF hv
  have hi:=(FN.mp hu).1
  have t1:es.take (i+1)=es.take i++[u]:=by rw[HQ,hu];rfl
  obtain⟨dx',hx'⟩:=r.ob
  have tl:(es.take i).length=i:=by rw[FJ];omega
  have enu:=en u (Ga hu)
  refine⟨x,dx',_,rfl,hx',rfl,x,f,L,D,_,[],u,rfl,r,enu,by omega,?_⟩
  refine⟨_,rfl,fun z o e=>?_,⟨⟨dx',?_⟩,by rw[t1];exact aj,?_,fun e he=>en e (IW he),by rw[FJ];omega⟩,?_⟩
  ·rw[al (aq e hL0)];exact S _ _ e
  ·rw[al (aL hx' r.hl (fun z=>nomatch z))];exact hx'
  ·rw[al (aL r.hd r.hl (fun z=>nomatch z))];exact r.hd
  ·rw[al (aL ho r.hl (fun z=>nomatch z))];exact ho
 ·rintro σ H' ⟨x3,rfl,S,r,ho⟩
  rw[FH,GZ]at r
  exact q x L D dx H' S hL0 hD0 ho r
theorem en7 (z:Int):enK (.inl (z%7)):=⟨decide_eq_true ⟨by omega,by have:(7:Int)<10^60:=by decide+kernel
                                                                   omega⟩,by show 62≤70;decide⟩
theorem wb {H:Hp}{a:Addr}{ns:List Int}{σ:L2.St}{lo:Nat}{n:Nat}{Q:VK}(hs:SqL K H a (ns.map V.int))(hσ:σ[0]?=some (some (.ref a)))(hn:n≤14)
  (q:∀(D:Addr)(es:List Key)(H':Hp),H D=none→au H H'→H' D=some (.lst (es.map kV))→(∀e∈es,enK e)→es.length=n→Q (.ref D) H'):∀D,H D=none→pG [0] (fun _ H Q=>Q true H) (tOp (fg) (az (dU K A) (fun _=>E0) (af (ae 1) (af (tOp (bo K) (tC (.int (lo:Int))) (ae 0)) (ak)))) (tC (.int 7))) σ D (Itr 0 n) H Q:=by
 intro D hD
 refine fe (cK.range (lo:=0) (n:=n)) (fun i ys H'=>∃es:List Key,ys=es.map kV∧es.length=i∧(∀e∈es,enK e)∧H' D=some (.lst ys)∧au H H') (fun _ _ _ _ _=>trivial) ⟨[],rfl,rfl,(fun _ h=>nomatch h),aj,au.upd hD⟩ (fun i ys H2 hi h=>?_) (fun ys H2 h=>?_)
 ·obtain⟨es,e1,e2,e3,e4,S⟩:=h
  have hc:bz σ [0]=[some (.ref a)]:=by simp[bz,hσ]
  rw[hc]
  refine fz ⟨a,ns,_,rfl,SqL.keep (fun o e=>S _ _ e) hs,by omega,fun z=>⟨by decide,e4,?_,CWd.next hi ⟨es++[.inl (z%7)],by rw[e1,Gb];rfl,by rw[pv,e2];rfl,fun x hx=>?_,aj,fun z o h=>?_⟩⟩⟩
  ·rw[e1,FH,e2];exact aK (by omega)
  ·rcases Gs.mp hx with h|h
   ·exact e3 x h
   ·rw[FU.mp h];exact en7 z
  ·rw[al (aq h hD)];exact S _ _ h
 ·obtain⟨es,rfl,e2,e3,e4,S⟩:=h
  exact q D es H2 hD S e4 e3 e2
theorem Ad (K:pz)(A:Adr):Ln (mo K A) 1:=by rintro vs H Q E ⟨a,ns,rfl,_⟩;rfl
theorem BZ (T:Txt K mg A):Rd (mo K A) (Ft K A) ["_law_script","_law_many","_law_first","_law_cut","_law_more"]:=by
 intro vs H Q E h
 obtain⟨a,ns,rfl,hs,q⟩:=h
 refine⟨a,ns,1,rfl,hs,by decide,fun z1=>⟨by decide,?_⟩⟩
 obtain⟨m,em⟩:=Ic (show 0≤1+z1%14 by omega)
 have m1:1≤m:=by omega
 have m14:m≤14:=by omega
 show rX K A _ [some (.ref a),some (.int (1+z1%14)),none,none,none] H
 rw[em]
 refine⟨_,rfl,by omega,by omega,?_⟩
 rw[Im]
 refine wb (lo:=12) hs rfl m14 fun D1 es H1 hD1 S1 h1 en1 l1=>?_
 refine⟨a,ns,2,rfl,SqL.keep (fun o e=>S1 _ _ e) hs,by decide,fun z2=>⟨by omega,?_⟩⟩
 obtain⟨c,ec⟩:=Ic (Ji z2 (show(m:Int)+1≠0 by omega))
 have lc:=IF z2 (show 0<(m:Int)+1 by omega)
 show rh K A _ [some (.ref a),some (.int (m:Int)),some (.ref D1),some (.int (z2%((m:Int)+1))),none] H1
 rw[ec]at lc⊢
 refine⟨a,ns,3,rfl,SqL.keep (fun o e=>S1 _ _ e) hs,by decide,fun z3=>⟨by omega,?_⟩⟩
 have r0:=Ji z3 (b:=15- (c:Int)) (by omega)
 have r1:=IF z3 (b:=15- (c:Int)) (by omega)
 dsimp only[ak,qf]
 obtain⟨k,ek⟩:∃k:Nat,(if z3%(15- (c:Int))>1- (c:Int)then z3%(15- (c:Int))else 1- (c:Int))=(k:Int)∧1≤c+k∧c+k≤14:=by
  by_cases g:z3%(15- (c:Int))>1- (c:Int)
  ·obtain⟨k,e⟩:=Ic r0
   exact⟨k,by rw[if_pos g];exact e,by omega,by omega⟩
  ·obtain⟨k,e⟩:=Ic (show 0≤1- (c:Int)by omega)
   exact⟨k,by rw[if_neg g];exact e,by omega,by omega⟩
 obtain⟨ek,k1,k14⟩:=ek
 rw[ek]
 refine⟨c,rfl,wu h1 (by omega) fun p hp=>?_⟩
 have S2:au H1 (upd H1 p (.lst ((es.take c).map kV))):=au.upd hp
 have hp2:upd H1 p (.lst ((es.take c).map kV)) p=some (.lst ((es.take c).map kV)):=aj
 generalize upd H1 p (.lst ((es.take c).map kV))=H2 at S2 hp2
 have S02:=S1.trans S2
 refine⟨_,rfl,by omega,by omega,?_⟩
 rw[Im]
 refine wb (lo:=26) (SqL.keep (fun o e=>S02 _ _ e) hs) rfl (by omega) fun D2 fs H3 hD2 S3 h3 en3 l3=>?_
 have hp3:=S3 _ _ hp2
 have tl:(es.take c).length=c:=by rw[FJ];omega
 refine .inl ⟨p,D2,_,_,rfl,rfl,hp3,h3,?_,fun R hR=>?_⟩
 ·rw[FH,FH];exact HK (aK (by omega))
 have S4:au H3 (upd H3 R (.lst ((es.take c).map kV++fs.map kV))):=au.upd hR
 have hR4:upd H3 R (.lst ((es.take c).map kV++fs.map kV)) R=some (.lst ((es.take c++fs).map kV)):=by rw[aj,Gb]
 generalize upd H3 R (.lst ((es.take c).map kV++fs.map kV))=H4 at S4 hR4
 refine⟨aG (show 2≤1000000 by decide),fun B hB=>?_⟩
 have S5:=au.upd (o:=.lst [.ref D1,.ref R]) hB
 refine q B D1 R es (es.take c++fs) _ (S02.trans (S3.trans (S4.trans S5))) aj (S5 _ _ (S4 _ _ (S3 _ _ (S2 _ _ h1)))) (S5 _ _ hR4) en1 (fun e he=>?_) (by omega) (by omega) ?_ ?_
 ·rcases Gs.mp he with h|h
  ·exact en1 e (IW h)
  ·exact en3 e h
 ·rw[pv,tl];omega
 ·rw[pv,tl];omega
section
variable {H H0:Hp}{f b R C L:Addr}{h:List Key→Key}{n c k j:Nat}{r s:Rw}{rx cx:List V}{ps:List Addr}{ts:List (List Key)}{x6 x7:Option V}{D:eZ}
theorem PK.kd {H':Hp}(x:PK H ps ts)(w:Duo A H f b h n r s)(k:KD b r s H H'):PK H' ps ts:=x.keep fun z xs e=>w.keep k e (fun _ z=>nomatch z) (fun _ z=>nomatch z)
theorem PK.same {H':Hp}(x:PK H ps ts)(S:au H H'):PK H' ps ts:=x.keep fun z xs e=>S _ _ e
theorem lL (w:Duo A H f b h n r s)(hR:H R=some (.lst rx))(hC:H C=some (.lst cx))(rj:rx[j]?=some (.ref r.x))(cj:cx[j]?=some (.int (c:Int)))(c2:c≤r.es.length)(hn:n+200≤30000)(hL:H L=some (.lst (ps.map V.ref)))(pk:PK H ps ts)(lt:ts.length≤150)
  (q:∀(L2:Addr)(ps2:List Addr)(ts2:List (List Key))(y6 y7:Option V)(H2:Hp),KD b r s H H2→Duo A H2 f b h (n+200) r s→H2 L2=some (.lst (ps2.map V.ref))→PK H2 ps2 ts2→ts2.length≤ts.length+150→(∀t∈ts,t∈ts2)→(0<k→k<c→Opn h ts2 r.es k)→D.nx [some (.ref f),some (.ref R),some (.ref C),some (.int (k:Int)),some (.ref L2),some (.int (j:Int)),y6,y7] H2):
  (bg (aP (dE (mLt) (mLt) (tC (.int 0)) (ae 3) (tOp (aA K) (ae 2) (ae 5)))) (ax (aB (az (jk K A) (fun _=>E0) (af (ae 0) (af (tOp (aA K) (ae 2) (ae 5)) (af (ae 3) (af (bq A.c_Row "growth_paper" (kX K A) (fun _=>E0) (tOp (aA K) (ae 1) (ae 5)) (af (tOp (aA K) (ae 2) (ae 5)) (af (ae 3) (ak)))) (ak)))))) (jE K 2 (dI (aw 6) (dI (aw 7) jJ)))) (aB (tOp (bo K) (tOp (bo K) (ae 4) (ae 6)) (ae 7)) (aw 4))) (ba)) D [some (.ref f),some (.ref R),some (.ref C),some (.int (k:Int)),some (.ref L),some (.int (j:Int)),x6,x7] H:=by
 have non:¬(0<k∧k<c)→D.nx [some (.ref f),some (.ref R),some (.ref C),some (.int (k:Int)),some (.ref L),some (.int (j:Int)),x6,x7] H:=fun g=>q L ps ts x6 x7 H KD.rfl' (w.up (by omega)) hL pk (by omega) (fun t m=>m) fun a b=>absurd ⟨a,b⟩ g
 refine Sel.dec (fun g0=>?_) (fun g0=>Sel.f (non fun g=>?_))
 ·have g0:(0:Int)<k:=g0
  refine ixL (j:=j) hC rfl cj (Sel.dec (fun g1=>?_) (fun g1=>non fun g=>?_))
  ·have g1:(k:Int)<c:=g1
   obtain⟨kvs,rr⟩:=w.rr
   obtain⟨dx,hx⟩:=rr.r.ob
   have l60:=w.le
   have tl:(r.es.take c).length=c:=by rw[FJ];omega
   refine ixL (j:=j) hC rfl cj (ixL (j:=j) hR rfl rj ⟨r.x,dx,_,rfl,hx,rfl,ixL (j:=j) hC rfl cj ?_⟩)
   refine⟨r.x,f,r.L,r.D,b,r.es,kvs,gW h,n,c,k,rfl,rr,c2,by omega,hn,fun P ks kvs' g' H1 k1 r1 sub1 hP mk=>?_⟩
   have eg:=cN sub1
   subst eg
   have w1:=w.op k1 ⟨_,r1⟩ sub1 (by omega)
   have kd1:KD b r s H H1:=KD.k2 k1
   refine⟨f,b,P,r.es.take c,ks,k,gW h,0,by rw[tl],w1.st,by omega,by omega,by omega,by omega,hP,mk,fun P2 Ly Lo y o py po ty to top otop g2 H2 k2 s2 sub2 hP2 hLy hLo wy wo l1 l2 ct co cov=>?_⟩
   have eg:=cN sub2
   subst eg
   have w2:=w1.call k2 s2 sub2
   have kd2:KD b r s H H2:=kd1.trans (KD.kb k2)
   have hL2:=w.keep kd2 hL (fun _ z=>nomatch z) (fun _ z=>nomatch z)
   have pk2:=pk.kd w kd2
   refine⟨P2,_,rfl,SqT.of hP2,rfl,_,_,rfl,_,_,rfl,rfl,?_⟩
   have lp:=cT pk
   have ly:=cT wy
   have lo:=cT wo
   rw[pv,pv]at ly lo
   have ly:py.length+1=ty.length+1:=ly
   have lo:po.length+1=to.length+1:=lo
   refine .inl ⟨L,Ly,_,_,rfl,rfl,hL2,hLy,?_,fun p hp=>?_⟩
   ·rw[FH,FH,pv];exact HK (aK (by show _+(_+1)≤_;omega))
   have S3:au H2 (upd H2 p (.lst (ps.map V.ref++(py++[y]).map V.ref))):=au.upd hp
   have hp3:upd H2 p (.lst (ps.map V.ref++(py++[y]).map V.ref)) p=some (.lst ((ps++(py++[y])).map V.ref)):=by rw[aj];simp only[Gb]
   generalize upd H2 p (.lst (ps.map V.ref++(py++[y]).map V.ref))=H3 at S3 hp3
   refine .inl ⟨p,Lo,_,_,rfl,rfl,hp3,S3 _ _ hLo,?_,fun p2 hp2=>?_⟩
   ·rw[FH,FH,pv,pv,pv];exact HK (aK (by show _+(_+1)+(_+1)≤_;omega))
   have S4:au H3 (upd H3 p2 (.lst ((ps++(py++[y])).map V.ref++(po++[o]).map V.ref))):=au.upd hp2
   have hp4:upd H3 p2 (.lst ((ps++(py++[y])).map V.ref++(po++[o]).map V.ref)) p2=some (.lst ((ps++(py++[y])++(po++[o])).map V.ref)):=by rw[aj];simp only[Gb]
   generalize upd H3 p2 (.lst ((ps++(py++[y])).map V.ref++(po++[o]).map V.ref))=H4 at S4 hp4
   have S:=S3.trans S4
   have et:(r.es.take c).take k=r.es.take k:=by rw[If,GY (by omega)]
   rw[et]at co cov
   refine q p2 _ (ts++(ty++[rwK (r.es.take c).length top])++(to++[rwK k otop])) _ _ H4 (kd2.trans (KD.same S)) (w2.same S (gV _)) hp4 (dF (dF (pk2.same S) (PK.same wy S)) (PK.same wo S)) ?_ (fun t m=>?_) fun _ _=>⟨?_,(cov h eR).mono fun t m=>?_⟩
   ·rw[pv,pv,pv,pv]
    show _+(_+1)+(_+1)≤_
    omega
   ·exact Gs.mpr (.inl (Gs.mpr (.inl m)))
   ·refine Gs.mpr (.inr (Gs.mpr (.inr (FU.mpr ?_))))
    have kl:(r.es.take k).length=k:=by rw[FJ];omega
    unfold fb rwK
    rw[kl,←co.eq h eR]
   ·exact Gs.mpr (.inr (Gs.mpr (.inl m)))
  ·have g1:¬(k:Int)<c:=g1
   omega
 ·have g0:¬(0:Int)<k:=g0
  omega
theorem kn (w:Duo A H f b h n r s)(hR:H R=some (.lst rx))(hC:H C=some (.lst cx))(rj:rx[j]?=some (.ref r.x))(cj:cx[j]?=some (.int (c:Int)))(c2:c≤r.es.length)(kc:k<c)(hn:n+200≤30000)(hL:H L=some (.lst (ps.map V.ref)))(pk:PK H ps ts)(lt:ts.length≤150)
  (q:∀(L2:Addr)(ps2:List Addr)(ts2:List (List Key))(H2:Hp),KD b r s H H2→Duo A H2 f b h (n+200) r s→H2 L2=some (.lst (ps2.map V.ref))→PK H2 ps2 ts2→ts2.length≤ts.length+150→D.nx [some (.ref f),some (.ref R),some (.ref C),some (.int (k:Int)),some (.ref L2),some (.int (j:Int))] H2):
  (aB (tOp (bo K) (ae 4) (az (jd K A) (fun _=>E0) (af (ae 0) (af (tOp (aA K) (ae 2) (ae 5)) (af (ae 3) (af (bq A.c_Row "place_paper" (iF K A) (fun _=>E0) (tOp (aA K) (ae 1) (ae 5)) (af (tOp (aA K) (ae 2) (ae 5)) (af (ae 3) (ak)))) (ak))))))) (aw 4)) D [some (.ref f),some (.ref R),some (.ref C),some (.int (k:Int)),some (.ref L),some (.int (j:Int))] H:=by
 obtain⟨kvs,rr⟩:=w.rr
 obtain⟨dx,hx⟩:=rr.r.ob
 have l60:=w.le
 have tl:(r.es.take c).length=c:=by rw[FJ];omega
 refine ixL (j:=j) hC rfl cj (ixL (j:=j) hR rfl rj ⟨r.x,dx,_,rfl,hx,rfl,ixL (j:=j) hC rfl cj ?_⟩)
 refine⟨r.x,f,r.L,r.D,b,r.es,kvs,gW h,n,c,k,rfl,rr,c2,kc,hn,fun P T e ks kvs' g' H1 k1 r1 sub1 hP ge mk=>?_⟩
 have eg:=cN sub1
 subst eg
 have w1:=w.op k1 ⟨_,r1⟩ sub1 (by omega)
 have kd1:KD b r s H H1:=KD.k2 k1
 refine⟨f,b,P,T,r.es.take c,ks,k,e,gW h,0,by rw[tl],⟨w1.st,by omega,by omega,by omega,by rw[Iy kc];exact ge,w.en e (Ga ge),hP,by rw[tl];exact mk⟩,fun L2 pr qs us top g2 H2 k2 s2 sub2 hL2 wq lq ct=>?_⟩
 have eg:=cN sub2
 subst eg
 have w2:=w1.call k2 s2 sub2
 have kd2:KD b r s H H2:=kd1.trans (KD.kb k2)
 have hL':=w.keep kd2 hL (fun _ z=>nomatch z) (fun _ z=>nomatch z)
 have pk2:=pk.kd w kd2
 have lp:=cT pk
 have ly:=cT wq
 rw[pv,pv]at ly
 have ly:qs.length+1=us.length+1:=ly
 refine .inl ⟨L,L2,_,_,rfl,rfl,hL',hL2,?_,fun p hp=>?_⟩
 ·rw[FH,FH,pv];exact HK (aK (by show _+(_+1)≤_;omega))
 have S3:au H2 (upd H2 p (.lst (ps.map V.ref++(qs++[pr]).map V.ref))):=au.upd hp
 have hp3:upd H2 p (.lst (ps.map V.ref++(qs++[pr]).map V.ref)) p=some (.lst ((ps++(qs++[pr])).map V.ref)):=by rw[aj];simp only[Gb]
 refine q p _ (ts++(us++[rwK (r.es.take c).length top])) _ (kd2.trans (KD.same S3)) (w2.same S3 (gV _)) hp3 (dF (pk2.same S3) (PK.same wq S3)) ?_
 rw[pv,pv]
 show _+(_+1)≤_
 omega
end
theorem yp (K:pz)(A:Adr):Ln (jR K A) 4:=by rintro vs H Q E ⟨f,b,R,C,h,n,r,s,c,d,k,rfl,_⟩;rfl
theorem Bn (T:Txt K mg A):Rd (jR K A) (Eu K A) ["_law_stamper","_law_rows","_law_counts","_law_count","_law_terms","_law_k","_law_younger","_law_older"]:=by
 intro vs H Q E h
 obtain⟨f,b,R,C,h,n,r,s,c,d,k,rfl,x,w,hn,q⟩:=h
 refine⟨Gc _,fun L hL=>?_⟩
 have S0:=au.upd (o:=.lst []) hL
 refine⟨2,rfl,by decide,by decide,?_⟩
 refine lN (lo:=0) (n:=2) (fun i σ H'=>∃(L:Addr)(ps:List Addr)(ts:List (List Key))(x5 x6 x7:Option V),σ=[some (.ref f),some (.ref R),some (.ref C),some (.int (k:Int)),some (.ref L),x5,x6,x7]∧KD b r s H H'∧Duo A H' f b h (n+200*i) r s∧H' L=some (.lst (ps.map V.ref))∧PK H' ps ts∧ts.length≤150*i∧(1≤i→0<k→k<c→Opn h ts r.es k)∧(2≤i→0<k→k<d→Opn h ts s.es k))
  ⟨L,[],[],none,none,none,rfl,KD.same S0,w.same S0 (gV _),aj,.nil,Gc _,by omega,by omega⟩ ?_ ?_
 ·rintro i σ H' hi ⟨L,ps,ts,x5,x6,x7,rfl,kk,w',hL',pk,lt,o1,o2⟩
  have hR':=w.keep kk x.hR (fun _ z=>nomatch z) (fun _ z=>nomatch z)
  have hC':=w.keep kk x.hC (fun _ z=>nomatch z) (fun _ z=>nomatch z)
  match i,hi with
  |0,_=>
   refine lL (j:=0) w' hR' hC' rfl rfl x.c2 (by omega) hL' pk (by omega) fun L2 ps2 ts2 y6 y7 H2 k2 w2 hL2 pk2 l2 inc op=>?_
   exact⟨L2,ps2,ts2,_,_,_,rfl,kk.trans k2,w2,hL2,pk2,by omega,fun _=>op,by omega⟩
  |1,_=>
   refine lL (j:=1) w'.swap hR' hC' rfl rfl x.d2 (by omega) hL' pk (by omega) fun L2 ps2 ts2 y6 y7 H2 k2 w2 hL2 pk2 l2 inc op=>?_
   exact⟨L2,ps2,ts2,_,_,_,rfl,kk.trans k2.swap,w2.swap,hL2,pk2,by omega,fun _ a b=>⟨inc _ (o1 (by omega) a b).1,(o1 (by omega) a b).2.mono inc⟩,fun _=>op⟩
  |i+2,hi=>omega
 ·rintro σ H' ⟨L,ps,ts,x5,x6,x7,rfl,kk,w',hL',pk,lt,o1,o2⟩
  exact q L ps ts H' kk w' hL' pk lt fun a b c=>⟨o1 (by omega) a b,o2 (by omega) a c⟩
theorem zg (K:pz)(A:Adr):Ln (mJ K A) 4:=by rintro vs H Q E ⟨f,b,R,C,h,n,r,s,c,d,k,rfl,_⟩;rfl
theorem CY (T:Txt K mg A):Rd (mJ K A) (FB K A) ["_law_stamper","_law_rows","_law_counts","_law_place","_law_terms","_law_k"]:=by
 intro vs H Q E h
 obtain⟨f,b,R,C,h,n,r,s,c,d,k,rfl,x,w,kc,kd,hn,q⟩:=h
 refine⟨Gc _,fun L hL=>?_⟩
 have S0:=au.upd (o:=.lst []) hL
 refine⟨2,rfl,by decide,by decide,?_⟩
 refine lN (lo:=0) (n:=2) (fun i σ H'=>∃(L:Addr)(ps:List Addr)(ts:List (List Key))(x5:Option V),σ=[some (.ref f),some (.ref R),some (.ref C),some (.int (k:Int)),some (.ref L),x5]∧KD b r s H H'∧Duo A H' f b h (n+200*i) r s∧H' L=some (.lst (ps.map V.ref))∧PK H' ps ts∧ts.length≤150*i)
  ⟨L,[],[],none,rfl,KD.same S0,w.same S0 (gV _),aj,.nil,Gc _⟩ ?_ ?_
 ·rintro i σ H' hi ⟨L,ps,ts,x5,rfl,kk,w',hL',pk,lt⟩
  have hR':=w.keep kk x.hR (fun _ z=>nomatch z) (fun _ z=>nomatch z)
  have hC':=w.keep kk x.hC (fun _ z=>nomatch z) (fun _ z=>nomatch z)
  match i,hi with
  |0,_=>
   refine kn (j:=0) w' hR' hC' rfl rfl x.c2 kc (by omega) hL' pk (by omega) fun L2 ps2 ts2 H2 k2 w2 hL2 pk2 l2=>?_
   exact⟨L2,ps2,ts2,_,rfl,kk.trans k2,w2,hL2,pk2,by omega⟩
  |1,_=>
   refine kn (j:=1) w'.swap hR' hC' rfl rfl x.d2 kd (by omega) hL' pk (by omega) fun L2 ps2 ts2 H2 k2 w2 hL2 pk2 l2=>?_
   exact⟨L2,ps2,ts2,_,rfl,kk.trans k2.swap,w2.swap,hL2,pk2,by omega⟩
  |i+2,hi=>omega
 ·rintro σ H' ⟨L,ps,ts,x5,rfl,kk,w',hL',pk,lt⟩
  exact q L ps ts H' kk w' hL' pk lt
theorem jA {h:List Key→Key}{s t:List Key}{k:Nat}{e:Key}(hs:s.length=2^k)(ht:t.length=2^k)(q:h (bA h s)=h (bA h t)):bA h (s++[e])=bA h (t++[e]):=by
 have p:0<2^k:=Jh k
 rw[dL h (c:=[e]) hs (gV 1) (by rw[hs];exact p),dL h (c:=[e]) ht (gV 1) (by rw[ht];exact p),q]
theorem tN {h:List Key→Key}{ts:List (List Key)}(nc:∀a∈ts,∀b∈ts,h a=h b→a=b){s:List Key}(c:Cov h ts s)(e:Key):∀{t:List Key},Cov h ts t→s.length=t.length→h (bA h s)=h (bA h t)→bA h (s++[e])=bA h (t++[e]):=by
 induction c with
 |pow hs=>intro t _ l q;exact jA hs (by rw[←l];exact hs) q
 | @hi s h2 m c ih=>
   intro t c2 l q
   cases c2 with
   |pow ht=>exact jA (by rw[l];exact ht) ht q
   |hi h2' m' c'=>
    have g1:=be h2
    have g2:=hV h2
    have lt:(s.take (ag s.length)).length=ag s.length:=by rw[FJ];omega
    have ld:(s.drop (ag s.length)).length=s.length- ag s.length:=FS
    by_cases g:s.length- ag s.length=ag s.length
    ·have ep:s.length=2^(ID (s.length- 1)+1):=by
      rw[Jr]
      have:s.length=ag s.length*2:=by omega
      exact this
     exact jA ep (by rw[←l];exact ep) q
    ·have et:=nc _ m _ m' q
     rw[dG h h2,dG h h2']at et
     injection et with _ et
     injection et with e1 et
     injection et with e2 _
     have r:=ih c' (by rw[FS,FS,l]) e2
     have lt':(t.take (ag t.length)).length=2^ID (s.length- 1):=by rw[FJ,←l];show min (ag s.length) _=ag s.length;omega
     have ld':(t.drop (ag t.length)).length=s.length- ag s.length:=by rw[FS,←l]
     have es:s++[e]=s.take (ag s.length)++(s.drop (ag s.length)++[e]):=by rw[←GJ,LN]
     have ez:t++[e]=t.take (ag t.length)++(t.drop (ag t.length)++[e]):=by rw[←GJ,LN]
     rw[es,ez,dL h (a:=ID (s.length- 1)) lt (by rw[pv];show 1≤_+1;omega) (by rw[pv,ld,lt];show _+1≤_;omega),dL h lt' (by rw[pv];show 1≤_+1;omega) (by rw[pv,ld',lt'];show _+1≤ag s.length;omega),e1,r]
theorem oR {h:List Key→Key}{es:List Key}{p:Nat}{e:Key}(ge:es[p]?=some e):mkO h es (p+1)=h [.inr "row",.inl ((p+1:Nat):Int),h (bA h (es.take p++[e]))]:=by
 have hp:=(FN.mp ge).1
 unfold mkO fb
 rw[HQ,ge]
 have:(es.take p++[e]).length=p+1:=by rw[pv,FJ];show _+1=_;omega
 show h [.inr "row",.inl (((es.take p++[e]).length:Nat):Int),_]=_
 rw[this];rfl
theorem pN {h:List Key→Key}{ts:List (List Key)}{es fs:List Key}{p:Nat}{e:Key}(ge:es[p]?=some e)(gf:fs[p]?=some e)(o:0<p→mkO h es p=mkO h fs p∧Opn h ts es p∧Opn h ts fs p)(ne:mkO h es (p+1)≠mkO h fs (p+1)):¬∀a∈ts,∀b∈ts,h a=h b→a=b:=by
 intro nc
 apply ne
 rw[oR ge,oR gf]
 have lp:=(FN.mp ge).1
 have lq:=(FN.mp gf).1
 have key:bA h (es.take p++[e])=bA h (fs.take p++[e]):=by
  rcases Nat.eq_zero_or_pos p with z|z
  ·subst z;rfl
  ·obtain⟨eq,⟨m1,c1⟩,⟨m2,c2⟩⟩:=o z
   have er:=nc _ m1 _ m2 eq
   have l1:(es.take p).length=(fs.take p).length:=by rw[FJ,FJ];omega
   unfold fb at er
   injection er with _ er
   injection er with _ er
   injection er with er _
   exact tN nc c1 e c2 l1 er
 rw[key]
def pyK:Key→Ld
 |.inl i=>.int i
 |.inr z=>.str z
theorem dh {K:pz}{H:Hp}:∀ks:List Key,DatVs K H (ks.map kV) (ks.map pyK)
 |[]=>.nil
 |.inl i::r=>.cons (.int i) (dh r)
 |.inr z::r=>.cons (.str z) (dh r)
theorem df:∀{ks:List Key},(∀k∈ks,okP k=true)→Hi (ks.map pyK)=true∧Gi (ks.map pyK)≤1
 |[],_=>⟨rfl,by simp[Gi]⟩
 |k::r,h=>by
  obtain⟨h1,h2⟩:=df fun x hx=>h x (GF _ hx)
  have hk:(pyK k).canLay0=true∧(pyK k).depth≤1:=by
   cases k with
   |inl i=>exact⟨rfl,by simp[pyK,Ii]⟩
   |inr z=>exact⟨nw (FP.mp (h _ Gu)).1,by simp[pyK,Ii]⟩
  refine⟨?_,?_⟩
  ·show((pyK k).canLay0&&Hi (r.map pyK))=true
   rw[hk.1,h1];rfl
  ·rw[Gw,Gi];exact Nat.max_le.mpr ⟨hk.2,h2⟩
theorem fT {K:pz}{H:Hp}{P T:Addr}{e:Key}{ks:List Key}(w:bQ H P T e ks):du K H (.ref P) (.tuple [pyK e,.tuple (ks.map pyK)]):=by
 refine .tup (SqT.of w.hP) (.cons ?_ (.cons (.tup (SqT.of w.hT) (dh ks)) .nil))
 cases e with
 |inl i=>exact .int i
 |inr z=>exact .str z
theorem iY {e:Key}{ks:List Key}(oke:okP e=true)(ok:∀k∈ks,okP k=true):(GX [pyK e,.tuple (ks.map pyK)]).canLay0=true∧(GX [pyK e,.tuple (ks.map pyK)]).depth≤150:=by
 obtain⟨h1,h2⟩:=df ok
 obtain⟨h3,h4⟩:=df (ks:=[e]) (fun k hk=>by rw[FU.mp hk];exact oke)
 have h3:((pyK e).canLay0&&true)=true:=h3
 rw[NH]at h3
 have h4:max (pyK e).depth 0≤1:=by simpa[Gi]using h4
 refine⟨?_,?_⟩
 ·show((pyK e).canLay0&&(Hi (ks.map pyK)&&true))=true
  rw[h3,h1];rfl
 ·rw[Ii,Gi,Gi,Ii,Gi]
  omega
theorem uI {H:Hp}{Q:VK}{a b:Key}(q:Q (.bl (!decide (a=b))) H):gA K (kV a) (kV b) H Q:=by
 cases a<;>cases b
 ·rename_i i j
  by_cases e:i=j
  ·subst e;exact ia (by simpa using q)
  ·have e1:(!decide ((Iv i:Key)=Iv j))=true:=by simp[e]
   have e2:(!decide (i=j))=true:=by simp[e]
   rw[e1,←e2]at q;exact q
 ·rename_i i j
  have e1:(!decide ((Iv i:Key)=Iu j))=true:=by simp
  rw[e1]at q;exact q
 ·rename_i i j
  have e1:(!decide ((Iu i:Key)=Iv j))=true:=by simp
  rw[e1]at q;exact q
 ·rename_i i j
  by_cases e:i=j
  ·subst e;exact ia (by simpa using q)
  ·have e1:(!decide ((Iu i:Key)=Iu j))=true:=by simp[e]
   have e2:(!decide (i=j))=true:=by simp[e]
   rw[e1,←e2]at q;exact q
def qy (p:Nat)(e e2:Key)(ks ks2:List Key):Ld:=.tuple [.str "lie",.int (p:Int),.tuple [pyK e,.tuple (ks.map pyK)],.tuple [pyK e2,.tuple (ks2.map pyK)]]
theorem pB {H:Hp}{R P T P2 T2:Addr}{p:Nat}{e e2:Key}{ks ks2:List Key}(hR:H R=some (.tup [.str "lie",.int (p:Int),.ref P,.ref P2]))(w:bQ H P T e ks)(w2:bQ H P2 T2 e2 ks2):du K H (.ref R) (qy p e e2 ks ks2):=
 .tup (SqT.of hR) (.cons (.str _) (.cons (.int _) (.cons (fT w) (.cons (fT w2) .nil))))
theorem xK {p:Nat}{e e2:Key}{ks ks2:List Key}(oe:okP e=true)(oe2:okP e2=true)(o1:∀k∈ks,okP k=true)(o2:∀k∈ks2,okP k=true):(qy p e e2 ks ks2).canLay0=true∧(qy p e e2 ks ks2).depth≤150:=by
 obtain⟨a1,a2⟩:=iY oe o1
 obtain⟨b1,b2⟩:=iY oe2 o2
 obtain⟨l1,l2⟩:=df o1
 obtain⟨m1,m2⟩:=df o2
 obtain⟨_,d1⟩:=df (ks:=[e]) (fun k hk=>by rw[FU.mp hk];exact oe)
 obtain⟨_,d2⟩:=df (ks:=[e2]) (fun k hk=>by rw[FU.mp hk];exact oe2)
 have d1:max (pyK e).depth 0≤1:=by simpa[Gi]using d1
 have d2:max (pyK e2).depth 0≤1:=by simpa[Gi]using d2
 refine⟨?_,?_⟩
 ·show(_&&(true&&((GX [pyK e,.tuple (ks.map pyK)]).canLay0&&((GX [pyK e2,.tuple (ks2.map pyK)]).canLay0&&true))))=true
  have l:(PyData.str "lie").canLay0=true:=nw (by decide+kernel)
  rw[a1,b1,l]
  rfl
 ·unfold qy
  simp only[Ii,Gi]
  omega
def PpI (H:Hp)(h:List Key→Key)(r s:Rw)(c d p:Nat):Nat→List V→Prop
 |0,ys=>ys=[]
 |1,ys=>∃P T e,ys=[.ref P]∧r.es[p]?=some e∧bQ H P T e (wkO h r.es c p)
 |_,ys=>∃P T e P2 T2 e2,ys=[.ref P,.ref P2]∧r.es[p]?=some e∧s.es[p]?=some e2∧bQ H P T e (wkO h r.es c p)∧bQ H P2 T2 e2 (wkO h s.es d p)
theorem jp {H:Hp}{f b:Addr}{h:List Key→Key}{n:Nat}{r s:Rw}{c p:Nat}(w:Duo A H f b h n r s):∀k∈wkO h r.es c p,okP k=true:=fun k m=>by
 obtain⟨x,_,rfl⟩:=HC.mp m
 exact(w.st (m:=0)).okh _
section
variable {H:Hp}{f b R B E F W C:Addr}{h:List Key→Key}{n c d k p:Nat}{r s:Rw}{Q:VK}
theorem kD {rx cx:List V}{j:Nat}{Q:VK}(w:Duo A H f b h n r s)(hR:H W=some (.lst rx))(hC:H C=some (.lst cx))(rj:rx[j]?=some (.ref r.x))(cj:cx[j]?=some (.int (c:Int)))(c2:c≤r.es.length)(pc:p<c)(hn:n+200≤30000)
  (q:∀(P T:Addr)(e:Key)(H':Hp),KD b r s H H'→Duo A H' f b h (n+200) r s→bQ H' P T e (wkO h r.es c p)→r.es[p]?=some e→Q (.ref P) H'):
  bq A.c_Row "place_paper" (iF K A) (fun _=>E0) (tOp (aA K) (ae 1) (ae 0)) (af (tOp (aA K) (ae 2) (ae 0)) (af (ae 3) (ak))) [some (.int (j:Int)),some (.ref W),some (.ref C),some (.int (p:Int))] H Q:=by
 obtain⟨kvs,rr⟩:=w.rr
 obtain⟨dx,hx⟩:=rr.r.ob
 refine ixL (j:=j) hR rfl rj ⟨r.x,dx,_,rfl,hx,rfl,ixL (j:=j) hC rfl cj ?_⟩
 refine⟨r.x,f,r.L,r.D,b,r.es,kvs,gW h,n,c,p,rfl,rr,c2,pc,hn,fun P T e ks kvs' g' H1 k1 r1 sub1 hP ge mk=>?_⟩
 have eg:=cN sub1
 subst eg
 have ek:=sO mk
 subst ek
 exact q P T e H1 (KD.k2 k1) (w.op k1 ⟨_,r1⟩ sub1 (by omega)) hP ge
end
theorem zb {H:Hp}{f b R B E F W C L:Addr}{h:List Key→Key}{n c d lo:Nat}{r s:Rw}{Q:VK}{ps:List Addr}{ts:List (List Key)}{x6 x8:Option V}(x:iQ H W C r s c d)(w:Duo A H f b h n r s)(hn:n+1000≤30000)(sh:Shw H h r s c d lo R)(hB:H B=some (.lst [.ref E,.ref F]))(hE:H E=some (.lst (r.es.map kV)))(hF:H F=some (.lst (s.es.map kV)))
  (lc:lo<c)(ld:lo<d)(hL:H L=some (.lst (ps.map V.ref)))(pk:PK H ps ts)(lt:ts.length≤5000)(o:0<lo→mkO h r.es lo=mkO h s.es lo∧Opn h ts r.es lo∧Opn h ts s.es lo)(ne:mkO h r.es (lo+1)≠mkO h s.es (lo+1))
  (q:∀H',KD b r s H H'→Duo A H' f b h (n+1000) r s→Q (.bl true) H'):
  so K A {nx:=fun _ H'=>Q .non H',rt:=Q} [some (.ref f),some (.ref R),some (.ref B),some (.ref W),some (.ref C),some (.int (lo:Int)),x6,some (.ref L),x8,none] H:=by
 have c2:=x.c2
 have d2:=x.d2
 obtain⟨e,ge⟩:∃e,r.es[lo]? =some e:=⟨_,FQ (by omega)⟩
 obtain⟨e2,ge2⟩:∃e,s.es[lo]? =some e:=⟨_,FQ (by omega)⟩
 refine ixL (j:=0) hB rfl rfl (ixL (j:=lo) hE rfl (by rw[GD,ge];rfl) (ixL (j:=1) hB rfl rfl (ixL (j:=lo) hF rfl (by rw[GD,ge2];rfl) (uI (Sel.ndec (fun ee=>?_) (fun ee=>?_))))))
 ·rcases sh with⟨eq,_⟩|⟨P,T,P2,T2,e',e2',g1,g2,_,hR,pw,pw2⟩
  ·rw[ge,ge2]at eq;exact absurd (FY eq) ee
  rw[ge]at g1;cases g1
  rw[ge2]at g2;cases g2
  refine⟨2,rfl,by decide,by decide,fun D hD=>?_⟩
  refine fe (cK.range (lo:=0) (n:=2)) (fun i ys H'=>H' D=some (.lst ys)∧ys.length=i∧KD b r s H H'∧Duo A H' f b h (n+200*i) r s∧PpI H' h r s c d lo i ys) (fun _ _ _ _ _=>trivial)
   ⟨aj,rfl,KD.same (au.upd hD),w.same (au.upd hD) (gV _),rfl⟩ (fun i ys H2 hi hh=>?_) (fun ys H2 hh=>?_)
  ·obtain⟨e1,l1,kk,w',pp⟩:=hh
   have hW':=w.keep kk x.hR (fun _ z=>nomatch z) (fun _ z=>nomatch z)
   have hC':=w.keep kk x.hC (fun _ z=>nomatch z) (fun _ z=>nomatch z)
   have nL:=w.L1 hD
   have nL2:=w.swap.L1 hD
   match i,hi,pp with
   |0,hi,pp=>
    have pp:ys=[]:=pp
    subst pp
    refine fz (kD (j:=0) w' hW' hC' rfl rfl c2 lc (by omega) fun P T e H3 k3 w3 pw3 ge3=>?_)
    have e3:=w'.keep k3 e1 (fun _ z=>nomatch z) (fun _ z=>nomatch z)
    exact⟨e3,aK (by simp),CWd.next hi ⟨aj,rfl,(kk.trans k3).setL hD,w3.setL e3 nL nL2,P,T,e,rfl,ge3,pw3.setL e3⟩⟩
   |1,hi,pp=>
    obtain⟨P0,T0,e0,ey,ge0,pw0⟩:=pp
    subst ey
    refine fz (kD (j:=1) w'.swap hW' hC' rfl rfl d2 ld (by omega) fun P T e H3 k3 w3 pw3 ge3=>?_)
    have e3:=w'.keep k3.swap e1 (fun _ z=>nomatch z) (fun _ z=>nomatch z)
    exact⟨e3,aK (by simp),CWd.next hi ⟨aj,rfl,(kk.trans k3.swap).setL hD,w3.swap.setL e3 nL nL2,P0,T0,e0,P,T,e,rfl,ge0,ge3,(pw0.kd w' k3.swap).setL e3,pw3.setL e3⟩⟩
   |i+2,hi,_=>omega
  ·obtain⟨e1,l1,kk,w',P0,T0,e0,P3,T3,e3,ey,g0,g3,p0,p3⟩:=hh
   subst ey
   rw[ge]at g0;cases g0
   rw[ge2]at g3;cases g3
   refine ixL (j:=0) e1 rfl rfl (ixL (j:=1) e1 rfl rfl ⟨aG (show 4≤1000000 by decide),fun t ht=>?_⟩)
   have S:=au.upd (o:=.tup [.str "lie",.int (lo:Int),.ref P0,.ref P3]) ht
   have ht1:upd H2 t (.tup [.str "lie",.int (lo:Int),.ref P0,.ref P3]) t=some (.tup [.str "lie",.int (lo:Int),.ref P0,.ref P3]):=aj
   generalize upd H2 t (.tup [.str "lie",.int (lo:Int),.ref P0,.ref P3])=H3 at S ht1
   obtain⟨y1,y2⟩:=xK (p:=lo) (w.en e (Ga ge)).1 (w.swap.en e2 (Ga ge2)).1 (jp (c:=c) (p:=lo) w) (jp (c:=d) (p:=lo) w.swap)
   have hR3:=S _ _ (w.keep kk hR (fun _ z=>nomatch z) (fun _ z=>nomatch z))
   refine .inr (.inl ⟨_,_,pB hR3 ((pw.kd w kk).same S) ((pw2.kd w kk).same S),pB ht1 (p0.same S) (p3.same S),y1,y1,y2,?_⟩)
   rw[KH _ y1]
   exact q _ (kk.trans (KD.same S)) (w'.same S (by omega))
 ·subst ee
  have hR:H R=some (.tup [.str "dark"]):=by
   rcases sh with⟨_,hR⟩|⟨P,T,P2,T2,e',e2',g1,g2,ne',_⟩
   ·exact hR
   ·rw[ge]at g1;cases g1
    rw[ge2]at g2;cases g2
    exact absurd rfl ne'
  refine⟨f,b,W,C,h,n,r,s,c,d,lo,rfl,x,w,lc,ld,by omega,fun L2 ps2 ts2 H1 k1 w1 hL2 pk2 lt2=>?_⟩
  have hL1:=w.keep k1 hL (fun _ z=>nomatch z) (fun _ z=>nomatch z)
  have lp:=cT pk
  have lp2:=cT pk2
  refine .inl ⟨L,L2,_,_,rfl,rfl,hL1,hL2,?_,fun p hp=>?_⟩
  ·rw[FH,FH];exact aG (by omega)
  have S:au H1 (upd H1 p (.lst (ps.map V.ref++ps2.map V.ref))):=au.upd hp
  have hp2:upd H1 p (.lst (ps.map V.ref++ps2.map V.ref)) p=some (.lst ((ps++ps2).map V.ref)):=by rw[aj,Gb]
  generalize upd H1 p (.lst (ps.map V.ref++ps2.map V.ref))=H2 at S hp2
  have w2:=w1.same S (gV _)
  have kk:KD b r s H H2:=k1.trans (KD.same S)
  have pk3:PK H2 (ps++ps2) (ts++ts2):=dF ((pk.kd w k1).same S) (PK.same pk2 S)
  have hR2:=w.keep kk hR (fun _ z=>nomatch z) (fun _ z=>nomatch z)
  refine⟨aG (show 1≤1000000 by decide),fun t ht=>?_⟩
  have S3:=au.upd (o:=.tup [.str "dark"]) ht
  have ht1:upd H2 t (.tup [.str "dark"]) t=some (.tup (([.inr "dark"]:List Key).map kV)):=aj
  generalize upd H2 t (.tup [.str "dark"])=H3 at S3 ht1
  refine gw (k:=[.inr "dark"]) (l:=[.inr "dark"]) (S3 _ _ hR2) ht1 ?_
  rw[decide_eq_true rfl]
  have w3:=w2.same S3 (gV _)
  have hl3:=S3 _ _ hp2
  have pk4:=pk3.same S3
  refine Sel.t ?_
  refine⟨f,b,p,ps++ps2,ts++ts2,gW h,0,rfl,w3.st,hl3,pk4,by rw[pv];omega,by omega,fun v H4 g4 rr kb4 s4 sub4 rd due=>?_⟩
  have eg:=cN sub4
  subst eg
  have nc:=pN ge ge2 (fun z=>by
   obtain⟨a,⟨b1,b2⟩,⟨d1,d2⟩⟩:=o z
   have inc:∀t∈ts,t∈ts++ts2:=fun t m=>Gs.mpr (.inl m)
   exact⟨a,⟨inc _ b1,b2.mono inc⟩,⟨inc _ d1,d2.mono inc⟩⟩) ne
  have w4:=w3.call kb4 s4 sub4
  cases rr with
  |none=>
   refine absurd (fun a ha b hb hab=>?_) nc
   obtain⟨i,hi⟩:=Mf ha
   obtain⟨j,hj⟩:=Mf hb
   rcases MV i j with g|g|g
   ·exact due h eR i j a b g hi hj hab
   ·subst g;rw[hi]at hj;exact FY hj
   ·exact(due h eR j i b a g hj hi hab.symm).symm
  |some rr=>
   obtain⟨j,k,_,hj,hk,nn,hh,_⟩:=due h eR
   refine⟨f,b,p,ps++ps2,ts++ts2,rr,v,gW h,0,rfl,w4.st,?_,?_,by rw[pv];omega,by omega,rd,Ga hj,Ga hk,nn,fun h' eh=>by rw[la eh];exact hh,fun H5 g5 kb5 s5 sub5=>?_⟩
   ·exact w3.keep (KD.kb kb4) hl3 (fun _ z=>nomatch z) (fun _ z=>nomatch z)
   ·exact pk4.kd w3 (KD.kb kb4)
   ·exact q H5 (kk.trans ((KD.same S3).trans ((KD.kb kb4).trans (KD.kb kb5)))) ((w4.call kb5 s5 sub5).up (by omega))
theorem iQ.kd {H H':Hp}{f b W C:Addr}{h:List Key→Key}{n c d:Nat}{r s:Rw}(x:iQ H W C r s c d)(w:Duo A H f b h n r s)(k:KD b r s H H'):iQ H' W C r s c d:=⟨w.keep k x.hR (fun _ z=>nomatch z) (fun _ z=>nomatch z),w.keep k x.hC (fun _ z=>nomatch z) (fun _ z=>nomatch z),x.c2,x.d2⟩
theorem Shw.kd {H H':Hp}{f b R:Addr}{h:List Key→Key}{n c d p:Nat}{r s:Rw}(x:Shw H h r s c d p R)(w:Duo A H f b h n r s)(k:KD b r s H H'):Shw H' h r s c d p R:=by
 rcases x with⟨e,hR⟩|⟨P,T,P2,T2,e',e2',g1,g2,ne',hR,pw,pw2⟩
 ·exact .inl ⟨e,w.keep k hR (fun _ z=>nomatch z) (fun _ z=>nomatch z)⟩
 ·exact .inr ⟨P,T,P2,T2,e',e2',g1,g2,ne',w.keep k hR (fun _ z=>nomatch z) (fun _ z=>nomatch z),pw.kd w k,pw2.kd w k⟩
theorem Ax (K:pz)(A:Adr):Ln (mK K A) 5:=by rintro vs H Q E ⟨f,b,R,B,E,F,W,C,h,n,r,s,c,d,rfl,_⟩;rfl
theorem Cm (T:Txt K mg A):Rd (mK K A) (EX K A) ["_law_stamper","_law_found","_law_books_here","_law_rows","_law_counts","_law_low","_law_high","_law_terms","_law_middle","_law_papers"]:=by
 intro vs H Q E h
 obtain⟨f,b,R,B,EE,F,W,C,h,n,r,s,c,d,rfl,x,w,c1,d1,c14,hn,tk,hB,hE,hF,q⟩:=h
 have c2:=x.c2
 have d2:=x.d2
 have l60:=w.le
 have s60:=w.swap.le
 have kp:∀{H':Hp}{z:Addr}{xs:List V},KD b r s H H'→H z=some (.lst xs)→H' z=some (.lst xs):=fun kk e=>w.keep kk e (fun _ z=>nomatch z) (fun _ z=>nomatch z)
 refine ixL (j:=0) x.hC rfl rfl (ixL (j:=1) x.hC rfl rfl ?_)
 have em:(if (d:Int)<c then(d:Int)else c)=((min c d:Nat):Int):=by split<;>omega
 dsimp only[ak,lm]
 rw[em]
 have kc:min c d≤c:=KW _ _
 have kd:min c d≤d:=KG _ _
 have k1:1≤min c d:=by omega
 generalize hk:min c d=k at*
 refine ixL (j:=0) hB rfl rfl ⟨f,b,EE,h,r.es,k,rfl,hE,w.en,l60,by omega,fun n=>w.st,fun H1 b1 st1=>?_⟩
 have w1:=w.call b1 (st1 0) Sub.rfl'
 have kk1:KD b r s H H1:=KD.kb b1
 refine ixL (j:=1) (kp kk1 hB) rfl rfl ⟨f,b,F,h,s.es,k,rfl,kp kk1 hF,w.swap.en,s60,by omega,fun n=>w1.st,fun H2 b2 st2=>?_⟩
 have w2:=w1.call b2 (st2 0) Sub.rfl'
 have kk2:KD b r s H H2:=kk1.trans (KD.kb b2)
 refine fc (Sel.dec (fun ee=>?_) (fun ee=>?_))
 ·have hR:H R=some (.tup [.str "one"]):=by
   rcases tk with⟨_,hR⟩|⟨e,_⟩
   ·exact hR
   ·rw[hk]at e;exact absurd ee (of_decide_eq_false e)
  refine⟨aG (show 1≤1000000 by decide),fun t ht=>?_⟩
  have S3:=au.upd (o:=.tup [.str "one"]) ht
  have ht1:upd H2 t (.tup [.str "one"]) t=some (.tup (([.inr "one"]:List Key).map kV)):=aj
  generalize upd H2 t (.tup [.str "one"])=H3 at S3 ht1
  refine gw (k:=[.inr "one"]) (l:=[.inr "one"]) (S3 _ _ (w.keep kk2 hR (fun _ z=>nomatch z) (fun _ z=>nomatch z))) ht1 ?_
  rw[decide_eq_true rfl]
  exact q H3 (kk2.trans (KD.same S3)) (w2.same S3 (by omega))
 have sh:Shw H h r s c d (bsP h r s k) R:=by
  rcases tk with⟨e,_⟩|⟨_,sh⟩
  ·rw[hk]at e;exact absurd (of_decide_eq_true e) ee
  ·rw[hk]at sh;exact sh
 refine⟨f,b,W,C,h,n,r,s,c,d,k,rfl,x.kd w kk2,w2,by omega,fun L ps ts H3 k3 w3 hL pk l3 op=>?_⟩
 have kk3:=kk2.trans k3
 refine⟨fun m σ H'=>∃(lo hi:Nat)(L:Addr)(ps:List Addr)(ts:List (List Key))(x8:Option V),σ=[some (.ref f),some (.ref R),some (.ref B),some (.ref W),some (.ref C),some (.int (lo:Int)),some (.int (hi:Int)),some (.ref L),x8,none]∧m=hi- lo∧Bs h r s k lo hi∧KD b r s H H'∧Duo A H' f b h (n+400+400*(k- (hi- lo))) r s∧H' L=some (.lst (ps.map V.ref))∧PK H' ps ts∧ts.length≤300+300*(k- (hi- lo))∧(0<lo→mkO h r.es lo=mkO h s.es lo∧Opn h ts r.es lo∧Opn h ts s.es lo)∧mkO h r.es hi≠mkO h s.es hi,
  ⟨_,0,k,L,ps,ts,none,rfl,rfl,Bs.init k1,kk3,w3.up (by omega),hL,pk,by omega,fun z=>absurd z (GP _),ee⟩,?_⟩
 rintro m σ H' ⟨lo,hi,L,ps,ts,x8,rfl,rfl,bs,kk,w',hL,pk,lt,o,ne⟩
 have b1:=bs.lt
 have b2:=bs.le
 refine cq (Sel.dec (fun g=>?_) (fun g=>?_))
 ·have g:((hi:Int)- lo)>1:=g
  have g':1<hi- lo:=by omega
  refine⟨fun σ H'=>∃j,j<hi- lo∧∃(lo hi:Nat)(L:Addr)(ps:List Addr)(ts:List (List Key))(x8:Option V),σ=[some (.ref f),some (.ref R),some (.ref B),some (.ref W),some (.ref C),some (.int (lo:Int)),some (.int (hi:Int)),some (.ref L),x8,none]∧j=hi- lo∧Bs h r s k lo hi∧KD b r s H H'∧Duo A H' f b h (n+400+400*(k- (hi- lo))) r s∧H' L=some (.lst (ps.map V.ref))∧PK H' ps ts∧ts.length≤300+300*(k- (hi- lo))∧(0<lo→mkO h r.es lo=mkO h s.es lo∧Opn h ts r.es lo∧Opn h ts s.es lo)∧mkO h r.es hi≠mkO h s.es hi,fun σ' H' hh=>hh,?_⟩
  have em:((lo:Int)+hi)/2=(((lo+hi)/2:Nat):Int):=by omega
  refine⟨⟨by decide,by decide⟩,?_⟩
  rw[em]
  have m1:lo<(lo+hi)/2:=by omega
  have m2:(lo+hi)/2<hi:=by omega
  generalize hmid:(lo+hi)/2=mid at*
  refine⟨f,b,W,C,h,_,r,s,c,d,mid,rfl,x.kd w kk,w',by omega,fun L2 ps2 ts2 H4 k4 w4 hL2 pk2 l4 op4=>?_⟩
  have hL4:=w'.keep k4 hL (fun _ z=>nomatch z) (fun _ z=>nomatch z)
  have lp:=cT pk
  have lp2:=cT pk2
  refine .inl ⟨L,L2,_,_,rfl,rfl,hL4,hL2,?_,fun p hp=>?_⟩
  ·rw[FH,FH];exact aG (by omega)
  have S:au H4 (upd H4 p (.lst (ps.map V.ref++ps2.map V.ref))):=au.upd hp
  have hp2:upd H4 p (.lst (ps.map V.ref++ps2.map V.ref)) p=some (.lst ((ps++ps2).map V.ref)):=by rw[aj,Gb]
  generalize upd H4 p (.lst (ps.map V.ref++ps2.map V.ref))=H5 at S hp2
  have w5:=w4.same S (gV _)
  have kk5:KD b r s H H5:=kk.trans (k4.trans (KD.same S))
  have pk5:PK H5 (ps++ps2) (ts++ts2):=dF ((pk.kd w' k4).same S) (PK.same pk2 S)
  refine ixL (j:=0) (kp kk5 hB) rfl rfl ⟨f,b,EE,h,r.es,mid,rfl,kp kk5 hE,w.en,l60,by omega,fun n=>w5.st,fun H6 b6 st6=>?_⟩
  have w6:=w5.call b6 (st6 0) Sub.rfl'
  have kk6:KD b r s H H6:=kk5.trans (KD.kb b6)
  refine ixL (j:=1) (kp kk6 hB) rfl rfl ⟨f,b,F,h,s.es,mid,rfl,kp kk6 hF,w.swap.en,s60,by omega,fun n=>w6.st,fun H7 b7 st7=>?_⟩
  have w7:=w6.call b7 (st7 0) Sub.rfl'
  have kk7:KD b r s H H7:=kk6.trans (KD.kb b7)
  have k57:KD b r s H5 H7:=(KD.kb b6).trans (KD.kb b7)
  have hp7:=w5.keep k57 hp2 (fun _ z=>nomatch z) (fun _ z=>nomatch z)
  have pk7:=pk5.kd w5 k57
  have ll:(ts++ts2).length=ts.length+ts2.length:=pv
  have op5:=op4 (by omega) (by omega) (by omega)
  have i1:∀t∈ts,t∈ts++ts2:=fun t m=>Gs.mpr (.inl m)
  have i2:∀t∈ts2,t∈ts++ts2:=fun t m=>Gs.mpr (.inr m)
  refine fc (Sel.dec (fun e7=>?_) (fun e7=>?_))
  ·refine⟨hi- mid,by omega,mid,hi,p,_,_,_,rfl,rfl,?_,kk7,w7.up (by omega),hp7,pk7,by omega,fun _=>⟨e7,⟨i2 _ op5.1.1,op5.1.2.mono i2⟩,⟨i2 _ op5.2.1,op5.2.2.mono i2⟩⟩,ne⟩
   rw[←hmid];exact bs.yes g' (by rw[hmid];exact decide_eq_true e7)
  ·refine⟨mid- lo,by omega,lo,mid,p,_,_,_,rfl,rfl,?_,kk7,w7.up (by omega),hp7,pk7,by omega,fun z=>?_,e7⟩
   ·rw[←hmid];exact bs.no g' (by rw[hmid];exact decide_eq_false e7)
   ·obtain⟨a,⟨a1,a2⟩,⟨a3,a4⟩⟩:=o z
    exact⟨a,⟨i1 _ a1,a2.mono i1⟩,⟨i1 _ a3,a4.mono i1⟩⟩
 ·have g:¬((hi:Int)- lo)>1:=g
  obtain⟨e1,e2⟩:=bs.done (by omega)
  subst e2
  rw[e1]at sh
  refine zb (x.kd w kk) w' (by omega) (sh.kd w kk) (kp kk hB) (kp kk hE) (kp kk hF) (by omega) (by omega) hL pk (by omega) o ne fun H4 k4 w4=>?_
  exact q H4 (kk.trans k4) (w4.up (by omega))
theorem mZ {h:List Key→Key}{r s:Rw}:eqM h s r=eqM h r s:=funext fun k=>by
 unfold eqM
 by_cases e:mkO h r.es k=mkO h s.es k
 ·rw[decide_eq_true e,decide_eq_true e.symm]
 ·rw[decide_eq_false e,decide_eq_false fun z=>e z.symm]
theorem tu {h:List Key→Key}{r s:Rw}{k:Nat}:bsP h s r k=bsP h r s k:=by unfold bsP;rw[mZ]
theorem we {H:Hp}{R R2:Addr}{xs ys xt yt:List V}{k2:List Key}{ds:List Ld}{Q:VK}{x0 x1 x2 x3 x4 x5 x6 x7 x8:Option V}(hR:H R=some (.tup xs))(hR2:H R2=some (.tup ys))(ex:eA xs none (some 2)=k2.map kV)(ey:eA ys none (some 2)=k2.map kV)(ext:eA xs (some 2) none=xt)(eyt:eA ys (some 2) none=yt)
  (dx:∀H',au H H'→DatVs K H' xt.reverse ds)(dy:∀H',au H H'→DatVs K H' yt ds)(lay:(NC ds).canLay0=true)(dp:(NC ds).depth≤150)(q:∀H',Q (.bl true) H'):
  jh K A {nx:=fun _ H'=>Q .non H',rt:=Q} [x0,x1,x2,x3,x4,x5,x6,x7,x8,some (.ref R),some (.ref R2)] H:=by
 refine⟨2,rfl,.inl (.inr ⟨R2,ys,rfl,hR2,fun p1 H1 S1 h1=>⟨2,rfl,.inl (.inr ⟨R,xs,rfl,S1 _ _ hR,fun p2 H2 S2 h2=>?_⟩)⟩⟩)⟩
 rw[ey]at h1
 rw[ex]at h2
 refine gw (S2 _ _ h1) h2 ?_
 rw[decide_eq_true rfl]
 have S:=S1.trans S2
 refine Sel.t ?_
 refine⟨2,rfl,.inl (.inr ⟨R2,ys,rfl,S _ _ hR2,fun p3 H3 S3 h3=>⟨p3,_,rfl,.inr (SqT.of h3),fun l1 hl1=>?_⟩⟩)⟩
 rw[eyt]
 have S4:=au.upd (o:=.lst yt) hl1
 have hl4:upd H3 l1 (.lst yt) l1=some (.lst yt):=aj
 generalize upd H3 l1 (.lst yt)=H4 at S4 hl4
 have T4:=S.trans (S3.trans S4)
 refine⟨2,rfl,.inl (.inr ⟨R,xs,rfl,T4 _ _ hR,fun p5 H5 S5 h5=>⟨p5,_,rfl,SqT.of h5,fun l2 hl2=>?_⟩⟩)⟩
 rw[ext]
 have S6:=au.upd (o:=.lst xt.reverse) hl2
 have hl6:upd H5 l2 (.lst xt.reverse) l2=some (.lst xt.reverse):=aj
 generalize upd H5 l2 (.lst xt.reverse)=H6 at S6 hl6
 have T6:=T4.trans (S5.trans S6)
 refine .inr (.inl ⟨_,_,.lst (SqL.of (S6 _ _ (S5 _ _ hl4))) (dy H6 T6),.lst (SqL.of hl6) (dx H6 T6),lay,lay,dp,?_⟩)
 rw[KH _ lay]
 exact q _
theorem zp {H:Hp}{f b R R2:Addr}{h:List Key→Key}{n c d:Nat}{r s:Rw}{Q:VK}{x0 x1 x2 x3 x4 x5 x6 x7 x8:Option V}(w:Duo A H f b h n r s)(t1:TkR H h r s c d R)(t2:TkR H h s r d c R2)(q:∀H',Q (.bl true) H'):
  jh K A {nx:=fun _ H'=>Q .non H',rt:=Q} [x0,x1,x2,x3,x4,x5,x6,x7,x8,some (.ref R),some (.ref R2)] H:=by
 unfold TkR at t1 t2
 rw[Nat.min_comm d c,mZ,tu]at t2
 have nil:∀(z:Str),H R=some (.tup [.str z])→H R2=some (.tup [.str z])→jh K A {nx:=fun _ H'=>Q .non H',rt:=Q} [x0,x1,x2,x3,x4,x5,x6,x7,x8,some (.ref R),some (.ref R2)] H:=fun z a b=>
  we (k2:=[.inr z]) (ds:=[]) a b rfl rfl rfl rfl (fun _ _=>.nil) (fun _ _=>.nil) rfl (by simp[Ii,Gi]) q
 rcases t1 with⟨e1,h1⟩|⟨e1,h1⟩
 ·rcases t2 with⟨_,h2⟩|⟨e2,_⟩
  ·exact nil _ h1 h2
  ·rw[e1]at e2;cases e2
 ·rcases t2 with⟨e2,_⟩|⟨_,h2⟩
  ·rw[e1]at e2;cases e2
  ·generalize bsP h r s (min c d)=p at h1 h2
   rcases h1 with⟨q1,h1⟩|⟨P,T,P2,T2,e,e2,g1,g2,ne,hR,pw,pw2⟩
   ·rcases h2 with⟨_,h2⟩|⟨_,_,_,_,_,_,g1,g2,ne,_⟩
    ·exact nil _ h1 h2
    ·rw[q1,g1]at g2;exact absurd (FY g2) ne
   ·rcases h2 with⟨q2,_⟩|⟨P3,T3,P4,T4,e3,e4,g3,g4,_,hR2,pw3,pw4⟩
    ·rw[g1,g2]at q2;exact absurd (FY q2).symm ne
    ·rw[g2]at g3;cases g3
     rw[g1]at g4;cases g4
     obtain⟨y1,y2⟩:=iY (w.en e (Ga g1)).1 (jp (c:=c) (p:=p) w)
     obtain⟨z1,z2⟩:=iY (w.swap.en e2 (Ga g2)).1 (jp (c:=d) (p:=p) w.swap)
     obtain⟨_,l2⟩:=df (jp (c:=c) (p:=p) w)
     obtain⟨_,m2⟩:=df (jp (c:=d) (p:=p) w.swap)
     have d1:(pyK e).depth≤1:=by cases e<;>simp[pyK,Ii]
     have d2:(pyK e2).depth≤1:=by cases e2<;>simp[pyK,Ii]
     refine we (k2:=[.inr "lie",.inl (p:Int)]) (ds:=[.tuple [pyK e2,.tuple ((wkO h s.es d p).map pyK)],.tuple [pyK e,.tuple ((wkO h r.es c p).map pyK)]]) hR hR2 rfl rfl rfl rfl (fun H' S=>.cons (fT (pw2.same S)) (.cons (fT (pw.same S)) .nil)) (fun H' S=>.cons (fT (pw3.same S)) (.cons (fT (pw4.same S)) .nil)) ?_ ?_ q
     ·show((GX [pyK e2,.tuple ((wkO h s.es d p).map pyK)]).canLay0&&((GX [pyK e,.tuple ((wkO h r.es c p).map pyK)]).canLay0&&true))=true
      rw[y1,z1];rfl
     ·simp only[Ii,Gi]
      omega
structure L9 (A:Adr)(H:Hp)(f b B E F W C Hh Lh:Addr)(h:List Key→Key)(r s:Rw)(c d:Nat):Prop where
 w:Duo A H f b h 0 r s
 x:iQ H W C r s c d
 hB:H B=some (.lst [.ref E,.ref F])
 hE:H E=some (.lst (r.es.map kV))
 hF:H F=some (.lst (s.es.map kV))
 hh:∃hr hs,H Hh=some (.lst [.ref hr,.ref hs])∧Hd H h hr r.es c∧Hd H h hs s.es d
 ll:∃lr ls,H Lh=some (.lst [.ref lr,.ref ls])∧Lnx A H f b h lr r.x∧Lnx A H f b h ls s.x
 l14:r.es.length≤14
 m14:s.es.length≤14
theorem DU {H:Hp}{f b B E F W C Hh Lh:Addr}{h:List Key→Key}{r s:Rw}{c d:Nat}{Q:VK}{x0 x1 x2:Option V}(y:L9 A H f b B E F W C Hh Lh h r s c d)(q:∀H',Q (.bl true) H'):
  sr K A {nx:=fun _ H'=>Q .non H',rt:=Q} [x0,x1,x2,some (.ref f),some (.ref B),some (.ref W),some (.ref C),some (.ref Hh),some (.ref Lh),none,none] H:=by
 obtain⟨w,x,hB,hE,hF,⟨hr,hs,h1,h2,h3⟩,⟨lr,ls,h4,h5,h6⟩,l14,m14⟩:=y
 have c1:=h2.c1
 have c2:=h2.c2
 have d1:=h3.c1
 have d2:=h3.c2
 refine ixL (j:=0) h1 rfl rfl (ixL (j:=1) h1 rfl rfl (ixL (j:=0) h4 rfl rfl (ixL (j:=1) h4 rfl rfl ?_)))
 refine⟨f,b,hr,hs,lr,ls,h,0,r,s,c,d,rfl,h2,h3,h5,h6,w,by omega,by omega,fun R H1 k1 w1 t1=>?_⟩
 have kp:∀{H':Hp}{z:Addr}{xs:List V},KD b r s H H'→H z=some (.lst xs)→H' z=some (.lst xs):=fun kk e=>w.keep kk e (fun _ z=>nomatch z) (fun _ z=>nomatch z)
 refine⟨f,b,R,B,E,F,W,C,h,_,r,s,c,d,rfl,x.kd w k1,w1,c1,d1,by omega,by omega,t1,kp k1 hB,kp k1 hE,kp k1 hF,fun H2 k2 w2=>Sel.no rfl ?_⟩
 have kk:=k1.trans k2
 refine ixL (j:=1) (kp kk h1) rfl rfl (ixL (j:=0) (kp kk h1) rfl rfl (ixL (j:=1) (kp kk h4) rfl rfl (ixL (j:=0) (kp kk h4) rfl rfl ?_)))
 refine⟨f,b,hs,hr,ls,lr,h,_,s,r,d,c,rfl,h3.kd w.swap kk.swap,h2.kd w kk,h6.kd w w2 kk,h5.kd w w2 kk,w2.swap,by omega,by omega,fun R2 H3 k3 w3 t2=>?_⟩
 have t1':TkR H3 h r s c d R:=by
  have k3':=k2.trans k3.swap
  rcases t1 with⟨a,e⟩|⟨a,e⟩
  ·exact .inl ⟨a,w1.keep k3' e (fun _ z=>nomatch z) (fun _ z=>nomatch z)⟩
  ·exact .inr ⟨a,e.kd w1 k3'⟩
 exact zp w3.swap t1' t2 q
section
variable {H H':Hp}{f b:Addr}{h:List Key→Key}{n:Nat}{r s:Rw}{g:GK}
theorem cB.kp {x L D:Addr}{es:List Key}(r:cB A H f b g n x L D es)(k:∀z o,H z=some o→(∀ps,o≠.tbl ps)→H' z=some o):cB A H' f b g n x L D es:=by
 obtain⟨kvs,⟨⟨dx,hx⟩,hl,hd,en,le⟩,st,cc,db,kl⟩:=r
 exact⟨kvs,⟨⟨dx,k _ _ hx (fun _ z=>nomatch z)⟩,k _ _ hl (fun _ z=>nomatch z),k _ _ hd (fun _ z=>nomatch z),en,le⟩,st.keepX fun z o e ho=>k z o e (fun ps ep=>by rcases ho with⟨_,q⟩|⟨_,q⟩<;>rw[ep]at q<;>cases q),cc,db,kl⟩
theorem Duo.kp (w:Duo A H f b h n r s)(k:∀z o,H z=some o→(∀ps,o≠.tbl ps)→H' z=some o):Duo A H' f b h n r s:=⟨w.rr.kp k,w.rs.kp k,w.ne⟩
theorem Lnx.kx {ln x:Addr}(l:Lnx A H f b h ln x)(k:∀z o,H z=some o→(∀ps,o≠.tbl ps)→(∀xs,o≠.lst xs)→H' z=some o):Lnx A H' f b h ln x:=by
 obtain⟨dx,fa,q,h1,h2,h3⟩:=l
 refine⟨dx,fa,q,k _ _ h1 (fun _ z=>nomatch z) (fun _ z=>nomatch z),h2.keep fun z φ e=>k _ _ e (fun _ z=>nomatch z) (fun _ z=>nomatch z),fun n=>(h3 n).keepX fun z o e ho=>?_⟩
 have nz:z∉[q]:=fun hm=>by rw[cz hm]at e;cases e
 rw[br nz]at e⊢
 exact k z o e (fun ps ep=>by rcases ho with⟨_,q⟩|⟨_,q⟩<;>rw[ep]at q<;>cases q) (fun ps ep=>by rcases ho with⟨_,q⟩|⟨_,q⟩<;>rw[ep]at q<;>cases q)
end
def LnI (A:Adr)(H:Hp)(f b:Addr)(h:List Key→Key)(r s:Rw):Nat→List V→Prop
 |0,ys=>ys=[]
 |1,ys=>∃l,ys=[.ref l]∧Lnx A H f b h l r.x
 |_,ys=>∃l m,ys=[.ref l,.ref m]∧Lnx A H f b h l r.x∧Lnx A H f b h m s.x
def HdI (H:Hp)(h:List Key→Key)(r s:Rw)(c d:Nat):Nat→List V→Prop
 |0,ys=>ys=[]
 |1,ys=>∃l,ys=[.ref l]∧Hd H h l r.es c
 |_,ys=>∃l m,ys=[.ref l,.ref m]∧Hd H h l r.es c∧Hd H h m s.es d
def CtI (r s:Rw):Nat→List V→Prop
 |0,ys=>ys=[]
 |1,ys=>∃c:Nat,ys=[.int (c:Int)]∧1≤c∧c≤r.es.length
 |_,ys=>∃c d:Nat,ys=[.int (c:Int),.int (d:Int)]∧1≤c∧c≤r.es.length∧1≤d∧d≤s.es.length
structure L6 (A:Adr)(H:Hp)(f b B E F W:Addr)(h:List Key→Key)(r s:Rw):Prop where
 w:Duo A H f b h 0 r s
 hW:H W=some (.lst [.ref r.x,.ref s.x])
 hB:H B=some (.lst [.ref E,.ref F])
 hE:H E=some (.lst (r.es.map kV))
 hF:H F=some (.lst (s.es.map kV))
 tb:fF A H
 l1:1≤r.es.length
 l14:r.es.length≤14
 m1:1≤s.es.length
 m14:s.es.length≤14
theorem iS {vs:List V}{H:Hp}{Q Q':VK}{E:XK}(h:fJ K A vs H Q E)(k:∀v H',Q v H'→Q' v H'):fJ K A vs H Q' E0:=by
 obtain⟨x,f,b,h,rfl,tb,st,q⟩:=h
 exact⟨x,f,b,h,rfl,tb,st,fun ln H' a b c=>k _ _ (q ln H' a b c)⟩
theorem lH {σ:L2.St}{x:Addr}{H:Hp}{Q:VK}(h0:σ[0]?=some (some (.ref x)))(h:fJ K A [.ref x] H Q E0):az (fJ K A) (fun _=>E0) (af (ae 0) ak) σ H Q:=by
 dsimp only[az,af,ae,ak]
 rw[h0];exact h
theorem Fu {H:Hp}{f b B E F W C Hh:Addr}{h:List Key→Key}{r s:Rw}{c d:Nat}{Q:VK}{x0 x1 x2:Option V}(y:L6 A H f b B E F W h r s)(hC:H C=some (.lst [.int (c:Int),.int (d:Int)]))(hh:∃hr hs,H Hh=some (.lst [.ref hr,.ref hs])∧Hd H h hr r.es c∧Hd H h hs s.es d)(q:∀H',Q (.bl true) H'):
  qZ K A {nx:=fun _ H'=>Q .non H',rt:=Q} [x0,x1,x2,some (.ref f),some (.ref B),some (.ref W),some (.ref C),some (.ref Hh),none,none,none] H:=by
 obtain⟨w,hW,hB,hE,hF,tb,l1,l14,m1,m14⟩:=y
 refine⟨W,rfl,.inl ⟨⟨_,SqL.of hW⟩,fun D hD=>?_⟩⟩
 have nT:D≠A.t_17:=by
  obtain⟨ps,hP,_⟩:=tb
  exact dY hP hD
 refine fe (cK.list (xs:=[.ref r.x,.ref s.x]) .non) (fun i ys H'=>H' D=some (.lst ys)∧(∀z o,H z=some o→(∀ps,o≠.tbl ps)→H' z=some o)∧fF A H'∧LnI A H' f b h r s i ys)
  (fun i ys H' _ hx=>SqL.of (hx.2.1 _ _ hW (fun _ z=>nomatch z))) ⟨aj,fun z o e _=>au.upd hD _ _ e,tb.keep fun z o e _=>au.upd hD _ _ e,rfl⟩ (fun i ys H2 hi hx=>?_) (fun ys H2 hx=>?_)
 ·obtain⟨e1,kl,tb2,li⟩:=hx
  have w2:=w.kp kl
  have go:∀(x:Addr)(Z:List V→Hp→Prop),(∀ln H5,Lnx A H5 f b h ln x→(∀z o,H2 z=some o→(∀ps,o≠.tbl ps)→(∀xs,o≠.lst xs)→H5 z=some o)→H5 D=some (.lst (ys++[.ref ln]))→(∀z o,H z=some o→(∀ps,o≠.tbl ps)→H5 z=some o)→fF A H5→Z (ys++[.ref ln]) H5)→
    fJ K A [.ref x] H2 (fun y H5=>H5 D=some (.lst ys)∧Z (ys++[y]) (upd H5 D (.lst (ys++[y])))) E0:=by
   intro x Z hz
   refine⟨x,f,b,h,rfl,tb2,fun n=>w2.st,fun ln H5 k5 tb5 l5=>?_⟩
   have e5:=k5 _ _ e1 nT
   obtain⟨ps2,hP2,_⟩:=id tb2
   refine⟨e5,hz ln _ (l5.kx fun z o e _ h2=>by rw[al (aL e e5 (h2 _))];exact e) (fun z o e h1 h2=>?_) aj (fun z o e h1=>?_) (tb5.keep fun z o e ho=>?_)⟩
   ·have:=k5 _ _ e (aL e hP2 (h1 _))
    rw[al (aL this e5 (h2 _))];exact this
   ·have e2:=kl z o e h1
    rw[al (aq e hD)];exact k5 _ _ e2 (aL e2 hP2 (h1 _))
   ·rw[al (aL e e5 (fun z=>by rcases ho with⟨_,q⟩|⟨_,q⟩<;>rw[z]at q<;>cases q))];exact e
  match i,hi,li with
  |0,hi,li=>
   have li:ys=[]:=li
   subst li
   refine fz (lH (x:=r.x) rfl ?_)
   refine iS (go r.x (fun zs H5=>∃l,zs=[.ref l]∧Lnx A H5 f b h l r.x∧H5 D=some (.lst zs)∧(∀z o,H z=some o→(∀ps,o≠.tbl ps)→H5 z=some o)∧fF A H5) fun ln H5 a1 a2 a3 a4 a5=>⟨ln,rfl,a1,a3,a4,a5⟩) fun v H5 ⟨e5,l,ez,a1,a3,a4,a5⟩=>?_
   exact⟨e5,aK (by simp),CWd.next hi ⟨aj,a4,a5,l,ez,a1⟩⟩
  |1,hi,li=>
   obtain⟨l0,ey,ln0⟩:=li
   subst ey
   refine fz (lH (x:=s.x) rfl ?_)
   refine iS (go s.x (fun zs H5=>∃l,zs=[.ref l0,.ref l]∧Lnx A H5 f b h l0 r.x∧Lnx A H5 f b h l s.x∧H5 D=some (.lst zs)∧(∀z o,H z=some o→(∀ps,o≠.tbl ps)→H5 z=some o)∧fF A H5) fun ln H5 a1 a2 a3 a4 a5=>⟨ln,rfl,ln0.kx a2,a1,a3,a4,a5⟩) fun v H5 ⟨e5,l,ez,a0,a1,a3,a4,a5⟩=>?_
   exact⟨e5,aK (by simp),CWd.next hi ⟨aj,a4,a5,l0,l,ez,a0,a1⟩⟩
  |i+2,hi,_=>exact absurd hi (by show ¬_<2;omega)
 ·obtain⟨e1,kl,tb2,l,m,ey,a0,a1⟩:=hx
  subst ey
  obtain⟨hr,hs,b1,b2,b3⟩:=hh
  refine DU ⟨w.kp kl,⟨kl _ _ hW (fun _ z=>nomatch z),kl _ _ hC (fun _ z=>nomatch z),b2.c2,b3.c2⟩,kl _ _ hB (fun _ z=>nomatch z),kl _ _ hE (fun _ z=>nomatch z),kl _ _ hF (fun _ z=>nomatch z),⟨hr,hs,kl _ _ b1 (fun _ z=>nomatch z),⟨kl _ _ b2.w (fun _ z=>nomatch z),b2.c1,b2.c2⟩,⟨kl _ _ b3.w (fun _ z=>nomatch z),b3.c1,b3.c2⟩⟩,⟨l,m,e1,a0,a1⟩,l14,m14⟩ q
theorem lP {H:Hp}{f b B C E:Addr}{h:List Key→Key}{r s:Rw}{c j:Nat}{bx cx:List V}{Q:VK}(w:Duo A H f b h 0 r s)(hB:H B=some (.lst bx))(hC:H C=some (.lst cx))(bj:bx[j]?=some (.ref E))(cj:cx[j]?=some (.int (c:Int)))(hE:H E=some (.lst (r.es.map kV)))(c1:1≤c)(c2:c≤r.es.length)
  (q:∀(t:Addr)(H':Hp),KD b r s H H'→Duo A H' f b h 0 r s→Hd H' h t r.es c→Q (.ref t) H'):
  bc (af (tOp (aA K) (ae 3) (ae 0)) (af (az (fH K A) (fun _=>E0) (af (ae 1) (af (tOp (aA K) (ae 2) (ae 0)) (af (tOp (aA K) (ae 3) (ae 0)) (ak))))) (ak))) [some (.int (j:Int)),some (.ref f),some (.ref B),some (.ref C)] H Q:=by
 refine ixL (j:=j) hC rfl cj (ixL (j:=j) hB rfl bj (ixL (j:=j) hC rfl cj ?_))
 refine⟨f,b,E,h,r.es,c,rfl,hE,w.en,w.le,c2,fun n=>w.st,fun H1 kb st=>⟨aG (show 2≤1000000 by decide),fun t ht=>?_⟩⟩
 have S:=au.upd (o:=.tup [.int (c:Int),kV (mkO h r.es c)]) ht
 exact q t _ ((KD.kb kb).trans (KD.same S)) ((w.call kb (st 0) Sub.rfl').same S (gV _)) ⟨aj,c1,c2⟩
theorem Hd.setL {H:Hp}{h:List Key→Key}{t D:Addr}{es:List Key}{c:Nat}{ys zs:List V}(x:Hd H h t es c)(hD:H D=some (.lst ys)):Hd (upd H D (.lst zs)) h t es c:=⟨by rw[al (aL x.w hD (fun z=>nomatch z))];exact x.w,x.c1,x.c2⟩
theorem Fv {H:Hp}{f b B E F W C:Addr}{h:List Key→Key}{r s:Rw}{c d:Nat}{Q:VK}{x0 x1 x2:Option V}(y:L6 A H f b B E F W h r s)(hC:H C=some (.lst [.int (c:Int),.int (d:Int)]))(c1:1≤c)(c2:c≤r.es.length)(d1:1≤d)(d2:d≤s.es.length)(q:∀H',Q (.bl true) H'):
  sD K A {nx:=fun _ H'=>Q .non H',rt:=Q} [x0,x1,x2,some (.ref f),some (.ref B),some (.ref W),some (.ref C),none,none,none,none] H:=by
 obtain⟨w,hW,hB,hE,hF,tb,l1,l14,m1,m14⟩:=y
 refine⟨2,rfl,by decide,by decide,fun D hD=>?_⟩
 have nL:=w.L1 hD
 have nL2:=w.swap.L1 hD
 have kp:∀{H':Hp}{z:Addr}{xs:List V},KD b r s H H'→H z=some (.lst xs)→H' z=some (.lst xs):=fun kk e=>w.keep kk e (fun _ z=>nomatch z) (fun _ z=>nomatch z)
 refine fe (cK.range (lo:=0) (n:=2)) (fun i ys H'=>H' D=some (.lst ys)∧KD b r s H H'∧Duo A H' f b h 0 r s∧HdI H' h r s c d i ys) (fun _ _ _ _ _=>trivial)
  ⟨aj,KD.same (au.upd hD),w.same (au.upd hD) (gV _),rfl⟩ (fun i ys H2 hi hx=>?_) (fun ys H2 hx=>?_)
 ·obtain⟨e1,kk,w2,hi2⟩:=hx
  match i,hi,hi2 with
  |0,hi,li=>
   have li:ys=[]:=li
   subst li
   refine fz (lP (j:=0) w2 (kp kk hB) (kp kk hC) rfl rfl (kp kk hE) c1 c2 fun t H3 k3 w3 x3=>?_)
   have e3:=w2.keep k3 e1 (fun _ z=>nomatch z) (fun _ z=>nomatch z)
   exact⟨e3,aK (by simp),CWd.next hi ⟨aj,(kk.trans k3).setL hD,w3.setL e3 nL nL2,t,rfl,x3.setL e3⟩⟩
  |1,hi,li=>
   obtain⟨t0,ey,x0⟩:=li
   subst ey
   refine fz (lP (j:=1) w2.swap (kp kk hB) (kp kk hC) rfl rfl (kp kk hF) d1 d2 fun t H3 k3 w3 x3=>?_)
   have e3:=w2.keep k3.swap e1 (fun _ z=>nomatch z) (fun _ z=>nomatch z)
   exact⟨e3,aK (by simp),CWd.next hi ⟨aj,(kk.trans k3.swap).setL hD,w3.swap.setL e3 nL nL2,t0,t,rfl,(x0.kd w2 k3.swap).setL e3,x3.setL e3⟩⟩
  |i+2,hi,_=>omega
 ·obtain⟨e1,kk,w2,hr,hs,ey,x1,x2⟩:=hx
  subst ey
  refine Fu ⟨w2,kp kk hW,kp kk hB,kp kk hE,kp kk hF,tb.keep fun z o e ho=>?_,l1,l14,m1,m14⟩ (kp kk hC) ⟨hr,hs,e1,x1,x2⟩ q
  exact w.keep kk e (fun y ey=>by rcases ho with⟨_,q⟩|⟨_,q⟩<;>rw[ey]at q<;>cases q) (fun y ey=>by rcases ho with⟨_,q⟩|⟨_,q⟩<;>rw[ey]at q<;>cases q)
theorem L6.same {H H':Hp}{f b B E F W:Addr}{h:List Key→Key}{r s:Rw}(y:L6 A H f b B E F W h r s)(S:au H H'):L6 A H' f b B E F W h r s:=⟨y.w.same S (gV _),S _ _ y.hW,S _ _ y.hB,S _ _ y.hE,S _ _ y.hF,y.tb.keep fun z o e _=>S _ _ e,y.l1,y.l14,y.m1,y.m14⟩
theorem jX {H:Hp}{a B E:Addr}{ns:List Int}{es:List Key}{j:Nat}{bx:List V}{Q:VK}(hs:SqL K H a (ns.map V.int))(hB:H B=some (.lst bx))(bj:bx[j]?=some (.ref E))(hE:H E=some (.lst (es.map kV)))(l1:1≤es.length)(q:∀c:Nat,1≤c→c≤es.length→Q (.int (c:Int)) H):
  tOp (bo K) (tC (.int 1)) (tOp (fg) (az (dU K A) (fun _=>E0) (af (ae 1) (af (tOp (bo K) (tC (.int 4)) (ae 0)) (ak)))) (tCB (bU K) (af (tOp (aA K) (ae 2) (ae 0)) (ak)))) [some (.int (j:Int)),some (.ref a),some (.ref B)] H Q:=by
 refine⟨a,ns,_,rfl,hs,by omega,fun z=>ixL (j:=j) hB rfl bj (.inl (.inl ⟨_,SqL.of hE,?_⟩))⟩
 rw[FH]
 refine⟨by omega,?_⟩
 have r0:=Ji z (b:=(es.length:Int)) (by omega)
 have r1:=IF z (b:=(es.length:Int)) (by omega)
 obtain⟨c,ec⟩:=Ic (show 0≤1+z%(es.length:Int)by omega)
 show Q (.int (1+z%(es.length:Int))) H
 rw[ec]
 exact q c (by omega) (by omega)
theorem EU {H:Hp}{a f b B E F W:Addr}{ns:List Int}{h:List Key→Key}{r s:Rw}{Q:VK}{x1 x2:Option V}(hs:SqL K H a (ns.map V.int))(y:L6 A H f b B E F W h r s)(q:∀H',Q (.bl true) H'):
  re K A {nx:=fun _ H'=>Q .non H',rt:=Q} [some (.ref a),x1,x2,some (.ref f),some (.ref B),some (.ref W),none,none,none,none,none] H:=by
 refine⟨2,rfl,by decide,by decide,fun D hD=>?_⟩
 refine fe (cK.range (lo:=0) (n:=2)) (fun i ys H'=>H' D=some (.lst ys)∧au H H'∧CtI r s i ys) (fun _ _ _ _ _=>trivial)
  ⟨aj,au.upd hD,rfl⟩ (fun i ys H2 hi hx=>?_) (fun ys H2 hx=>?_)
 ·obtain⟨e1,S,ci⟩:=hx
  have y2:=y.same S
  have hs2:=SqL.keep (fun o e=>S _ _ e) hs
  have S3:∀zs,au H (upd H2 D (.lst zs)):=fun zs z o e=>by rw[al (aq e hD)];exact S _ _ e
  match i,hi,ci with
  |0,hi,li=>
   have li:ys=[]:=li
   subst li
   refine fz (jX (j:=0) hs2 y2.hB rfl y2.hE y2.l1 fun c c1 c2=>?_)
   exact⟨e1,aK (by simp),CWd.next hi ⟨aj,S3 _,c,rfl,c1,c2⟩⟩
  |1,hi,li=>
   obtain⟨c,ey,c1,c2⟩:=li
   subst ey
   refine fz (jX (j:=1) hs2 y2.hB rfl y2.hF y2.m1 fun d d1 d2=>?_)
   exact⟨e1,aK (by simp),CWd.next hi ⟨aj,S3 _,c,d,rfl,c1,c2,d1,d2⟩⟩
  |i+2,hi,_=>omega
 ·obtain⟨e1,S,c,d,ey,c1,c2,d1,d2⟩:=hx
  subst ey
  exact Fv (y.same S) e1 c1 c2 d1 d2 q
def RwI (A:Adr)(H:Hp)(f:Addr)(es fs:List Key):Nat→List V→Prop
 |0,ys=>ys=[]
 |1,ys=>∃x L D dx,ys=[.ref x]∧cH A H x f L D es []∧H dx=some (.own x)
 |_,ys=>∃x L D dx y M F,ys=[.ref x,.ref y]∧cH A H x f L D es []∧H dx=some (.own x)∧cH A H y f M F fs []∧D≠F
theorem cH.setL {H:Hp}{x f L D M:Addr}{es:List Key}{kvs:List (List Key×Key)}{ys zs:List V}(r:cH A H x f L D es kvs)(hM:H M=some (.lst ys))(ne:L≠M):cH A (upd H M (.lst zs)) x f L D es kvs:=by
 obtain⟨⟨dx,hx⟩,hl,hd,en,le⟩:=r
 exact⟨⟨dx,by rw[al (aL hx hM (fun z=>nomatch z))];exact hx⟩,by rw[al ne];exact hl,by rw[al (aL hd hM (fun z=>nomatch z))];exact hd,en,le⟩
theorem oh {σ:L2.St}{f E:Addr}{H:Hp}{Q:VK}(h0:σ[0]?=some (some (.ref E)))(h1:σ[1]?=some (some (.ref f)))(h:iW K A [.ref f,.ref E] H Q E0):az (iW K A) (fun _=>E0) (af (ae 1) (af (ae 0) ak)) σ H Q:=by
 dsimp only[az,af,ae,ak]
 rw[h1]
 dsimp only
 rw[h0];exact h
theorem Fb {H:Hp}{a f q0 B E F:Addr}{ns:List Int}{m:Int}{es fs:List Key}{Q:VK}{x1 x2:Option V}(m1:1≤m)(m2:m≤10007)(clo:cQ H f eK [q0] [.int m])(hs:SqL K H a (ns.map V.int))(tb:fF A H)(hB:H B=some (.lst [.ref E,.ref F]))(hE:H E=some (.lst (es.map kV)))(hF:H F=some (.lst (fs.map kV)))
  (en:∀e∈es,enK e)(en2:∀e∈fs,enK e)(l1:1≤es.length)(l14:es.length≤14)(k1:1≤fs.length)(k14:fs.length≤14)(q:∀H',Q (.bl true) H'):
  sR K A {nx:=fun _ H'=>Q .non H',rt:=Q} [some (.ref a),x1,x2,some (.ref f),some (.ref B),none,none,none,none,none,none] H:=by
 refine⟨B,rfl,.inl ⟨⟨_,SqL.of hB⟩,fun W hW=>?_⟩⟩
 refine fe (cK.list (xs:=[.ref E,.ref F]) .non) (fun i ys H'=>H' W=some (.lst ys)∧au H H'∧RwI A H' f es fs i ys)
  (fun i ys H' _ hx=>SqL.of (hx.2.1 _ _ hB)) ⟨aj,au.upd hW,rfl⟩ (fun i ys H2 hi hx=>?_) (fun ys H2 hx=>?_)
 ·obtain⟨e1,S,ri⟩:=hx
  match i,hi,ri with
  |0,hi,li=>
   have li:ys=[]:=li
   subst li
   refine fz (oh (E:=E) (f:=f) rfl rfl ⟨f,E,es,rfl,S _ _ hE,en,by omega,fun x L D dx H3 S3 hL hD ho r3=>?_⟩)
   have e3:=S3 _ _ e1
   refine⟨e3,aK (by simp),CWd.next hi ⟨aj,fun z o e=>by rw[al (aq e hW)];exact S3 _ _ (S _ _ e),x,L,D,dx,rfl,r3.setL e3 (Gt (aq e1 hL)),by rw[al (aL ho e3 (fun z=>nomatch z))];exact ho⟩⟩
  |1,hi,li=>
   obtain⟨x,L,D,dx,ey,r,ho⟩:=li
   subst ey
   refine fz (oh (E:=F) (f:=f) rfl rfl ⟨f,F,fs,rfl,S _ _ hF,en2,by omega,fun y M G dy H3 S3 hM hG ho3 r3=>?_⟩)
   have e3:=S3 _ _ e1
   have nL:L≠W:=by
    intro z
    have:=r.hl
    rw[z,e1]at this
    have this:=(FY this)
    injection this with this
    have hlen:=congrArg KL this
    rw[FH]at hlen
    cases es with
    |nil=>simp at hlen
    |cons e bR=>injection this with t1 _;cases e<;>cases t1
   refine⟨e3,aK (by simp),CWd.next hi ⟨aj,fun z o e=>by rw[al (aq e hW)];exact S3 _ _ (S _ _ e),x,L,D,dx,y,M,G,rfl,(r.same S3).setL e3 nL,by rw[al (aL (S3 _ _ ho) e3 (fun z=>nomatch z))];exact S3 _ _ ho,r3.setL e3 (Gt (aq e1 hM)),aq r.hd hG⟩⟩
  |i+2,hi,_=>exact absurd hi (by show ¬_<2;omega)
 ·obtain⟨e1,S,x,L,D,dx,y,M,G,ey,r,ho,r2,ne⟩:=hx
  subst ey
  have st:∀n,Stp A H2 f dx (gW (jq m)) n:=fun n=>.wea q0 m m1 m2 (clo.keep fun z φ e=>S _ _ e) ⟨x,ho⟩ rfl
  exact EU (h:=jq m) (r:=⟨x,L,D,es⟩) (s:=⟨y,M,G,fs⟩) (SqL.keep (fun o e=>S _ _ e) hs) ⟨⟨r.toX (st 0) (aL r.hd ho (fun z=>nomatch z)),r2.toX (st 0) (aL r2.hd ho (fun z=>nomatch z)),ne⟩,e1,S _ _ hB,S _ _ hE,S _ _ hF,tb.keep fun z o e _=>S _ _ e,l1,l14,k1,k14⟩ q
theorem AK (K:pz)(A:Adr):Ln (mH K A) 1:=by rintro vs H Q E ⟨a,ns,rfl,_⟩;rfl
theorem CK (T:Txt K mg A):Rd (mH K A) (Fx K A) ["_law_script","_law_cell","_law_many","_law_stamper","_law_books_here","_law_rows","_law_counts","_law_heads","_law_lines","_law_found","_law_turned"]:=by
 intro vs H Q E h
 obtain⟨a,ns,rfl,hs,_,⟨t1,t2,nd⟩,q⟩:=h
 refine⟨a,ns,0,rfl,hs,by decide,fun z0=>⟨by decide,?_⟩⟩
 have bR:∀m:Int,1≤m→m≤10007→sH K A {nx:=fun _ H'=>Q .non H',rt:=Q} [some (.ref a),some (.int z0),some (.int m),none,none,none,none,none,none,none,none] H:=by
  intro m m1 m2
  refine⟨m,rfl,m1,m2,t1,fun f q0 H1 k1 clo=>?_⟩
  have tn:A.t_17≠A.t_24:=fun z=>by simp[z]at nd
  have hs1:SqL K H1 a (ns.map V.int):=by
   rcases hs with(h|⟨o,h⟩)|h
   ·exact .inl (.inl (k1 _ _ h (aL h t1 (fun z=>nomatch z))))
   ·exact .inl (.inr ⟨o,k1 _ _ h (aL h t1 (fun z=>nomatch z))⟩)
   ·exact .inr h
  refine⟨a,ns,rfl,hs1,fun B E F es fs H2 S2 hB hE hF en1 en2 l1 l14 k1' k14=>?_⟩
  exact Fb m1 m2 (clo.keep fun z φ e=>S2 _ _ e) (SqL.keep (fun o e=>S2 _ _ e) hs1) ⟨#[],S2 _ _ (k1 _ _ t2 tn),.inl rfl⟩ hB hE hF en1 en2 l1 l14 k1' k14 q
 refine⟨⟨by decide,by decide⟩,by decide,Sel.dec (fun _=>?_) (fun _=>?_)⟩
 ·exact bR 10007 (by decide) (by decide)
 ·exact bR _ (by omega) (by omega)
section
structure TP (P:Gd)(w:GH)(K:pz)(mg:Str→Option tx)(base:Heap)(A:Adr):Prop extends Txt K mg A where
 B:BM mg base
 C_24:Jx base A.k_24 A.t_24
 C_17:Jx base A.k_17 A.t_17
variable {P:Gd}{w:GH}{K:pz}{mg:Str→Option tx}{base:Heap}{A:Adr}(T:TP P w K mg base A)
include T
theorem Dp (f c:Addr)(cl:List (Str×Addr))(Ar:GC)(outer:List Env)(s:FI)(H:Hp)(E:XK)
  (hr:bn 0 (Ar.deeper (Kt eK.qual eK.scope s.heap.objs.size f (.ref c) cl))):PSs (je P w K mg base ["_law_term","_law_total","_law_part","_law_many"] eK.qual eK.scope f c cl Ar outer s H E).nox (bf tY) (Am K A):=QSs.out (
 am (aC 1 kg.nd (aW cg T.z_len Gv (ac (aa 0) (ai)))) (am (fq 2 kg.nd (dq (aa 0)) (ar (aZ (da (aW iJ T.z_isinstance Ia (ac (aa 2) (ac (iI T.z_str boot_str) (ai))))) (ar (aC 1 kg.nd (aQ bG (aQ qO (ao) (aa 1)) (aW cg T.z_len Gv (ac (aa 2) (ai)))))) (ar (aC 1 kg.nd (aQ bG (aQ qO (ao) (aa 1)) (aa 2)))))) GA) (ar (aF (aQ gY (aa 1) (aa 3))))))
theorem Bw:jo P w K mg base 1 eK (qQ K A):=
 Av rfl kg (fun f c cl Ar outer s H vs cvs Q E hr hl hc h=>by
  obtain⟨a0,rfl⟩:=L2.gn hl
  obtain⟨b0,rfl⟩:=L2.gn hc
  exact⟨_,(Dp T f c cl Ar outer s H E hr).nox,Cf T.1 a0 b0 H Q E h⟩)
theorem mW:aM P w K mg base (CX1 P w) 1 A.a_41 A.d_41 ["thing"] (gX K A):=
 T.f_41.f.okS Ct (yR K A) (BU T.1) fun _ _ _ _ _ _ hr=>
 ar (aF (cR (aW iJ T.z_isinstance Ia (ac (aa 0) (ac (iI T.z_int boot_int) (ai)))) (eN (Bj (aW iJ T.z_isinstance Ia (ac (aa 0) (ac (iI T.z_bool boot_bool) (ai))))))))
theorem pF:aM P w K mg base (CX1 P w) 2 A.a_35 A.d_35 ["thing"] (iX K A):=
 T.f_35.f.okS BO (yT K A) (Dn T.1) fun _ _ _ _ _ _ hr=>
 ar (aF (cR (aI (mW T) hr.le T.f_41 (ac (aa 0) (ai))) (eN (ji oLe oLt (ao) (aa 0) (aQ zc (ao) (ao))))))
theorem wv:aM P w K mg base (CX1 P w) 3 A.a_36 A.d_36 ["count","elder"] (ki K A):=
 T.f_36.f.okS Bk (Ak K A) (DE T.1) fun _ _ _ _ _ _ hr=>
 ar (aF (cR (aI (pF T) hr.le T.f_35 (ac (aa 0) (ai))) (cR (aI (mW T) hr.le T.f_41 (ac (aa 1) (ai))) (eN (ji oLe oLe (ao) (aa 1) (aa 0))))))
theorem yX:aM P w K mg base (CX1 P w) 1 A.a_7 A.d_7 ["self"] (nU K A):=
 T.f_7.okS FA (Cr K A) (Ek T.1) fun _ _ _ _ _ _ hr=>
 ar (aF (aW cg T.z_len Gv (ac (gp (aa 0)) (ai))))
theorem DY:aM P w K mg base (CX1 P w) 4 A.a_4 A.d_4 ["self","count","elder"] (pP K A):=
 T.f_4.okS EA (BV K A) (Fi T.1) fun _ _ _ _ _ _ hr=>
 ar (aF (cR (aI (wv T) hr.le T.f_36 (ac (aa 1) (ac (aa 2) (ai)))) (eN (fk oLe (aa 1) (nG (aa 0) T.cl_Row T.me_Row_size (yX T) hr.le T.b_7 aX)))))
theorem ku:aM P w K mg base (CX1 P w) 1 A.a_34 A.d_34 ["many"] (gq K A):=
 T.f_34.f.okS BR (yO K A) (CD T.1) fun _ _ _ _ _ _ hr=>
 ar (aF (aQ zc (ao) (aQ dv (mF PySem.F.plainAttrs_int PySem.F.slot_int_bit_length PySem.F.type_int_bit_length xB (aQ dv (aa 0) (ao))) (ao))))
theorem Ez (n:Nat)(G:aM P w K mg base (CX1 P w) (1+2*n) A.a_8 A.d_8 ["self","first","many"] (eM K A n)):aM P w K mg base (CX1 P w) (1+2*n+1) A.a_9 A.d_9 ["self","first","many"] (qA K A n):=
 T.f_9.okS zd (CM K A n) (Fq T.1 n) fun _ _ _ _ _ _ (hr:bn (1+2*n) _)=>
 am (aZ (aN (bP hr.units150) (aa 2) (ao)) (ar (aF (aV (ac (bC) (ai))))) (aU)) (am (aZ (aN (bP hr.units150) (aa 2) (ao)) (ar (aF (aV (ac (bC) (ac (aE (ay hr.units1) (gp (aa 0)) (aa 1) (fun _ _=>rfl)) (ai)))))) (aU)) (am (aC 3 zd.nd (aI (ku T) hr.le T.f_34 (ac (aa 2) (ai)))) (ar (aF (aV (ac (bC) (ac (bD (aa 0) T.cl_Row T.me_Row_top_of G hr.le T.b_8 aX (ac (aa 1) (ac (aa 3) (ai)))) (ac (bD (aa 0) T.cl_Row T.me_Row_top_of G hr.le T.b_8 aX (ac (aQ bG (aa 1) (aa 3)) (ac (aQ dv (aa 2) (aa 3)) (ai)))) (ai)))))))))
theorem cb:kK P w K mg base 1 (cr K A):=fun ts hts=>by
 simp only[cr,Gh,Ha,or_false]at hts
 rcases hts with rfl
 ·exact(Bw T).mono (by decide)
theorem lB:∀n:Nat,aM P w K mg base (CX1 P w) (1+2*n) A.a_8 A.d_8 ["self","first","many"] (eM K A n)
 |0=>⟨fun vs H Q E h=>(yW K A vs H Q E h).elim,fun _ _ _ H _ _ vs Q E _ _ _ _ h=>(yW K A vs H Q E h).elim⟩
 |n+1=>show aM P w K mg base (CX1 P w) (1+2*n+1+1) A.a_8 A.d_8 ["self","first","many"] (eM K A (n+1))from T.f_8.okS xU (AR K A (n+1)) (EQ T.1 n) fun _ _ _ _ _ _ (hr:bn (1+2*n+1) _)=>
 am (aC 3 xU.nd (aV (ac (aa 1) (ac (aa 2) (ai))))) (am (aZ (aN (lb hr.units150) (aa 3) (gp (aa 0))) (ar (vE hr.units1 (gp (aa 0)) (aa 3) (wZ (cb T) hr.le aX (aa 0) T.cl_Row T.na_Row_stamper (ac (bD (aa 0) T.cl_Row T.me_Row_top_term (Ez T n (lB n)) hr.le T.b_9 aX (ac (aa 1) (ac (aa 2) (ai)))) (ai))))) (aU)) (ar (aF (aE (ay hr.units1) (gp (aa 0)) (aa 3) (fun _ _=>rfl)))))
theorem tG:∀n:Nat,aM P w K mg base (CX1 P w) (141+n) A.a_2 A.d_2 ["self","first","many","elder"] (jL K A n)
 |0=>⟨fun vs H Q E h=>(yd K A vs H Q E h).elim,fun _ _ _ H _ _ vs Q E _ _ _ _ h=>(yd K A vs H Q E h).elim⟩
 |n+1=>T.f_2.okS zA (Bt K A (n+1)) (FE T.1 n) fun _ _ _ _ _ _ (hr:bn (141+n) _)=>
 am (aZ (x_w (jQ (aN (bP hr.units150) (aa 3) (ao)) (jP (aN (bP hr.units150) (aa 3) (aa 2))))) (ar (aF (aV (ac (bD (aa 0) T.cl_Row T.me_Row_top_of (lB T 70) hr.le T.b_8 aX (ac (aa 1) (ac (aa 2) (ai)))) (ai))))) (aU)) (am (aC 4 zA.nd (aI (ku T) hr.le T.f_34 (ac (aa 2) (ai)))) (am (aZ (aN oLe (aa 3) (aa 4)) (ar (aF (aQ bG (bD (aa 0) T.cl_Row T.me_Row_growth_marks (tG n) hr.le T.b_2 aX (ac (aa 1) (ac (aa 4) (ac (aa 3) (ai))))) (aV (ac (bD (aa 0) T.cl_Row T.me_Row_top_of (lB T 70) hr.le T.b_8 aX (ac (aQ bG (aa 1) (aa 4)) (ac (aQ dv (aa 2) (aa 4)) (ai)))) (ai)))))) (aU)) (ar (aF (aQ bG (aV (ac (bD (aa 0) T.cl_Row T.me_Row_top_of (lB T 70) hr.le T.b_8 aX (ac (aa 1) (ac (aa 4) (ai)))) (ai))) (bD (aa 0) T.cl_Row T.me_Row_growth_marks (tG n) hr.le T.b_2 aX (ac (aQ bG (aa 1) (aa 4)) (ac (aQ dv (aa 2) (aa 4)) (ac (aQ dv (aa 3) (aa 4)) (ai))))))))))
theorem yH:aM P w K mg base (CX1 P w) 212 A.a_3 A.d_3 ["self","count","elder"] (kX K A):=
 T.f_3.okS Ec (CH K A) (Fk T.1) fun _ _ _ _ _ _ hr=>
 am (aZ (dD (da (bD (aa 0) T.cl_Row T.me_Row_has_elder (DY T) hr.le T.b_4 aX (ac (aa 1) (ac (aa 2) (ai)))))) (ar (cV)) (aU)) (ar (aF (pQ (aN oGt (aa 1) (ao)) (bD (aa 0) T.cl_Row T.me_Row_growth_marks (tG T 70) hr.le T.b_2 aX (ac (ao) (ac (aa 1) (ac (aa 2) (ai))))) (aV (ai)))))
theorem wx:aM P w K mg base (CX1 P w) 3 A.a_38 A.d_38 ["count","place"] (kG K A):=
 T.f_38.f.okS Bg (xP K A) (AV T.1) fun _ _ _ _ _ _ hr=>
 ar (aF (cR (aI (pF T) hr.le T.f_35 (ac (aa 0) (ai))) (cR (aI (mW T) hr.le T.f_41 (ac (aa 1) (ai))) (eN (ji oLe oLt (ao) (aa 1) (aa 0))))))
theorem Eg:aM P w K mg base (CX1 P w) 4 A.a_5 A.d_5 ["self","count","place"] (qw K A):=
 T.f_5.okS EJ (Du K A) (DS T.1) fun _ _ _ _ _ _ hr=>
 ar (aF (cR (aI (wx T) hr.le T.f_38 (ac (aa 1) (ac (aa 2) (ai)))) (eN (fk oLe (aa 1) (nG (aa 0) T.cl_Row T.me_Row_size (yX T) hr.le T.b_7 aX)))))
theorem vU:aM P w K mg base (CX1 P w) 2 A.a_55 A.d_55 ["place","many"] (jM K A):=
 T.f_55.f.okS gk (zi K A) (CJ T.1) fun _ _ _ _ _ _ hr=>
 am (aC 2 gk.nd (cM (ai))) (am (aC 3 gk.nd (ao)) (am (aC 4 gk.nd (aa 1)) (am (fO (aN oGt (aa 4) (ao)) (am (aC 5 gk.nd (aI (ku T) hr.le T.f_34 (ac (aa 4) (ai)))) (ar (aZ (aN oLt (aa 0) (aQ bG (aa 3) (aa 5))) (am (bM (cZ FR FV FW bi (aa 2) (ac (ao) (ai)))) (ar (aC 4 gk.nd (aa 5)))) (am (bM (cZ FR FV FW bi (aa 2) (ac (ao) (ai)))) (am (aC 3 gk.nd (aQ bG (aa 3) (aa 5))) (ar (aC 4 gk.nd (aQ dv (aa 4) (aa 5))))))))) GA) (ar (aF (aa 2))))))
theorem ux:aM P w K mg base (CX1 P w) 142 A.a_6 A.d_6 ["self","count","place"] (iF K A):=
 T.f_6.okS il (BH K A) (EN T.1) fun _ _ _ _ _ _ hr=>
 am (aZ (dD (da (bD (aa 0) T.cl_Row T.me_Row_has_place (Eg T) hr.le T.b_5 aX (ac (aa 1) (ac (aa 2) (ai)))))) (ar (cV)) (aU)) (am (aC 3 il.nd (cM (ai))) (am (aC 4 il.nd (ao)) (am (aC 5 il.nd (aa 1)) (am (fq 6 il.nd (dq (aI (vU T) hr.le T.f_55 (ac (aa 2) (ac (aa 1) (ai))))) (am (aC 7 il.nd (aI (ku T) hr.le T.f_34 (ac (aa 5) (ai)))) (ar (aZ (aN (bP hr.units150) (aa 6) (ao)) (am (bM (cZ FR FV FW bi (aa 3) (ac (bD (aa 0) T.cl_Row T.me_Row_top_of (lB T 70) hr.le T.b_8 aX (ac (aQ bG (aa 4) (aa 7)) (ac (aQ dv (aa 5) (aa 7)) (ai)))) (ai)))) (ar (aC 5 il.nd (aa 7)))) (am (bM (cZ FR FV FW bi (aa 3) (ac (bD (aa 0) T.cl_Row T.me_Row_top_of (lB T 70) hr.le T.b_8 aX (ac (aa 4) (ac (aa 7) (ai)))) (ai)))) (am (aC 4 il.nd (aQ bG (aa 4) (aa 7))) (ar (aC 5 il.nd (aQ dv (aa 5) (aa 7))))))))) GA) (ar (aF (aV (ac (aE (ay hr.units1) (gp (aa 0)) (aa 2) (fun _ _=>rfl)) (ac (og yP T.z_tuple KU (ac (aa 3) (ai))) (ai))))))))))
theorem Dj (f c:Addr)(cl:List (Str×Addr))(Ar:GC)(outer:List Env)(s:FI)(H:Hp)(E:XK)
  (hr:bn 212 (Ar.deeper (Kt dw.qual dw.scope s.heap.objs.size f (.ref c) cl))):PSs (je P w K mg base ["_law_question","_law_row_here"] dw.qual dw.scope f c cl Ar outer s H E).nox (bf tL) (zE K A):=QSs.out (
 am (aZ (aN (bP hr.units150) (aE (ay hr.units1) (aa 0) (ao) (fun _ _=>rfl)) (bC)) (ar (aF (bD (aa 1) T.cl_Row T.me_Row_growth_paper (yH T) hr.le T.b_3 aX (ac (aE (ay hr.units1) (aa 0) (ao) (fun _ _=>rfl)) (ac (aE (ay hr.units1) (aa 0) (ao) (fun _ _=>rfl)) (ai)))))) (aU)) (ar (aF (bD (aa 1) T.cl_Row T.me_Row_place_paper (ux T) hr.le T.b_6 aX (ac (aE (ay hr.units1) (aa 0) (ao) (fun _ _=>rfl)) (ac (aE (ay hr.units1) (aa 0) (ao) (fun _ _=>rfl)) (ai)))))))
theorem CG:gI P w K mg base 213 dw (qe K A):=
 wI rfl CB (fun f c cl Ar outer s H vs cvs Q E hr hl hc h=>by
  obtain⟨a0,rfl⟩:=L2.gn hl
  obtain⟨b0,rfl⟩:=L2.gn hc
  exact⟨_,(Dj T f c cl Ar outer s H E hr).nox,AS T.1 a0 b0 H Q E h⟩)
theorem gT:aM P w K mg base (CX1 P w) 1 A.a_14 A.d_14 ["_law_script","_law_k"] (dU K A):=
 T.f_14.f.okS Bc (yN K A) (CQ T.1) fun _ _ _ _ _ _ hr=>
 am (aZ (aN oLt (aa 1) (aW cg T.z_len Gv (ac (aa 0) (ai)))) (ar (aF (aE (ay hr.units1) (aa 0) (aa 1) (fun _ _=>rfl)))) (aU)) (ar (aF (ao)))
theorem CZ (B:BM mg base)(C:Jx base A.k_24 A.t_24)(Ar:GC)(outer:List Env)(s:FI)(H:Hp)(E:XK)
  (hr:bn 0 (Ar.deeper (envOfC "_law_weak" (av jG) s.heap.objs.size A.a_24 (.ref A.k_24)))):QMs (fA (CX1 P w) P w K mg base ["_law_many","_law_stamp"] "_law_weak" (av jG) A.a_24 (.ref A.k_24) Ar outer s H E).nox (bf jG) (xX K A (s.heap.objs.size+1)):=(
 sv (rG (wn 1 vO.nd B C rfl (by rfl) (by simp<;>omega) rfl rfl rfl rfl (fun _ _ _ _ _ us hl=>by obtain⟨_,rfl⟩:=L2.gn hl;rfl))) (wk (wc (aa 1))))
theorem AM:aM P w K mg base (CX1 P w) 1 A.a_24 A.d_24 ["_law_many"] (mx K A):=
 T.f_24.f.okM (caps:=fun L=>[(0,L+1)]) T.kc_24 vO (zl K A) (fun L p hp=>by simp only[Gh,Ha,or_false]at hp;rcases hp with rfl<;>exact⟨_,rfl,rfl,rfl⟩) (fun L=>by simp) (fun Ar outer s H vs Q E hr h=>⟨_,QMs.nox (CZ T T.B T.C_24 Ar outer s H E hr),Bz T.1 (s.heap.objs.size+1) (by simp) vs H Q E h⟩)
theorem Cb:aM P w K mg base (CX1 P w) 2 A.a_13 A.d_13 ["_law_script"] (mo K A):=
 T.f_13.f.okS kq (Ad K A) (BZ T.1) fun _ _ _ _ _ _ hr=>
 am (aC 1 kq.nd (aQ bG (ao) (aQ gY (aI (gT T) hr.le T.f_14 (ac (aa 0) (ac (ao) (ai)))) (ao)))) (am (ft (ys:=["_law_script"]) 2 kq.nd (by exact⟨rfl,by decide+kernel,by decide+kernel,rfl,by decide+kernel,by decide+kernel⟩) (by exact .cons rfl (by first|exact .inl rfl|exact .inr rfl) rfl (.nil)) (ef T.z_range (ac (aa 1) (ai))) (fun C s H fp=>fw) (fun C s H fp=>(aQ gY (aI (gT T) hr.le T.f_14 (ac (aa 1) (ac (aQ bG (ao) (aa 0)) (ai)))) (ao)))) (am (aC 3 kq.nd (aQ gY (aI (gT T) hr.le T.f_14 (ac (aa 0) (ac (ao) (ai)))) (aQ bG (aa 1) (ao)))) (am (aC 4 kq.nd (aW (FD rfl) T.z_max boot_max (ac (aQ dv (ao) (aa 3)) (ac (aQ gY (aI (gT T) hr.le T.f_14 (ac (aa 0) (ac (ao) (ai)))) (aQ dv (ao) (aa 3))) (ai))))) (ar (aF (cM (ac (aa 2) (ac (aQ bG (fR gM (aa 2) (fU) (fS (aa 3))) (nV (ys:=["_law_script"]) (by exact⟨rfl,by decide+kernel,by decide+kernel,rfl,by decide+kernel,by decide+kernel⟩) (by exact .cons rfl (by first|exact .inl rfl|exact .inr rfl) rfl (.nil)) (ef T.z_range (ac (aa 4) (ai))) (fun C s H fp=>fw) (fun C s H fp=>(aQ gY (aI (gT T) hr.le T.f_14 (ac (aa 1) (ac (aQ bG (ao) (aa 0)) (ai)))) (ao))))) (ai)))))))))
theorem Fs:aM P w K mg base (CX1 P w) 1 A.a_0 A.d_0 ["self","stamper"] (qJ K A):=
 T.f_0.okS Ep (Dl K A) (Eb T.1) fun _ _ _ _ _ _ hr=>
 am (im (aa 0) (aa 1)) (am (im (aa 0) (cM (ai))) (ar (im (aa 0) (pq))))
theorem mV:aM P w K mg base (CX1 P w) 2 A.a_40 A.d_40 ["thing"] (gR K A):=
 T.f_40.f.okS BW (yo K A) (BD T.1) fun _ _ _ _ _ _ hr=>
 am (aZ (da (aI (mW T) hr.le T.f_41 (ac (aa 0) (ai)))) (ar (aF (ji oLe oLt (ao) (aa 0) (aQ EY (ao) (ao))))) (aU)) (ar (aF (aW iJ T.z_isinstance Ia (ac (aa 0) (ac (iI T.z_str boot_str) (ai))))))
theorem Fo:aM P w K mg base (CX1 P w) 3 A.a_1 A.d_1 ["self","entry"] (qT K A):=
 T.f_1.okS EC (Be K A) (El T.1) fun _ _ _ _ _ _ hr=>
 am (aZ (dD (da (aI (mV T) hr.le T.f_40 (ac (aa 1) (ai))))) (ar (cV)) (aU)) (am (bM (cZ FR FV FW bi (gp (aa 0)) (ac (aa 1) (ai)))) (ar (aF (aQ dv (aW cg T.z_len Gv (ac (gp (aa 0)) (ai))) (ao)))))
theorem BC:aM P w K mg base (CX1 P w) 4 A.a_22 A.d_22 ["_law_stamper","_law_entries"] (iW K A):=
 T.f_22.f.okS qi (yu K A) (CU T.1) fun _ _ _ _ _ _ hr=>
 am (aC 2 qi.nd (oS T.mk_Row (Fs T) hr.le T.mc_Row T.b_0 aX (ac (aa 0) (ai)))) (am (fq 3 qi.nd (dq (aa 1)) (ar (bM (bD (aa 2) T.cl_Row T.me_Row_add (Fo T) hr.le T.b_1 aX (ac (aa 3) (ai))))) GA) (ar (aF (aa 2))))
theorem Do:aM P w K mg base (CX1 P w) 2 A.a_23 A.d_23 ["_law_stamper","_law_entries"] (mq K A):=
 T.f_23.f.okS fL (yl K A) (CL T.1) fun _ _ _ _ _ _ hr=>
 am (aC 2 fL.nd (cM (ai))) (am (fq 3 fL.nd (dq (aa 1)) (am (aC 4 fL.nd (ao)) (am (aC 5 fL.nd (cm (cb T) hr.le aX (aa 0) (ac (aV (ac (bC) (ac (aa 3) (ai)))) (ai)))) (am (fO (x_w (xW (aN oGt (aW cg T.z_len Gv (ac (aa 2) (ai))) (ao)) (wV (aN (bP hr.units150) (aE (ay hr.units1) (aE (ay hr.units1) (aa 2) (fI (ao)) (fun _ _=>rfl)) (ao) (fun _ _=>rfl)) (aa 4))))) (am (aC 5 fL.nd (cm (cb T) hr.le aX (aa 0) (ac (aV (ac (bC) (ac (aE (ay hr.units1) (mF FR IU JD nJ (aa 2)) (ao) (fun _ _=>rfl)) (ac (aa 5) (ai))))) (ai)))) (ar (aC 4 fL.nd (aQ qO (ao) (aa 4))))) GA) (ar (bM (cZ FR FV FW bi (aa 2) (ac (aV (ac (aa 4) (ac (aa 5) (ai)))) (ai)))))))) GA) (am (aZ (aN (bP hr.units150) (aW cg T.z_len Gv (ac (aa 2) (ai))) (ao)) (ar (aF (cm (cb T) hr.le aX (aa 0) (ac (aV (ac (bC) (ai))) (ai))))) (aU)) (am (aC 5 fL.nd (aE (ay hr.units1) (mF FR IU JD nJ (aa 2)) (ao) (fun _ _=>rfl))) (am (fO (aN oGt (aW cg T.z_len Gv (ac (aa 2) (ai))) (ao)) (ar (aC 5 fL.nd (cm (cb T) hr.le aX (aa 0) (ac (aV (ac (bC) (ac (aE (ay hr.units1) (mF FR IU JD nJ (aa 2)) (ao) (fun _ _=>rfl)) (ac (aa 5) (ai))))) (ai))))) GA) (ar (aF (aa 5)))))))
theorem kz:aM P w K mg base (CX1 P w) 3 A.a_19 A.d_19 ["_law_stamper","_law_entries","_law_count"] (fH K A):=
 T.f_19.f.okS BI (yj K A) (Bf T.1) fun _ _ _ _ _ _ hr=>
 ar (aF (cm (cb T) hr.le aX (aa 0) (ac (aV (ac (bC) (ac (aa 2) (ac (aI (Do T) hr.le T.f_23 (ac (aa 0) (ac (fR gM (aa 1) (fU) (fS (aa 2))) (ai)))) (ai))))) (ai))))
theorem Dm:aM P w K mg base (CX1 P w) 1 A.a_10 A.d_10 ["self","say"] (mQ K A):=
 T.f_10.okS CT (Ao K A) (AN T.1) fun _ _ _ _ _ _ hr=>
 ar (im (aa 0) (aa 1))
theorem BE (B:BM mg base)(C:Jx base A.k_17 A.t_17)(Ar:GC)(outer:List Env)(s:FI)(H:Hp)(E:XK)
  (hr:bn 2 (Ar.deeper (envOfC "_law_line" (av jB) s.heap.objs.size A.a_17 (.ref A.k_17)))):QMs (fA (CX1 P w) P w K mg base ["_law_row_here","_law_say"] "_law_line" (av jB) A.a_17 (.ref A.k_17) Ar outer s H E).nox (bf jB) (Aw K A (s.heap.objs.size+1)):=(
 sv (rG (wn 1 vM.nd B C rfl (by rfl) (by simp<;>omega) rfl rfl rfl rfl (fun _ _ _ _ _ us hl=>by obtain⟨_,rfl⟩:=L2.gn hl;rfl))) (wk (wc (oS T.mk_Spoken (Dm T) hr.le T.mc_Spoken T.b_10 aX (ac (aa 1) (ai))))))
theorem Df:aM P w K mg base (CX1 P w) 3 A.a_17 A.d_17 ["_law_row_here"] (fJ K A):=
 T.f_17.f.okM (caps:=fun L=>[(0,L+1)]) T.kc_17 vM (zW K A) (fun L p hp=>by simp only[Gh,Ha,or_false]at hp;rcases hp with rfl<;>exact⟨_,rfl,rfl,rfl⟩) (fun L=>by simp) (fun Ar outer s H vs Q E hr h=>⟨_,QMs.nox (BE T T.B T.C_17 Ar outer s H E hr),Cs T.1 (s.heap.objs.size+1) (by simp) vs H Q E h⟩)
theorem qb:aM P w K mg base (CX1 P w) 2 A.a_54 A.d_54 ["stamper"] (jc K A):=
 T.f_54.f.okS CS (yC K A) (Dk T.1) fun _ _ _ _ _ _ hr=>
 ar (aF (cM (ac (aV (ac (bC) (ai))) (ac (aV (ac (bC) (ac (ao) (ac (cm (cb T) hr.le aX (aa 0) (ac (aV (ac (bC) (ai))) (ai))) (ai))))) (ai)))))
theorem Co:aM P w K mg base (CX1 P w) 3 A.a_45 A.d_45 ["stamper"] (mD K A):=
 T.f_45.f.okS Bv (zT K A) (AO T.1) fun _ _ _ _ _ _ hr=>
 ar (aF (aV (ac (ao) (ac (cm (cb T) hr.le aX (aa 0) (ac (aE (ay hr.units1) (aI (qb T) hr.le T.f_54 (ac (aa 0) (ai))) (fI (ao)) (fun _ _=>rfl)) (ai))) (ai)))))
theorem nj:mY P w K mg base 213 (kf K A):=fun ts hts=>by
 simp only[kf,Gh,Ha,or_false]at hts
 rcases hts with rfl
 ·exact(CG T).mono (by decide)
theorem Bl:aM P w K mg base (CX1 P w) 214 A.a_11 A.d_11 ["self","count","elder"] (mt K A):=
 T.f_11.okS Bu (yY K A) (AX T.1) fun _ _ _ _ _ _ hr=>
 ar (aF (nq (nj T) hr.le aX (aa 0) T.cl_Spoken T.na_Spoken_answerer (ac (aV (ac (bC) (ac (aa 1) (ac (aa 2) (ai))))) (ai))))
theorem CW:aM P w K mg base (CX1 P w) 3 A.a_37 A.d_37 ["thing"] (mO K A):=
 T.f_37.f.okS CA (An K A) (Dt T.1) fun _ _ _ _ _ _ hr=>
 ar (aF (cR (aW iJ T.z_isinstance Ia (ac (aa 0) (ac (iI T.z_tuple KU) (ai)))) (cR (fk (bP hr.units150) (aW cg T.z_len Gv (ac (aa 0) (ai))) (ao)) (cR (aI (pF T) hr.le T.f_35 (ac (aE (ay hr.units1) (aa 0) (ao) (fun _ _=>rfl)) (ai))) (eN (aI (mV T) hr.le T.f_40 (ac (aE (ay hr.units1) (aa 0) (ao) (fun _ _=>rfl)) (ai))))))))
theorem wm:aM P w K mg base (CX1 P w) 4 A.a_27 A.d_27 ["thing"] (ko K A):=
 T.f_27.f.okS DG (zP K A) (Cz T.1) fun _ _ _ _ _ _ hr=>
 ar (aZ (dD (da (aI (CW T) hr.le T.f_37 (ac (aa 0) (ai))))) (ar (cV)) (aU))
theorem CC:aM P w K mg base (CX1 P w) 2 A.a_33 A.d_33 ["count","elder"] (mL K A):=
 T.f_33.f.okS gu (zr K A) (AZ T.1) fun _ _ _ _ _ _ hr=>
 am (aC 2 gu.nd (cM (ai))) (am (aC 3 gu.nd (aa 1)) (am (aC 4 gu.nd (aa 0)) (am (fO (ng oLt oLt (ao) (aa 3) (aa 4)) (am (aC 5 gu.nd (aI (ku T) hr.le T.f_34 (ac (aa 4) (ai)))) (ar (aZ (aN oLe (aa 3) (aa 5)) (am (bM (cZ FR FV FW bi (aa 2) (ac (ao) (ai)))) (ar (aC 4 gu.nd (aa 5)))) (am (bM (cZ FR FV FW bi (aa 2) (ac (ao) (ai)))) (am (aC 3 gu.nd (aQ dv (aa 3) (aa 5))) (ar (aC 4 gu.nd (aQ dv (aa 4) (aa 5))))))))) GA) (ar (aF (aa 2))))))
theorem vK:aM P w K mg base (CX1 P w) 3 A.a_26 A.d_26 ["many","thing"] (jO K A):=
 T.f_26.f.okS Bq (AG K A) (Bo T.1) fun _ _ _ _ _ _ hr=>
 ar (aF (cR (aW iJ T.z_isinstance Ia (ac (aa 1) (ac (iI T.z_tuple KU) (ai)))) (cR (fk (bP hr.units150) (aW cg T.z_len Gv (ac (aa 1) (ai))) (aa 0)) (eN (aW (EW rfl) T.z_all L2.Ag (ac (nV (ys:=[]) (by exact⟨rfl,by decide+kernel,by decide+kernel,rfl,by decide+kernel,by decide+kernel⟩) (by exact .nil) (dq (aa 1)) (fun C s H fp=>fw) (fun C s H fp=>(aI (mV T) hr.le T.f_40 (ac (aa 0) (ai))))) (ai)))))))
theorem qP:aM P w K mg base (CX1 P w) 1 A.a_42 A.d_42 ["turn","own","aside"] (jn K A):=
 T.f_42.f.okS AY (Ae K A) (Dv T.1) fun _ _ _ _ _ _ hr=>
 ar (aF (pQ (aN (bP hr.units150) (aa 0) (ao)) (aV (ac (bC) (ac (aa 1) (ac (aa 2) (ai))))) (aV (ac (bC) (ac (aa 2) (ac (aa 1) (ai)))))))
theorem BJ:aM P w K mg base (CX1 P w) 2 A.a_30 A.d_30 ["stamper","count","elder","steps"] (mU K A):=
 T.f_30.f.okS gs (Aq K A) (Bp T.1) fun _ _ _ _ _ _ hr=>
 am (aC 4 gs.nd (cM (ai))) (am (aC 5 gs.nd (cM (ai))) (am (aC 6 gs.nd (aE (ay hr.units1) (aa 3) (ao) (fun _ _=>rfl))) (am (aC 7 gs.nd (aE (ay hr.units1) (aa 3) (ao) (fun _ _=>rfl))) (am (fq 8 gs.nd (dq (aE (ay hr.units1) (aa 3) (ao) (fun _ _=>rfl))) (am (bM (cZ FR FV FW bi (aa 4) (ac (aI (qP T) hr.le T.f_42 (ac (aE (ay hr.units1) (aa 8) (ao) (fun _ _=>rfl)) (ac (aa 6) (ac (aE (ay hr.units1) (aa 8) (ao) (fun _ _=>rfl)) (ai))))) (ai)))) (am (aC 6 gs.nd (cm (cb T) hr.le aX (aa 0) (ac (aE (ay hr.units1) (aa 4) (fI (ao)) (fun _ _=>rfl)) (ai)))) (ar (aZ (aN (bP hr.units150) (aE (ay hr.units1) (aa 8) (ao) (fun _ _=>rfl)) (ao)) (am (bM (cZ FR FV FW bi (aa 5) (ac (aI (qP T) hr.le T.f_42 (ac (aE (ay hr.units1) (aa 8) (ao) (fun _ _=>rfl)) (ac (aa 7) (ac (aE (ay hr.units1) (aa 8) (ao) (fun _ _=>rfl)) (ai))))) (ai)))) (ar (aC 7 gs.nd (cm (cb T) hr.le aX (aa 0) (ac (aE (ay hr.units1) (aa 5) (fI (ao)) (fun _ _=>rfl)) (ai)))))) (aU))))) GA) (am (bM (cZ FR FV FW bi (aa 4) (ac (aV (ac (bC) (ac (aa 1) (ac (aa 6) (ai))))) (ai)))) (am (bM (cZ FR FV FW bi (aa 5) (ac (aV (ac (bC) (ac (aa 2) (ac (aa 7) (ai))))) (ai)))) (ar (aF (aV (ac (aa 4) (ac (aa 5) (ai))))))))))))
theorem BN:aM P w K mg base (CX1 P w) 1 A.a_52 A.d_52 ["turns","marks"] (mT K A):=
 T.f_52.f.okS ie (yL K A) (DD T.1) fun _ _ _ _ _ _ hr=>
 am (aC 2 ie.nd (cM (ai))) (am (aC 3 ie.nd (ao)) (am (aC 4 ie.nd (aQ dv (aW cg T.z_len Gv (ac (aa 1) (ai))) (ao))) (am (fq 5 ie.nd (dq (aa 0)) (ar (aZ (aN (bP hr.units150) (aa 5) (ao)) (am (bM (cZ FR FV FW bi (aa 2) (ac (aV (ac (aa 5) (ac (aE (ay hr.units1) (aa 1) (aa 4) (fun _ _=>rfl)) (ai)))) (ai)))) (ar (aC 4 ie.nd (aQ dv (aa 4) (ao))))) (am (bM (cZ FR FV FW bi (aa 2) (ac (aV (ac (aa 5) (ac (aE (ay hr.units1) (aa 1) (aa 3) (fun _ _=>rfl)) (ai)))) (ai)))) (ar (aC 3 ie.nd (aQ bG (aa 3) (ao))))))) GA) (ar (aF (aV (ac (aE (ay hr.units1) (aa 1) (aa 3) (fun _ _=>rfl)) (ac (rn T.z_list T.z_reversed rfl (ac (aa 2) (ai))) (ai)))))))))
theorem vJ:aM P w K mg base (CX1 P w) 4 A.a_32 A.d_32 ["stamper","count","elder","marks"] (jk K A):=
 T.f_32.f.okS qg (zn K A) (DJ T.1) fun _ _ _ _ _ _ hr=>
 am (aZ (dD (da (aI (wv T) hr.le T.f_36 (ac (aa 1) (ac (aa 2) (ai)))))) (ar (cV)) (aU)) (am (aC 4 qg.nd (aI (CC T) hr.le T.f_33 (ac (aa 1) (ac (aa 2) (ai))))) (am (aZ (dD (da (aI (vK T) hr.le T.f_26 (ac (pQ (aN (bP hr.units150) (aa 1) (ao)) (ao) (aQ bG (aW cg T.z_len Gv (ac (aa 4) (ai))) (ao))) (ac (aa 3) (ai)))))) (ar (cV)) (aU)) (am (aZ (aN (bP hr.units150) (aa 2) (ao)) (am (aC 5 qg.nd (pQ (aN (bP hr.units150) (aa 1) (ao)) (aI (qb T) hr.le T.f_54 (ac (aa 0) (ai))) (cM (ac (aV (ac (bC) (ac (aa 1) (ac (aE (ay hr.units1) (aa 3) (ao) (fun _ _=>rfl)) (ai))))) (ai))))) (ar (aF (aV (ac (aa 5) (ac (aI (qb T) hr.le T.f_54 (ac (aa 0) (ai))) (ai))))))) (aU)) (ar (aF (aI (BJ T) hr.le T.f_30 (ac (aa 0) (ac (aa 1) (ac (aa 2) (ac (aI (BN T) hr.le T.f_52 (ac (aa 4) (ac (aa 3) (ai)))) (ai)))))))))))
theorem Cj:aM P w K mg base (CX1 P w) 5 A.a_31 A.d_31 ["stamper","head","elder","marks"] (mS K A):=
 T.f_31.f.okS qt (xV K A) (DB T.1) fun _ _ _ _ _ _ hr=>
 am (bM (aI (wm T) hr.le T.f_27 (ac (aa 1) (ai)))) (am (aC 4 qt.nd (aI (vJ T) hr.le T.f_32 (ac (aa 0) (ac (aE (ay hr.units1) (aa 1) (ao) (fun _ _=>rfl)) (ac (aa 2) (ac (aa 3) (ai))))))) (am (aC 5 qt.nd (cm (cb T) hr.le aX (aa 0) (ac (aE (ay hr.units1) (aE (ay hr.units1) (aa 4) (ao) (fun _ _=>rfl)) (fI (ao)) (fun _ _=>rfl)) (ai)))) (am (aZ (aN (kP hr.units150) (aa 5) (aE (ay hr.units1) (aa 1) (ao) (fun _ _=>rfl))) (ar (cV)) (aU)) (ar (aF (cm (cb T) hr.le aX (aa 0) (ac (aE (ay hr.units1) (aE (ay hr.units1) (aa 4) (ao) (fun _ _=>rfl)) (fI (ao)) (fun _ _=>rfl)) (ai))))))))
theorem Bm:aM P w K mg base (CX1 P w) 215 A.a_29 A.d_29 ["stamper","head","count","line"] (mE K A):=
 T.f_29.f.okS vX (yK K A) (Dg T.1) fun _ _ _ _ _ E hr=>
 am (aZ (aN (bP hr.units150) (aa 2) (aE (ay hr.units1) (aa 1) (ao) (fun _ _=>rfl))) (ar (aF (aE (ay hr.units1) (aa 1) (ao) (fun _ _=>rfl)))) (aU)) (am (aZ (aN (bP hr.units150) (aa 2) (ao)) (ar (aF (aE (ay hr.units1) (aI (Co T) hr.le T.f_45 (ac (aa 0) (ai))) (ao) (fun _ _=>rfl)))) (aU)) (am (aC 4 vX.nd (bD (aa 3) T.cl_Spoken T.me_Spoken_growth (Bl T) hr.le T.b_11 aX (ac (aE (ay hr.units1) (aa 1) (ao) (fun _ _=>rfl)) (ac (aa 2) (ai))))) (ar (pT (fun pn' E' EH hEH=>ar (aF (aI (Cj T) hr.le T.f_31 (ac (aa 0) (ac (aa 1) (ac (aa 2) (ac (aa 4) (ai)))))))) (nQ T.eo_StampError T.mc_StampError (fun a=>ar (cV)) (ni)) (aU)))))
theorem vR:aM P w K mg base (CX1 P w) 216 A.a_44 A.d_44 ["stamper","sides","count"] (ky K A):=
 T.f_44.f.okS qE (yw K A) (By T.1) fun _ _ _ _ _ E hr=>
 am (aC 3 qE.nd (cM (ai))) (am (rO 4 5 qE.nd (dq (aa 1)) (ar (pT (fun pn' E' EH hEH=>ar (bM (cZ FR FV FW bi (aa 3) (ac (aI (Bm T) hr.le T.f_29 (ac (aa 0) (ac (aa 4) (ac (aa 2) (ac (aa 5) (ai)))))) (ai))))) (nQ T.eo_Silent T.mc_Silent (fun a=>ar (aF (aa 3))) (ni)) (aU))) GA) (ar (aF (aa 3))))
theorem Bi:aM P w K mg base (CX1 P w) 214 A.a_12 A.d_12 ["self","count","place"] (ig K A):=
 T.f_12.okS Cp (AD K A) (CO T.1) fun _ _ _ _ _ _ hr=>
 ar (aF (nq (nj T) hr.le aX (aa 0) T.cl_Spoken T.na_Spoken_answerer (ac (aV (ac (bC) (ac (aa 1) (ac (aa 2) (ai))))) (ai))))
theorem CP:aM P w K mg base (CX1 P w) 4 A.a_39 A.d_39 ["turns","thing"] (mv K A):=
 T.f_39.f.okS BS (zI K A) (Cd T.1) fun _ _ _ _ _ _ hr=>
 am (aZ (x_w (jQ (dD (da (aW iJ T.z_isinstance Ia (ac (aa 1) (ac (iI T.z_tuple KU) (ai)))))) (jP (aN (kP hr.units150) (aW cg T.z_len Gv (ac (aa 1) (ai))) (ao))))) (ar (aF (qC))) (aU)) (ar (aF (cR (aI (mV T) hr.le T.f_40 (ac (aE (ay hr.units1) (aa 1) (ao) (fun _ _=>rfl)) (ai))) (eN (aI (vK T) hr.le T.f_26 (ac (aW cg T.z_len Gv (ac (aa 0) (ai))) (ac (aE (ay hr.units1) (aa 1) (ao) (fun _ _=>rfl)) (ai))))))))
theorem vW:aM P w K mg base (CX1 P w) 5 A.a_50 A.d_50 ["stamper","count","place","paper"] (jd K A):=
 T.f_50.f.okS mr (xY K A) (Ba T.1) fun _ _ _ _ _ _ hr=>
 am (aZ (dD (da (aI (wx T) hr.le T.f_38 (ac (aa 1) (ac (aa 2) (ai)))))) (ar (cV)) (aU)) (am (aC 4 mr.nd (aI (vU T) hr.le T.f_55 (ac (aa 2) (ac (aa 1) (ai))))) (am (aZ (dD (da (aI (CP T) hr.le T.f_39 (ac (aa 4) (ac (aa 3) (ai)))))) (ar (cV)) (aU)) (am (aC 5 mr.nd (cM (ac (aV (ac (bC) (ac (aE (ay hr.units1) (aa 3) (ao) (fun _ _=>rfl)) (ai)))) (ai)))) (am (fq 6 mr.nd (AC T.z_reversed (ac (rN T.z_list T.z_zip rfl (ac (aa 4) (ac (aE (ay hr.units1) (aa 3) (ao) (fun _ _=>rfl)) (ai)))) (ai))) (ar (bM (cZ FR FV FW bi (aa 5) (ac (aI (qP T) hr.le T.f_42 (ac (aE (ay hr.units1) (aa 6) (ao) (fun _ _=>rfl)) (ac (cm (cb T) hr.le aX (aa 0) (ac (aE (ay hr.units1) (aa 5) (fI (ao)) (fun _ _=>rfl)) (ai))) (ac (aE (ay hr.units1) (aa 6) (ao) (fun _ _=>rfl)) (ai))))) (ai))))) GA) (am (bM (cZ FR FV FW bi (aa 5) (ac (aV (ac (bC) (ac (aa 1) (ac (cm (cb T) hr.le aX (aa 0) (ac (aE (ay hr.units1) (aa 5) (fI (ao)) (fun _ _=>rfl)) (ai))) (ai))))) (ai)))) (ar (aF (aa 5))))))))
theorem Ca:aM P w K mg base (CX1 P w) 6 A.a_49 A.d_49 ["stamper","count","place","paper"] (mM K A):=
 T.f_49.f.okS CF (zF K A) (CN T.1) fun _ _ _ _ _ _ hr=>
 ar (aF (cm (cb T) hr.le aX (aa 0) (ac (aE (ay hr.units1) (aI (vW T) hr.le T.f_50 (ac (aa 0) (ac (aa 1) (ac (aa 2) (ac (aa 3) (ai)))))) (fI (ao)) (fun _ _=>rfl)) (ai))))
theorem AT:aM P w K mg base (CX1 P w) 7 A.a_47 A.d_47 ["stamper","head","place","paper"] (km K A):=
 T.f_47.f.okS vZ (sW K A) (BL T.1) fun _ _ _ _ _ _ hr=>
 am (bM (aI (wm T) hr.le T.f_27 (ac (aa 1) (ai)))) (am (aC 4 vZ.nd (aI (Ca T) hr.le T.f_49 (ac (aa 0) (ac (aE (ay hr.units1) (aa 1) (ao) (fun _ _=>rfl)) (ac (aa 2) (ac (aa 3) (ai))))))) (am (aZ (aN (kP hr.units150) (aa 4) (aE (ay hr.units1) (aa 1) (ao) (fun _ _=>rfl))) (ar (cV)) (aU)) (ar (aF (aE (ay hr.units1) (aa 3) (ao) (fun _ _=>rfl))))))
theorem Cu:aM P w K mg base (CX1 P w) 8 A.a_48 A.d_48 ["stamper","head","place","paper"] (gU K A):=
 T.f_48.f.okS Bd (As K A) (DH T.1) fun _ _ _ _ _ E hr=>
 ar (pT (fun pn' E' EH hEH=>ar (aF (aI (AT T) hr.le T.f_47 (ac (aa 0) (ac (aa 1) (ac (aa 2) (ac (aa 3) (ai)))))))) (nQ T.eo_StampError T.mc_StampError (fun a=>ar (aF (pZ))) (ni)) (aU))
theorem De:aM P w K mg base (CX1 P w) 215 A.a_51 A.d_51 ["stamper","sides","place"] (mG K A):=
 T.f_51.f.okS ja (zO K A) (BK T.1) fun _ _ _ _ _ _ hr=>
 am (aC 3 ja.nd (cM (ai))) (am (aC 4 ja.nd (cM (ai))) (am (rO 5 6 ja.nd (dq (aa 1)) (am (aC 7 ja.nd (bD (aa 6) T.cl_Spoken T.me_Spoken_placed (Bi T) hr.le T.b_12 aX (ac (aE (ay hr.units1) (aa 5) (ao) (fun _ _=>rfl)) (ac (aa 2) (ai))))) (am (aC 8 ja.nd (aI (Cu T) hr.le T.f_48 (ac (aa 0) (ac (aa 5) (ac (aa 2) (ac (aa 7) (ai))))))) (am (aZ (aN DR (aa 8) (pZ)) (ar (aF (aV (ac (bC) (ac (aW cg T.z_len Gv (ac (aa 4) (ai))) (ai)))))) (aU)) (am (bM (cZ FR FV FW bi (aa 3) (ac (aa 7) (ai)))) (ar (bM (cZ FR FV FW bi (aa 4) (ac (aa 8) (ai))))))))) GA) (am (aZ (aN (bP hr.units150) (aE (ay hr.units1) (aa 4) (ao) (fun _ _=>rfl)) (aE (ay hr.units1) (aa 4) (ao) (fun _ _=>rfl))) (ar (aF (aV (ac (bC) (ai))))) (aU)) (ar (aF (aV (ac (bC) (ac (aa 2) (ac (aE (ay hr.units1) (aa 3) (ao) (fun _ _=>rfl)) (ac (aE (ay hr.units1) (aa 3) (ao) (fun _ _=>rfl)) (ai)))))))))))
theorem Bb:aM P w K mg base (CX1 P w) 217 A.a_46 A.d_46 ["stamper","sides","low"] (mR K A):=
 T.f_46.f.okS ik (xZ K A) (BQ T.1) fun _ _ _ _ _ _ hr=>
 am (aC 3 ik.nd (ao)) (am (aC 4 ik.nd (aa 2)) (am (fO (aN oGt (aQ dv (aa 4) (aa 3)) (ao)) (am (aC 5 ik.nd (aQ nN (aQ bG (aa 3) (aa 4)) (ao))) (am (aC 6 ik.nd (aI (vR T) hr.le T.f_44 (ac (aa 0) (ac (aa 1) (ac (aa 5) (ai)))))) (am (aZ (aN oLt (aW cg T.z_len Gv (ac (aa 6) (ai))) (ao)) (ar (aF (aV (ac (bC) (ac (aW cg T.z_len Gv (ac (aa 6) (ai))) (ai)))))) (aU)) (ar (aZ (aN (bP hr.units150) (aE (ay hr.units1) (aa 6) (ao) (fun _ _=>rfl)) (aE (ay hr.units1) (aa 6) (ao) (fun _ _=>rfl))) (ar (aC 3 ik.nd (aa 5))) (ar (aC 4 ik.nd (aa 5)))))))) GA) (ar (aF (aI (De T) hr.le T.f_51 (ac (aa 0) (ac (aa 1) (ac (aa 3) (ai)))))))))
theorem vS:aM P w K mg base (CX1 P w) 218 A.a_53 A.d_53 ["stamper","one","other","line","second"] (jY K A):=
 T.f_53.f.okS my (Ai K A) (Dr T.1) fun _ _ _ _ _ _ hr=>
 am (aC 5 my.nd (aV (ac (aV (ac (aa 1) (ac (aa 3) (ai)))) (ac (aV (ac (aa 2) (ac (aa 4) (ai)))) (ai))))) (am (aC 6 my.nd (aW (zo rfl) T.z_min boot_min (ac (aE (ay hr.units1) (aa 1) (ao) (fun _ _=>rfl)) (ac (aE (ay hr.units1) (aa 2) (ao) (fun _ _=>rfl)) (ai))))) (am (aC 7 my.nd (aI (vR T) hr.le T.f_44 (ac (aa 0) (ac (aa 5) (ac (aa 6) (ai)))))) (am (aZ (aN oLt (aW cg T.z_len Gv (ac (aa 7) (ai))) (ao)) (ar (aF (aV (ac (bC) (ac (aW cg T.z_len Gv (ac (aa 7) (ai))) (ai)))))) (aU)) (am (aZ (aN (bP hr.units150) (aE (ay hr.units1) (aa 7) (ao) (fun _ _=>rfl)) (aE (ay hr.units1) (aa 7) (ao) (fun _ _=>rfl))) (ar (aF (aV (ac (bC) (ai))))) (aU)) (ar (aF (aI (Bb T) hr.le T.f_46 (ac (aa 0) (ac (aa 5) (ac (aa 6) (ai)))))))))))
theorem wd:aM P w K mg base (CX1 P w) 213 A.a_20 A.d_20 ["_law_stamper","_law_rows","_law_counts","_law_count"] (jR K A):=
 T.f_20.f.okS kh (yp K A) (Bn T.1) fun _ _ _ _ _ _ hr=>
 am (aC 4 kh.nd (cM (ai))) (am (fq 5 kh.nd (ef T.z_range (ac (ao) (ai))) (ar (aZ (ng oLt oLt (ao) (aa 3) (aE (ay hr.units1) (aa 2) (aa 5) (fun _ _=>rfl))) (am (Ah 6 7 kh.nd rfl (aI (vJ T) hr.le T.f_32 (ac (aa 0) (ac (aE (ay hr.units1) (aa 2) (aa 5) (fun _ _=>rfl)) (ac (aa 3) (ac (bD (aE (ay hr.units1) (aa 1) (aa 5) (fun _ _=>rfl)) T.cl_Row T.me_Row_growth_paper (yH T) hr.le T.b_3 aX (ac (aE (ay hr.units1) (aa 2) (aa 5) (fun _ _=>rfl)) (ac (aa 3) (ai)))) (ai))))))) (ar (aC 4 kh.nd (aQ bG (aQ bG (aa 4) (aa 6)) (aa 7))))) (aU))) GA) (ar (aF (aa 4))))
theorem BX:aM P w K mg base (CX1 P w) 143 A.a_21 A.d_21 ["_law_stamper","_law_rows","_law_counts","_law_place"] (mJ K A):=
 T.f_21.f.okS mz (zg K A) (CY T.1) fun _ _ _ _ _ _ hr=>
 am (aC 4 mz.nd (cM (ai))) (am (fq 5 mz.nd (ef T.z_range (ac (ao) (ai))) (ar (aC 4 mz.nd (aQ bG (aa 4) (aI (vW T) hr.le T.f_50 (ac (aa 0) (ac (aE (ay hr.units1) (aa 2) (aa 5) (fun _ _=>rfl)) (ac (aa 3) (ac (bD (aE (ay hr.units1) (aa 1) (aa 5) (fun _ _=>rfl)) T.cl_Row T.me_Row_place_paper (ux T) hr.le T.b_6 aX (ac (aE (ay hr.units1) (aa 2) (aa 5) (fun _ _=>rfl)) (ac (aa 3) (ai)))) (ai))))))))) GA) (ar (aF (aa 4))))
theorem DC:aM P w K mg base (CX1 P w) 2 A.a_16 A.d_16 ["_law_stamper","_law_terms","_law_found"] (mw K A):=
 T.f_16.f.okS Cy (AJ K A) (CI T.1) fun _ _ _ _ _ _ hr=>
 am (aZ (x_w (jQ (dD (da (aW iJ T.z_isinstance Ia (ac (aa 2) (ac (iI T.z_tuple KU) (ai)))))) (jQ (aN (kP hr.units150) (aW cg T.z_len Gv (ac (aa 2) (ai))) (ao)) (jP (aN (bP hr.units150) (aE (ay hr.units1) (aa 2) (ao) (fun _ _=>rfl)) (aE (ay hr.units1) (aa 2) (ao) (fun _ _=>rfl))))))) (ar (aF (qC))) (aU)) (am (aZ (x_w (jQ (aN (lb hr.units150) (aE (ay hr.units1) (aa 2) (ao) (fun _ _=>rfl)) (aa 1)) (jP (aN (lb hr.units150) (aE (ay hr.units1) (aa 2) (ao) (fun _ _=>rfl)) (aa 1))))) (ar (aF (qC))) (aU)) (ar (aF (fk (bP hr.units150) (cm (cb T) hr.le aX (aa 0) (ac (aE (ay hr.units1) (aa 2) (ao) (fun _ _=>rfl)) (ai))) (cm (cb T) hr.le aX (aa 0) (ac (aE (ay hr.units1) (aa 2) (ao) (fun _ _=>rfl)) (ai)))))))
theorem Ck:aM P w K mg base (CX1 P w) 2 A.a_28 A.d_28 ["stamper","terms"] (mC K A):=
 T.f_28.f.okS mB (zY K A) (Cg T.1) fun _ _ _ _ _ _ hr=>
 am (aC 2 mB.nd (pq)) (am (fq 3 mB.nd (dq (aa 1)) (am (aC 4 mB.nd (cZ PySem.F.plainAttrs_dict Hw PySem.F.type_dict_setdefault (rp hr.units1) (aa 2) (ac (cm (cb T) hr.le aX (aa 0) (ac (aa 3) (ai))) (ac (aa 3) (ai))))) (ar (aZ (aN (kP hr.units150) (aa 4) (aa 3)) (ar (aF (aV (ac (aa 4) (ac (aa 3) (ai)))))) (aU)))) GA) (ar (aF (pZ))))
theorem Cw:aM P w K mg base (CX1 P w) 214 A.a_15 A.d_15 ["_law_stamper","_law_found","_law_books_here","_law_rows","_law_counts"] (mK K A):=
 T.f_15.f.okS fj (Ax K A) (Cm T.1) fun _ _ _ _ _ _ hr=>
 am (aC 5 fj.nd (ao)) (am (aC 6 fj.nd (aW (zo rfl) T.z_min boot_min (ac (aE (ay hr.units1) (aa 4) (ao) (fun _ _=>rfl)) (ac (aE (ay hr.units1) (aa 4) (ao) (fun _ _=>rfl)) (ai))))) (am (aZ (aN (bP hr.units150) (aI (kz T) hr.le T.f_19 (ac (aa 0) (ac (aE (ay hr.units1) (aa 2) (ao) (fun _ _=>rfl)) (ac (aa 6) (ai))))) (aI (kz T) hr.le T.f_19 (ac (aa 0) (ac (aE (ay hr.units1) (aa 2) (ao) (fun _ _=>rfl)) (ac (aa 6) (ai)))))) (ar (aF (fk (bP hr.units150) (aa 1) (aV (ac (bC) (ai)))))) (aU)) (am (aC 7 fj.nd (aI (wd T) hr.le T.f_20 (ac (aa 0) (ac (aa 3) (ac (aa 4) (ac (aa 6) (ai))))))) (am (fO (aN oGt (aQ dv (aa 6) (aa 5)) (ao)) (am (aC 8 fj.nd (aQ nN (aQ bG (aa 5) (aa 6)) (ao))) (am (aC 7 fj.nd (aQ bG (aa 7) (aI (wd T) hr.le T.f_20 (ac (aa 0) (ac (aa 3) (ac (aa 4) (ac (aa 8) (ai)))))))) (ar (aZ (aN (bP hr.units150) (aI (kz T) hr.le T.f_19 (ac (aa 0) (ac (aE (ay hr.units1) (aa 2) (ao) (fun _ _=>rfl)) (ac (aa 8) (ai))))) (aI (kz T) hr.le T.f_19 (ac (aa 0) (ac (aE (ay hr.units1) (aa 2) (ao) (fun _ _=>rfl)) (ac (aa 8) (ai)))))) (ar (aC 5 fj.nd (aa 8))) (ar (aC 6 fj.nd (aa 8))))))) GA) (am (aZ (aN (kP hr.units150) (aE (ay hr.units1) (aE (ay hr.units1) (aa 2) (ao) (fun _ _=>rfl)) (aa 5) (fun _ _=>rfl)) (aE (ay hr.units1) (aE (ay hr.units1) (aa 2) (ao) (fun _ _=>rfl)) (aa 5) (fun _ _=>rfl))) (am (ft (ys:=["_law_rows","_law_counts","_law_low"]) 9 fj.nd (by exact⟨rfl,by decide+kernel,by decide+kernel,rfl,by decide+kernel,by decide+kernel⟩) (by exact .cons rfl (by first|exact .inl rfl|exact .inr rfl) rfl (.cons rfl (by first|exact .inl rfl|exact .inr rfl) rfl (.cons rfl (by first|exact .inl rfl|exact .inr rfl) rfl (.nil)))) (ef T.z_range (ac (ao) (ai))) (fun C s H fp=>fw) (fun C s H fp=>(bD (aE (ay hr.units1) (aa 1) (aa 0) (fun _ _=>rfl)) T.cl_Row T.me_Row_place_paper (ux T) hr.le T.b_6 aX (ac (aE (ay hr.units1) (aa 2) (aa 0) (fun _ _=>rfl)) (ac (aa 3) (ai)))))) (ar (aF (fk (bP hr.units150) (aa 1) (aV (ac (bC) (ac (aa 5) (ac (aE (ay hr.units1) (aa 9) (ao) (fun _ _=>rfl)) (ac (aE (ay hr.units1) (aa 9) (ao) (fun _ _=>rfl)) (ai)))))))))) (aU)) (am (aC 7 fj.nd (aQ bG (aa 7) (aI (BX T) hr.le T.f_21 (ac (aa 0) (ac (aa 3) (ac (aa 4) (ac (aa 5) (ai)))))))) (ar (aF (cR (fk (bP hr.units150) (aa 1) (aV (ac (bC) (ai)))) (eN (aI (DC T) hr.le T.f_16 (ac (aa 0) (ac (aa 7) (ac (aI (Ck T) hr.le T.f_28 (ac (aa 0) (ac (aa 7) (ai)))) (ai)))))))))))))))
theorem DF:aM P w K mg base (CX1 P w) 219 A.a_43 A.d_43 ["_law_script"] (mH K A):=
 T.f_43.f.okS dR (AK K A) (CK T.1) fun _ _ _ _ _ _ hr=>
 am (aC 1 dR.nd (aI (gT T) hr.le T.f_14 (ac (aa 0) (ac (ao) (ai))))) (am (aC 2 dR.nd (aQ bG (ao) (aQ gY (aa 1) (ao)))) (am (aZ (aN (bP hr.units150) (aQ gY (aQ nN (aa 1) (ao)) (ao)) (ao)) (ar (aC 2 dR.nd (ao))) (aU)) (am (aC 3 dR.nd (aI (AM T) hr.le T.f_24 (ac (aa 2) (ai)))) (am (aC 4 dR.nd (aI (Cb T) hr.le T.f_13 (ac (aa 0) (ai)))) (am (ft (ys:=["_law_stamper"]) 5 dR.nd (by exact⟨rfl,by decide+kernel,by decide+kernel,rfl,by decide+kernel,by decide+kernel⟩) (by exact .cons rfl (by first|exact .inl rfl|exact .inr rfl) rfl (.nil)) (dq (aa 4)) (fun C s H fp=>fw) (fun C s H fp=>(aI (BC T) hr.le T.f_22 (ac (aa 1) (ac (aa 0) (ai)))))) (am (aC 6 dR.nd (nV (ys:=["_law_script","_law_books_here"]) (by exact⟨rfl,by decide+kernel,by decide+kernel,rfl,by decide+kernel,by decide+kernel⟩) (by exact .cons rfl (by first|exact .inl rfl|exact .inr rfl) rfl (.cons rfl (by first|exact .inl rfl|exact .inr rfl) rfl (.nil))) (ef T.z_range (ac (ao) (ai))) (fun C s H fp=>fw) (fun C s H fp=>(aQ bG (ao) (aQ gY (aI (gT T) hr.le T.f_14 (ac (aa 1) (ac (aQ bG (ao) (aa 0)) (ai)))) (aW cg T.z_len Gv (ac (aE (ay hr.units1) (aa 2) (aa 0) (fun _ _=>rfl)) (ai)))))))) (am (ft (ys:=["_law_stamper","_law_books_here","_law_counts"]) 7 dR.nd (by exact⟨rfl,by decide+kernel,by decide+kernel,rfl,by decide+kernel,by decide+kernel⟩) (by exact .cons rfl (by first|exact .inl rfl|exact .inr rfl) rfl (.cons rfl (by first|exact .inl rfl|exact .inr rfl) rfl (.cons rfl (by first|exact .inl rfl|exact .inr rfl) rfl (.nil)))) (ef T.z_range (ac (ao) (ai))) (fun C s H fp=>fw) (fun C s H fp=>(aV (ac (aE (ay hr.units1) (aa 3) (aa 0) (fun _ _=>rfl)) (ac (aI (kz T) hr.le T.f_19 (ac (aa 1) (ac (aE (ay hr.units1) (aa 2) (aa 0) (fun _ _=>rfl)) (ac (aE (ay hr.units1) (aa 3) (aa 0) (fun _ _=>rfl)) (ai))))) (ai)))))) (am (ft (ys:=[]) 8 dR.nd (by exact⟨rfl,by decide+kernel,by decide+kernel,rfl,by decide+kernel,by decide+kernel⟩) (by exact .nil) (dq (aa 5)) (fun C s H fp=>fw) (fun C s H fp=>(aI (Df T) hr.le T.f_17 (ac (aa 0) (ai))))) (am (aC 9 dR.nd (aI (vS T) hr.le T.f_53 (ac (aa 3) (ac (aE (ay hr.units1) (aa 7) (ao) (fun _ _=>rfl)) (ac (aE (ay hr.units1) (aa 7) (ao) (fun _ _=>rfl)) (ac (aE (ay hr.units1) (aa 8) (ao) (fun _ _=>rfl)) (ac (aE (ay hr.units1) (aa 8) (ao) (fun _ _=>rfl)) (ai)))))))) (am (aZ (dD (da (aI (Cw T) hr.le T.f_15 (ac (aa 3) (ac (aa 9) (ac (aa 4) (ac (aa 5) (ac (aa 6) (ai))))))))) (ar (aF (qC))) (aU)) (am (aC 10 dR.nd (aI (vS T) hr.le T.f_53 (ac (aa 3) (ac (aE (ay hr.units1) (aa 7) (ao) (fun _ _=>rfl)) (ac (aE (ay hr.units1) (aa 7) (ao) (fun _ _=>rfl)) (ac (aE (ay hr.units1) (aa 8) (ao) (fun _ _=>rfl)) (ac (aE (ay hr.units1) (aa 8) (ao) (fun _ _=>rfl)) (ai)))))))) (ar (aF (cR (fk (bP hr.units150) (fR gM (aa 10) (fU) (fS (ao))) (fR gM (aa 9) (fU) (fS (ao)))) (eN (fk (bP hr.units150) (og BA T.z_list boot_list (ac (fR gM (aa 10) (fS (ao)) (fU)) (ai))) (qK T.z_list T.z_reversed rfl (ac (fR gM (aa 9) (fS (ao)) (fU)) (ai)))))))))))))))))))
omit T
def qd (P:Gd)(w:GH)(K:pz)(mg:Str→Option tx)(fa:Addr):Prop:=∃(fd:FX)(tabs:List (Addr×Addr))(sp:Sp),(∀(s:FI)(v:tx),MA s fd ⟨[v],[]⟩ [("_law_script",v)])∧LV K=true∧(∀t∈tabs,∃y∈(["_law_weak","_law_line"]:List Str),KA K y=some t)∧(∀base:Heap,K.In base→base.Ns mainGlobals mg→BM mg base→(∀t∈tabs,Jx base t.1 t.2)→aM P w K mg base (CX1 P w) 219 fa fd ["_law_script"] sp)∧∀(H:Hp)(a:Addr)(ns:List Int),ns.length≤63→(∀t∈tabs,H t.2=some (.tbl #[]))→SqL K H a (ns.map V.int)→sp [.ref a] H (fun v _=>v=.bl true) fun _ _ _=>False
theorem yn (T:Txt K mg A)(nt:LV K=true)(tb_24:KA K "_law_weak"=some (A.k_24,A.t_24))(tb_17:KA K "_law_line"=some (A.k_17,A.t_17))(tdn:([A.t_24,A.t_17]:List Addr).Nodup):qd P w K mg A.a_43:=by
 refine⟨A.d_43,[(A.k_24,A.t_24),(A.k_17,A.t_17)],mH K A,T.f_43.f.bt,nt,?_,fun base _ _ B C=>?_,fun H a ns hl hO hS=>⟨a,ns,rfl,hS,hl,⟨hO (A.k_24,A.t_24) (by simp),hO (A.k_17,A.t_17) (by simp),tdn⟩,fun _=>rfl⟩⟩
 ·intro t ht
  simp only[Gh,Ha,or_false]at ht
  rcases ht with rfl|rfl
  ·exact⟨"_law_weak",by simp,tb_24⟩
  ·exact⟨"_law_line",by simp,tb_17⟩
 ·exact DF ⟨T,B,C (A.k_24,A.t_24) (by simp),C (A.k_17,A.t_17) (by simp)⟩
theorem AL {h:Heap}{fa:Addr}(X:K.In h)(G:h.Ns mainGlobals mg)(hfa:mg "law"=some (.ref fa)){x_41 x_35 x_36 x_7 x_4 x_34 x_9 x_8 x_2 x_3 x_38 x_5 x_55 x_6 x_14 x_24 x_13 x_0 x_40 x_1 x_22 x_23 x_19 x_10 x_17 x_54 x_45 x_11 x_37 x_27 x_33 x_26 x_42 x_30 x_52 x_32 x_31 x_29 x_44 x_12 x_39 x_50 x_49 x_47 x_48 x_51 x_46 x_53 x_20 x_21 x_16 x_28 x_15 x_43 y_StampError y_Silent y_Row y_Spoken:Addr}{d0 d1 d2 d3 d4 d5 d6 d7 d8 d9 d10 d11 d12 d13 d14 d15 d16 d17 d18 d19 d20 d21 d22 d23 d24 d25 d26 d27 d28 d29 d30 d31 d32 d33 d34 d35 d36 d37 d38 d39 d40 d41 d42 d43 d44 d45 d46 d47 d48 d49 d50 d51 d52 d53:FX}
  (bo_Row:IS K mainGlobals "Row"=some (some (.ref y_Row)))(bo_Spoken:IS K mainGlobals "Spoken"=some (some (.ref y_Spoken)))(bc_StampError:IS K mainGlobals "StampError"=some (some (.ref y_StampError)))(bc_Silent:IS K mainGlobals "Silent"=some (some (.ref y_Silent)))(h0:Fa K "is_whole" "is_whole" uX x_41 d0)(h1:Fa K "is_count" "is_count" uD x_35 d1)(h2:Fa K "is_elder" "is_elder" uJ x_36 d2)(a3:GU K (.ref y_Row) "size"=some (some (.ref x_7)))(h3:Fun K "size" "Row.size" s_7 x_7 d3)(fn3:Jw K (.ref x_7)=true)(a4:GU K (.ref y_Row) "has_elder"=some (some (.ref x_4)))(h4:Fun K "has_elder" "Row.has_elder" s_4 x_4 d4)(fn4:Jw K (.ref x_4)=true)(h5:Fa K "half" "half" tD x_34 d5)(a6:GU K (.ref y_Row) "top_term"=some (some (.ref x_9)))(h6:Fun K "top_term" "Row.top_term" s_9 x_9 d6)(fn6:Jw K (.ref x_9)=true)(a7:GU K (.ref y_Row) "top_of"=some (some (.ref x_8)))(h7:Fun K "top_of" "Row.top_of" s_8 x_8 d7)(fn7:Jw K (.ref x_8)=true)(a8:GU K (.ref y_Row) "growth_marks"=some (some (.ref x_2)))(h8:Fun K "growth_marks" "Row.growth_marks" s_2 x_2 d8)(fn8:Jw K (.ref x_2)=true)(a9:GU K (.ref y_Row) "growth_paper"=some (some (.ref x_3)))(h9:Fun K "growth_paper" "Row.growth_paper" s_3 x_3 d9)(fn9:Jw K (.ref x_3)=true)(h10:Fa K "is_place" "is_place" vt x_38 d10)(a11:GU K (.ref y_Row) "has_place"=some (some (.ref x_5)))(h11:Fun K "has_place" "Row.has_place" s_5 x_5 d11)(fn11:Jw K (.ref x_5)=true)(h12:Fa K "ways" "ways" tM x_55 d12)(a13:GU K (.ref y_Row) "place_paper"=some (some (.ref x_6)))(h13:Fun K "place_paper" "Row.place_paper" s_6 x_6 d13)(fn13:Jw K (.ref x_6)=true)(h14:Fa K "_law_cell_at" "_law_cell_at" uR x_14 d14)(h15:Fa K "_law_weak" "_law_weak" jG x_24 d15)(tb_24:(KA K "_law_weak").isSome=true)(h16:Fa K "_law_books" "_law_books" uU x_13 d16)(a17:GU K (.ref y_Row) "__init__"=some (some (.ref x_0)))(h17:Fun K "__init__" "Row.__init__" s_0 x_0 d17)(fn17:Jw K (.ref x_0)=true)(h18:Fa K "is_stamp" "is_stamp" ug x_40 d18)(a19:GU K (.ref y_Row) "add"=some (some (.ref x_1)))(h19:Fun K "add" "Row.add" s_1 x_1 d19)(fn19:Jw K (.ref x_1)=true)(h20:Fa K "_law_row" "_law_row" tz x_22 d20)(h21:Fa K "_law_top" "_law_top" vx x_23 d21)(h22:Fa K "_law_mark" "_law_mark" vi x_19 d22)(a23:GU K (.ref y_Spoken) "__init__"=some (some (.ref x_10)))(h23:Fun K "__init__" "Spoken.__init__" uH x_10 d23)(fn23:Jw K (.ref x_10)=true)(h24:Fa K "_law_line" "_law_line" jB x_17 d24)(tb_17:(KA K "_law_line").isSome=true)(h25:Fa K "void_terms" "void_terms" tV x_54 d25)(h26:Fa K "none_head" "none_head" uk x_45 d26)(a27:GU K (.ref y_Spoken) "growth"=some (some (.ref x_11)))(h27:Fun K "growth" "Spoken.growth" tp x_11 d27)(fn27:Jw K (.ref x_11)=true)(h28:Fa K "is_head" "is_head" uj x_37 d28)(h29:Fa K "check_head" "check_head" vH x_27 d29)(h30:Fa K "growth_turns" "growth_turns" vj x_33 d30)(h31:Fa K "are_marks" "are_marks" vg x_26 d31)(h32:Fa K "joint" "joint" uq x_42 d32)(h33:Fa K "grown_terms" "grown_terms" vB x_30 d33)(h34:Fa K "step_marks" "step_marks" vh x_52 d34)(h35:Fa K "growth_terms" "growth_terms" uA x_32 d35)(h36:Fa K "growth_answer" "growth_answer" vG x_31 d36)(h37:Fa K "elder_by" "elder_by" vc x_29 d37)(h38:Fa K "marks_at" "marks_at" uu x_44 d38)(a39:GU K (.ref y_Spoken) "placed"=some (some (.ref x_12)))(h39:Fun K "placed" "Spoken.placed" ub x_12 d39)(fn39:Jw K (.ref x_12)=true)(h40:Fa K "is_place_paper" "is_place_paper" uE x_39 d40)(h41:Fa K "place_terms" "place_terms" uG x_50 d41)(h42:Fa K "place_mark" "place_mark" tQ x_49 d42)(h43:Fa K "place_answer" "place_answer" vA x_47 d43)(h44:Fa K "place_entry" "place_entry" sZ x_48 d44)(h45:Fa K "shown_at" "shown_at" vz x_51 d45)(h46:Fa K "parting" "parting" ve x_46 d46)(h47:Fa K "talk" "talk" tO x_53 d47)(h48:Fa K "_law_opened" "_law_opened" vd x_20 d48)(h49:Fa K "_law_placed" "_law_placed" sX x_21 d49)(h50:Fa K "_law_is_clash" "_law_is_clash" uC x_16 d50)(h51:Fa K "clash" "clash" tH x_28 d51)(h52:Fa K "_law_ended" "_law_ended" vI x_15 d52)(h53:Fa K "law" "law" ua x_43 d53)(pg_Row:JZ K y_Row Nt=true)(hd_Row:Kp K y_Row=true)(po_Row:Lp K y_Row=true)(sa_Row:GU K (.ref y_Row) "__setattr__"=some (some (.builtin "object.__setattr__")))(na_Row_stamper:GU K (.ref y_Row) "stamper"=some none)(na_Row_entries:GU K (.ref y_Row) "entries"=some none)(na_Row_tops:GU K (.ref y_Row) "tops"=some none)(pg_Spoken:JZ K y_Spoken Nt=true)(hd_Spoken:Kp K y_Spoken=true)(po_Spoken:Lp K y_Spoken=true)(sa_Spoken:GU K (.ref y_Spoken) "__setattr__"=some (some (.builtin "object.__setattr__")))(na_Spoken_answerer:GU K (.ref y_Spoken) "answerer"=some none)(mk_Row:Mv K y_Row=true)(kc_Row:Ka K (.ref y_Row)=true)(mk_Spoken:Mv K y_Spoken=true)(kc_Spoken:Ka K (.ref y_Spoken)=true)(eo_StampError:MQ K y_StampError veM "ValueError.__new__"=true)(eo_Silent:MQ K y_Silent veM "ValueError.__new__"=true)(z_all:IS K mainGlobals "all"=some none)(z_bool:IS K mainGlobals "bool"=some none)(z_int:IS K mainGlobals "int"=some none)(z_isinstance:IS K mainGlobals "isinstance"=some none)(z_len:IS K mainGlobals "len"=some none)(z_list:IS K mainGlobals "list"=some none)(z_max:IS K mainGlobals "max"=some none)(z_min:IS K mainGlobals "min"=some none)(z_range:IS K mainGlobals "range"=some none)(z_reversed:IS K mainGlobals "reversed"=some none)(z_str:IS K mainGlobals "str"=some none)(z_tuple:IS K mainGlobals "tuple"=some none)(z_zip:IS K mainGlobals "zip"=some none)(nt:LV K=true)(td:lD K ["_law_weak","_law_line"]=true):qd P w K mg fa:=by
 cases hfa.symm.trans (JI X G h53.m)
 obtain⟨⟨z_24,t_24⟩,tb_24⟩:=GO.mp tb_24
 obtain⟨⟨z_17,t_17⟩,tb_17⟩:=GO.mp tb_17
 have tdn:([t_24,t_17]:List Addr).Nodup:=uF (by unfold lD at td;simp only[Gw,Kw,tb_24,tb_17,IX]at td;exact of_decide_eq_true td)
 exact yn (A:=⟨x_41,d0,x_35,d1,x_36,d2,x_7,d3,x_4,d4,x_34,d5,x_9,d6,x_8,d7,x_2,d8,x_3,d9,x_38,d10,x_5,d11,x_55,d12,x_6,d13,x_14,d14,x_24,d15,x_13,d16,x_0,d17,x_40,d18,x_1,d19,x_22,d20,x_23,d21,x_19,d22,x_10,d23,x_17,d24,x_54,d25,x_45,d26,x_11,d27,x_37,d28,x_27,d29,x_33,d30,x_26,d31,x_42,d32,x_30,d33,x_52,d34,x_32,d35,x_31,d36,x_29,d37,x_44,d38,x_12,d39,x_39,d40,x_50,d41,x_49,d42,x_47,d43,x_48,d44,x_51,d45,x_46,d46,x_53,d47,x_20,d48,x_21,d49,x_16,d50,x_28,d51,x_15,d52,fa,d53,z_24,t_24,z_17,t_17,y_StampError,y_Silent,y_Row,y_Spoken⟩) ⟨h0.fm1 X G,h1.fm1 X G,h2.fm2 X G,h3,h3.b1,h4,h4.b3,h5.fm1 X G,h6,h6.b3,h7,h7.b3,h8,h8.b4,h9,h9.b3,h10.fm2 X G,h11,h11.b3,h12.fm2 X G,h13,h13.b3,h14.fm2 X G,h15.fm1 X G,h16.fm1 X G,h17,h17.b2,h18.fm1 X G,h19,h19.b2,h20.fm2 X G,h21.fm2 X G,h22.fm3 X G,h23,h23.b2,h24.fm1 X G,h25.fm1 X G,h26.fm1 X G,h27,h27.b3,h28.fm1 X G,h29.fm1 X G,h30.fm2 X G,h31.fm2 X G,h32.fm3 X G,h33.fm4 X G,h34.fm2 X G,h35.fm4 X G,h36.fm4 X G,h37.fm4 X G,h38.fm3 X G,h39,h39.b3,h40.fm2 X G,h41.fm4 X G,h42.fm4 X G,h43.fm4 X G,h44.fm4 X G,h45.fm3 X G,h46.fm3 X G,h47.fm5 X G,h48.fm4 X G,h49.fm4 X G,h50.fm3 X G,h51.fm2 X G,h52.fm5 X G,h53.fm1 X G,Hr X G z_all,Hr X G z_bool,Hr X G z_int,Hr X G z_isinstance,Hr X G z_len,Hr X G z_list,Hr X G z_max,Hr X G z_min,Hr X G z_range,Hr X G z_reversed,Hr X G z_str,Hr X G z_tuple,Hr X G z_zip,h15.code X G tb_24,h24.code X G tb_17,JI X G bc_StampError,gh.ok eo_StampError,JI X G bc_Silent,gh.ok eo_Silent,JI X G bo_Row,⟨pg_Row,hd_Row,po_Row,sa_Row⟩,na_Row_stamper,na_Row_entries,na_Row_tops,JI X G bo_Spoken,⟨pg_Spoken,hd_Spoken,po_Spoken,sa_Spoken⟩,na_Spoken_answerer,⟨a3,fn3,h3.kp⟩,⟨a7,fn7,h7.kp⟩,⟨a6,fn6,h6.kp⟩,⟨a8,fn8,h8.kp⟩,⟨a4,fn4,h4.kp⟩,⟨a11,fn11,h11.kp⟩,⟨a19,fn19,h19.kp⟩,⟨a27,fn27,h27.kp⟩,⟨a39,fn39,h39.kp⟩,⟨a9,fn9,h9.kp⟩,⟨a13,fn13,h13.kp⟩,⟨mk_Row,a17,fn17,kc_Row⟩,⟨mk_Spoken,a23,fn23,kc_Spoken⟩⟩ nt tb_24 tb_17 tdn
theorem Fy {l:W.OpenLaw}{q:Gd}{loose:List Str}{XP:(Str→Option tx)→Heap→Prop}{YP:GH→Heap→Prop}{d:DefRec}{K:Params→pz}(hn:l.most=some 63)(hdf:d.params.defaults=[])
  (hY:∀(w:GH)(h:Heap),YP w h→(K w.params).In h)(hq:∀y∈(["_law_weak","_law_line"]:List Str),((KJ q).find? fun e=>e.name==y).isSome=true)
  (F:∀(w:GH)(mg:Str→Option tx)(fa:Addr)(h:Heap),(K w.params).In h→h.Ns mainGlobals mg→mg d.name=some (.ref fa)→qd l.prog w (K w.params) mg fa):
  W.WalkO q loose XP YP l.row.toRowW d [] (fun f vs=>Mu f vs):=
 L2.vq (n:=63) (k:=219) (x:="_law_script") (CX:=fun w=>CX1 l.prog w) hn (by decide) hdf ⟨rfl,by decide,by decide⟩ hY hq F fun _ _ _ _ _ ⟨_,_,_,_,_,_,z⟩=>z
end
end Rs
def PySem.W.Fast.tw9855154383939712239:Unit:=()
def PySem.W.Fast.tw5481613237806703010:Unit:=()
def PySem.W.Fast.tw14425963020298951969:Unit:=()
def PySem.W.Fast.tw11047332258586609708:Unit:=()
def PySem.W.Fast.tw2803715903523979229:Unit:=()
def PySem.W.Fast.tw11524715734152513029:Unit:=()
def PySem.W.Fast.tw12701629894899522380:Unit:=()
def PySem.W.Fast.tw3814151524389527044:Unit:=()
def PySem.W.Fast.tw17020661885048313975:Unit:=()
def PySem.W.Fast.tw8237917113010890418:Unit:=()
def PySem.W.Fast.tw8065098406981676590:Unit:=()
def PySem.W.Fast.tw14474495607762042338:Unit:=()
def PySem.W.Fast.tw14422181395214441715:Unit:=()
def PySem.W.Fast.tw4250288990899685555:Unit:=()
def PySem.W.Fast.tw13640714840293959229:Unit:=()
def PySem.W.Fast.tw1105981302222911801:Unit:=()
def PySem.W.Fast.tw9141944692789287836:Unit:=()
def PySem.W.Fast.tw17546920131295100859:Unit:=()
def PySem.W.Fast.tw3553805224836732235:Unit:=()
def PySem.W.Fast.tw9759417681153044621:Unit:=()
def PySem.W.Fast.tw17178102359670359571:Unit:=()
def PySem.W.Fast.tw15562274084126215685:Unit:=()
def PySem.W.Fast.tw11813162535253354162:Unit:=()
def PySem.W.Fast.tw7478413922438070328:Unit:=()
def PySem.W.Fast.tw706884631134922313:Unit:=()
def PySem.W.Fast.tw14005382738457882726:Unit:=()
def PySem.W.Fast.tw11256961847268080998:Unit:=()
def PySem.W.Fast.tw6490210009633709032:Unit:=()
def PySem.W.Fast.tw4690975047457545070:Unit:=()
def PySem.W.Fast.tw3017301390641353799:Unit:=()
def PySem.W.Fast.tw13650816728367406014:Unit:=()
def PySem.W.Fast.tw16912923930045714804:Unit:=()
def PySem.W.Fast.tw17110545175213754692:Unit:=()
def PySem.W.Fast.tw2467773441095515540:Unit:=()
def PySem.W.Fast.tw8774571925963213013:Unit:=()
def PySem.W.Fast.tw1096957578032622465:Unit:=()
def PySem.W.Fast.tw3989883143036373976:Unit:=()
def PySem.W.Fast.tw245557869210327526:Unit:=()
def PySem.W.Fast.tw2591531371979297124:Unit:=()
def PySem.W.Fast.tw6400836709825034897:Unit:=()
def PySem.W.Fast.tw3372727643259262065:Unit:=()
def PySem.W.Fast.tw11488397985916507272:Unit:=()
def PySem.W.Fast.tw9448139257242705353:Unit:=()
def PySem.W.Fast.tw17078144052706930246:Unit:=()
def PySem.W.Fast.tw16257239721007374692:Unit:=()
def PySem.W.Fast.tw4578023579030565363:Unit:=()
def PySem.W.Fast.tw13819017045011125183:Unit:=()
def PySem.W.Fast.tw3749396607329138786:Unit:=()
def PySem.W.Fast.tw12280628939453308368:Unit:=()
def PySem.W.Fast.tw17541530653081750974:Unit:=()
def PySem.W.Fast.tw12831912515301146929:Unit:=()
def PySem.W.Fast.tw1491095232589548430:Unit:=()
def PySem.W.Fast.tw9973597169562984055:Unit:=()
def PySem.W.Fast.tw4072332762402573365:Unit:=()
def PySem.W.Fast.tw9230419666152544983:Unit:=()
def PySem.W.Fast.tw11255357545276494398:Unit:=()
def PySem.W.Fast.tw7676493944739974797:Unit:=()
def PySem.W.Fast.tw9379242813820836635:Unit:=()
def PySem.W.Fast.tw8096702810613723742:Unit:=()
def PySem.W.Fast.tw245734288122859293:Unit:=()
def PySem.W.Fast.tw9150777463362193820:Unit:=()
def PySem.W.Fast.tw4059421020416947801:Unit:=()
def PySem.W.Fast.tw15170829089551393570:Unit:=()
def PySem.W.Fast.tw12360650021957770218:Unit:=()
def PySem.W.Fast.tw9383496933585000930:Unit:=()
def PySem.W.Fast.tw11207779054600055728:Unit:=()
def PySem.W.Fast.tw10320750855687131374:Unit:=()
def PySem.W.Fast.tw13267082047200645681:Unit:=()
def PySem.W.Fast.tw14176637456250932271:Unit:=()
def PySem.W.Fast.tw1496204401323727354:Unit:=()
def PySem.W.Fast.tw11469852186292843626:Unit:=()
def PySem.W.Fast.tw11530766676245922340:Unit:=()
def PySem.W.Fast.tw17908239716840646666:Unit:=()
def PySem.W.Fast.tw2185524855549492593:Unit:=()
def PySem.W.Fast.tw13949821180718785456:Unit:=()
def PySem.W.Fast.tw2914705958531078753:Unit:=()
def PySem.W.Fast.tw9732870663416586746:Unit:=()
def PySem.W.Fast.tw7345593341768793660:Unit:=()
def PySem.W.Fast.tw4505383591703570089:Unit:=()
def PySem.W.Fast.tw822918781737537889:Unit:=()
def PySem.W.Fast.tw12779206035251109650:Unit:=()
def PySem.W.Fast.tw7635905068171712056:Unit:=()
def PySem.W.Fast.tw13082659004208263534:Unit:=()
def PySem.W.Fast.tw6604589765294996531:Unit:=()
def PySem.W.Fast.tw3285177739166170662:Unit:=()
def PySem.W.Fast.tw3279402149285694422:Unit:=()
def PySem.W.Fast.tw6986290309435048447:Unit:=()
def PySem.W.Fast.tw16957724639902141371:Unit:=()
def PySem.W.Fast.tw5789749562022511607:Unit:=()
def PySem.W.Fast.tw2255466534107949044:Unit:=()
def PySem.W.Fast.tw2606462986478829801:Unit:=()
def PySem.W.Fast.tw2888881811652077091:Unit:=()
def PySem.W.Fast.tw6053800050692099316:Unit:=()
def PySem.W.Fast.tw4200351719830861921:Unit:=()
def PySem.W.Fast.tw6163841308271569562:Unit:=()
def PySem.W.Fast.tw7331240825657010321:Unit:=()
def PySem.W.Fast.tw6014552349809573546:Unit:=()
def PySem.W.Fast.tw16169160913591460398:Unit:=()
def PySem.W.Fast.tw7087521997082517124:Unit:=()
def PySem.W.Fast.tw7540591654574015691:Unit:=()
def PySem.W.Fast.tw8502932504275265409:Unit:=()
def PySem.W.Fast.tw2898035979214176225:Unit:=()
def PySem.W.Fast.tw1357971075311011065:Unit:=()
def PySem.W.Fast.tw8744793813159453389:Unit:=()
def PySem.W.Fast.tw13143762253231023746:Unit:=()
def PySem.W.Fast.tw10564857758567398702:Unit:=()
def PySem.W.Fast.tw2537580896691129005:Unit:=()
def PySem.W.Fast.tw8440579966987522654:Unit:=()
def PySem.W.Fast.tw2377644922893574964:Unit:=()
def PySem.W.Fast.tw11687459674145649395:Unit:=()
def PySem.W.Fast.tw11802075347201062252:Unit:=()
def PySem.W.Fast.tw9590217350652652938:Unit:=()
def PySem.W.Fast.tw8548426836082350448:Unit:=()
def PySem.W.Fast.tw4656255868584408737:Unit:=()
def PySem.W.Fast.tw15092055391007685719:Unit:=()
def PySem.W.Fast.tw15551713862613665102:Unit:=()
def PySem.W.Fast.tw2226817334406078282:Unit:=()
def PySem.W.Fast.tw14743597064584771219:Unit:=()
def PySem.W.Fast.tw1314651891455349959:Unit:=()
def PySem.W.Fast.tw4185743888124362761:Unit:=()
def PySem.W.Fast.tw7477358483772286691:Unit:=()
def PySem.W.Fast.tw8102990305924332801:Unit:=()
def PySem.W.Fast.tw6098606497242445460:Unit:=()
def PySem.W.Fast.tw12255636446636391998:Unit:=()
def PySem.W.Fast.tw12756241753129874439:Unit:=()
def PySem.W.Fast.tw10119861261807455021:Unit:=()
def PySem.W.Fast.tw8875601181618441055:Unit:=()
def PySem.W.Fast.tw1619085526086987435:Unit:=()
def PySem.W.Fast.tw8260529881543981871:Unit:=()
def PySem.W.Fast.tw13746692111439818753:Unit:=()
def PySem.W.Fast.tw15198344779529032683:Unit:=()
def PySem.W.Fast.tw16293575225211576807:Unit:=()
def PySem.W.Fast.tw8839882118188813683:Unit:=()
def PySem.W.Fast.tw7930063840438605696:Unit:=()
def PySem.W.Fast.tw4559125187900939158:Unit:=()
def PySem.W.Fast.tw6594087463488964457:Unit:=()
def PySem.W.Fast.tw16439970099530602847:Unit:=()
def PySem.W.Fast.tw11689359372462794791:Unit:=()
def PySem.W.Fast.tw11977349447045623253:Unit:=()
def PySem.W.Fast.tw11755854944637111610:Unit:=()
def PySem.W.Fast.tw984995961195548740:Unit:=()
def PySem.W.Fast.tw11069273168358380271:Unit:=()
def PySem.W.Fast.tw13066821738608603641:Unit:=()
def PySem.W.Fast.tw14929056787411115109:Unit:=()
def PySem.W.Fast.tw3807135907581794958:Unit:=()
def PySem.W.Fast.tw7894321595242086262:Unit:=()
def PySem.W.Fast.tw8862507406648703082:Unit:=()
def PySem.W.Fast.tw14789410212294999749:Unit:=()
def PySem.W.Fast.tw2453861390325070408:Unit:=()
def PySem.W.Fast.tw1279882856061055793:Unit:=()
def PySem.W.Fast.tw15389933639676456038:Unit:=()
def PySem.W.Fast.tw10645335583243757837:Unit:=()
def PySem.W.Fast.tw1185064837784224124:Unit:=()
def PySem.W.Fast.tw6271416334346967615:Unit:=()
def PySem.W.Fast.tw14524611316581758689:Unit:=()
def PySem.W.Fast.tw13325843277903552788:Unit:=()
def PySem.W.Fast.tw15225337812206826100:Unit:=()
def PySem.W.Fast.tw2489244894301986442:Unit:=()
def PySem.W.Fast.tw12439934130694218791:Unit:=()
def PySem.W.Fast.tw14868493838715839467:Unit:=()
def PySem.W.Fast.tw9056324700112134270:Unit:=()
def PySem.W.Fast.tw9724738579630646817:Unit:=()
def PySem.W.Fast.tw3489687062401693050:Unit:=()
def PySem.W.Fast.tw12721901674627520959:Unit:=()
def PySem.W.Fast.tw10489920293730994928:Unit:=()
def PySem.W.Fast.tw18377687805009056388:Unit:=()
def PySem.W.Fast.tw14874445101894846672:Unit:=()
def PySem.W.Fast.tw4477023055590356698:Unit:=()
def PySem.W.Fast.tw10964173781263932110:Unit:=()
def PySem.W.Fast.tw4366785476026753117:Unit:=()
def PySem.W.Fast.tw5255122467997042392:Unit:=()
def PySem.W.Fast.tw1178034773431831002:Unit:=()
def PySem.W.Fast.tw14016629723569099980:Unit:=()
def PySem.W.Fast.tw18222989752824926364:Unit:=()
def PySem.W.Fast.tw3671518013960940459:Unit:=()
def PySem.W.Fast.tw3618666824423904221:Unit:=()
def PySem.W.Fast.tw756536132230136687:Unit:=()
def PySem.W.Fast.tw2477413254347269875:Unit:=()
def PySem.W.Fast.tw14406319915817461912:Unit:=()
def PySem.W.Fast.tw9723782431032569907:Unit:=()
def PySem.W.Fast.tw6944282389381256008:Unit:=()
def PySem.W.Fast.tw17568869075702720054:Unit:=()
def PySem.W.Fast.tw1190198104709030819:Unit:=()
def PySem.W.Fast.tw6796841944188505715:Unit:=()
open PySem PySem.W PyProof.Rows
set_option maxRecDepth 100000 in
set_option maxHeartbeats 0 in
theorem PySem.Challenge.cw_rootstamp_k69_whole_talks_by_weak_stamps_holds : PySem.Challenge.rw_rootstamp_k69_whole_talks_by_weak_stamps.Holds := by
 w_on; o_law; k_head; (case hw => w_witness2)
 k_fill
 refine Rs.Fy (l := PySem.Challenge.rw_rootstamp_k69_whole_talks_by_weak_stamps) rfl rfl (fun w h Y => by first | exact PySem.W.kIn_of Y | exact PySem.W.km_in_of Y) (by decide +kernel) ?F
 case F =>
  intro w mg fa h KX G hmg
  refine' Rs.AL KX G hmg ?bo_Row ?bo_Spoken ?bc_StampError ?bc_Silent (L2.bd ?a0 ?l0 ?c0 ?k0) (L2.bd ?a1 ?l1 ?c1 ?k1) (L2.bd ?a2 ?l2 ?c2 ?k2) ?a3 (L2.cO ?l3 ?c3 ?k3) ?fn3 ?a4 (L2.cO ?l4 ?c4 ?k4) ?fn4 (L2.bd ?a5 ?l5 ?c5 ?k5) ?a6 (L2.cO ?l6 ?c6 ?k6) ?fn6 ?a7 (L2.cO ?l7 ?c7 ?k7) ?fn7 ?a8 (L2.cO ?l8 ?c8 ?k8) ?fn8 ?a9 (L2.cO ?l9 ?c9 ?k9) ?fn9 (L2.bd ?a10 ?l10 ?c10 ?k10) ?a11 (L2.cO ?l11 ?c11 ?k11) ?fn11 (L2.bd ?a12 ?l12 ?c12 ?k12) ?a13 (L2.cO ?l13 ?c13 ?k13) ?fn13 (L2.bd ?a14 ?l14 ?c14 ?k14) (L2.bd ?a15 ?l15 ?c15 ?k15) ?tb_24 (L2.bd ?a16 ?l16 ?c16 ?k16) ?a17 (L2.cO ?l17 ?c17 ?k17) ?fn17 (L2.bd ?a18 ?l18 ?c18 ?k18) ?a19 (L2.cO ?l19 ?c19 ?k19) ?fn19 (L2.bd ?a20 ?l20 ?c20 ?k20) (L2.bd ?a21 ?l21 ?c21 ?k21) (L2.bd ?a22 ?l22 ?c22 ?k22) ?a23 (L2.cO ?l23 ?c23 ?k23) ?fn23 (L2.bd ?a24 ?l24 ?c24 ?k24) ?tb_17 (L2.bd ?a25 ?l25 ?c25 ?k25) (L2.bd ?a26 ?l26 ?c26 ?k26) ?a27 (L2.cO ?l27 ?c27 ?k27) ?fn27 (L2.bd ?a28 ?l28 ?c28 ?k28) (L2.bd ?a29 ?l29 ?c29 ?k29) (L2.bd ?a30 ?l30 ?c30 ?k30) (L2.bd ?a31 ?l31 ?c31 ?k31) (L2.bd ?a32 ?l32 ?c32 ?k32) (L2.bd ?a33 ?l33 ?c33 ?k33) (L2.bd ?a34 ?l34 ?c34 ?k34) (L2.bd ?a35 ?l35 ?c35 ?k35) (L2.bd ?a36 ?l36 ?c36 ?k36) (L2.bd ?a37 ?l37 ?c37 ?k37) (L2.bd ?a38 ?l38 ?c38 ?k38) ?a39 (L2.cO ?l39 ?c39 ?k39) ?fn39 (L2.bd ?a40 ?l40 ?c40 ?k40) (L2.bd ?a41 ?l41 ?c41 ?k41) (L2.bd ?a42 ?l42 ?c42 ?k42) (L2.bd ?a43 ?l43 ?c43 ?k43) (L2.bd ?a44 ?l44 ?c44 ?k44) (L2.bd ?a45 ?l45 ?c45 ?k45) (L2.bd ?a46 ?l46 ?c46 ?k46) (L2.bd ?a47 ?l47 ?c47 ?k47) (L2.bd ?a48 ?l48 ?c48 ?k48) (L2.bd ?a49 ?l49 ?c49 ?k49) (L2.bd ?a50 ?l50 ?c50 ?k50) (L2.bd ?a51 ?l51 ?c51 ?k51) (L2.bd ?a52 ?l52 ?c52 ?k52) (L2.bd ?a53 ?l53 ?c53 ?k53) ?pg_Row ?hd_Row ?po_Row ?sa_Row ?na_Row_stamper ?na_Row_entries ?na_Row_tops ?pg_Spoken ?hd_Spoken ?po_Spoken ?sa_Spoken ?na_Spoken_answerer ?mk_Row ?kc_Row ?mk_Spoken ?kc_Spoken ?eo_StampError ?eo_Silent ?z_all ?z_bool ?z_int ?z_isinstance ?z_len ?z_list ?z_max ?z_min ?z_range ?z_reversed ?z_str ?z_tuple ?z_zip ?nt ?td
  case bo_Row | bo_Spoken | bc_StampError | bc_Silent | a0 | l0 | c0 | k0 | a1 | l1 | c1 | k1 | a2 | l2 | c2 | k2 | a3 | l3 | c3 | k3 | fn3 | a4 | l4 | c4 | k4 | fn4 | a5 | l5 | c5 | k5 | a6 | l6 | c6 | k6 | fn6 | a7 | l7 | c7 | k7 | fn7 | a8 | l8 | c8 | k8 | fn8 | a9 | l9 | c9 | k9 | fn9 | a10 | l10 | c10 | k10 | a11 | l11 | c11 | k11 | fn11 | a12 | l12 | c12 | k12 | a13 | l13 | c13 | k13 | fn13 | a14 | l14 | c14 | k14 | a15 | l15 | c15 | k15 => k_is
  case tb_24 => kernel_rfl
  case a16 | l16 | c16 | k16 | a17 | l17 | c17 | k17 | fn17 | a18 | l18 | c18 | k18 | a19 | l19 | c19 | k19 | fn19 | a20 | l20 | c20 | k20 | a21 | l21 | c21 | k21 | a22 | l22 | c22 | k22 | a23 | l23 | c23 | k23 | fn23 | a24 | l24 | c24 | k24 => k_is
  case tb_17 => kernel_rfl
  case a25 | l25 | c25 | k25 | a26 | l26 | c26 | k26 | a27 | l27 | c27 | k27 | fn27 | a28 | l28 | c28 | k28 | a29 | l29 | c29 | k29 | a30 | l30 | c30 | k30 | a31 | l31 | c31 | k31 | a32 | l32 | c32 | k32 | a33 | l33 | c33 | k33 | a34 | l34 | c34 | k34 | a35 | l35 | c35 | k35 | a36 | l36 | c36 | k36 | a37 | l37 | c37 | k37 | a38 | l38 | c38 | k38 | a39 | l39 | c39 | k39 | fn39 | a40 | l40 | c40 | k40 | a41 | l41 | c41 | k41 | a42 | l42 | c42 | k42 | a43 | l43 | c43 | k43 | a44 | l44 | c44 | k44 | a45 | l45 | c45 | k45 | a46 | l46 | c46 | k46 | a47 | l47 | c47 | k47 | a48 | l48 | c48 | k48 | a49 | l49 | c49 | k49 | a50 | l50 | c50 | k50 | a51 | l51 | c51 | k51 | a52 | l52 | c52 | k52 | a53 | l53 | c53 | k53 | pg_Row | hd_Row | po_Row | sa_Row | na_Row_stamper | na_Row_entries | na_Row_tops | pg_Spoken | hd_Spoken | po_Spoken | sa_Spoken | na_Spoken_answerer | mk_Row | kc_Row | mk_Spoken | kc_Spoken => k_is
  case eo_StampError | eo_Silent => k_exc
  case z_all | z_bool | z_int | z_isinstance | z_len | z_list | z_max | z_min | z_range | z_reversed | z_str | z_tuple | z_zip => k_is
  case nt | td => kernel_rfl
