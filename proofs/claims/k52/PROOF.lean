import PyProof.Rows.All
import Wide.All
import OpenK.AllK
import Wide.FinOn
import Lean
import PyProof.EqAt
import PyProof.EqKinds
import PyProof.TupleCall
import PyProof.P3In
import KE.KDictLaws
import KE.KTabLook
import KE.KRevIter
import KE.KItemsList
import PyProof.TupleOfGen
import KE.KSortTup
import KE.KDictSum
import KE.KEqDict
import PyProof.EnumMake
import PyProof.EnumFor
import PyProof.EnumStmt
import PyProof.AttrMissHeap
import KE.KDictOf
import PyProof.Rows.SortShell
import KE.KDictList
import PyProof.Rows.StrJoinRep
import PyProof.NeKinds
import PySem.Challenge.RW_rootstamp_k52_a_house_is_dicts
set_option Elab.async false
set_option linter.all false
set_option maxRecDepth 100000
set_option maxHeartbeats 4000000
open Array renaming getElem?_eq_getElem→Nf,length_toList→Nr,getElem?_toList→ND,getD_eq_getD_getElem?→NE,getElem?_eq_some_iff→OB,getElem?_setIfInBounds_ne→PK,all_eq_true→PL,toList→SL
open Bool renaming and_eq_true_iff→LO,false_ne_true→Mm,and_eq_true→Mz,false_eq_true→NW,eq_iff_iff→Ox,false_and→Qx,and_false→Qy,false_or→SK
open Classical renaming byContradiction→MB
open False renaming elim→Mq
open ForInStep renaming yield→Rq
open Int renaming eq_ofNat_of_zero_le→MK,emod_nonneg→NX,emod_lt_of_pos→NY,toNat_natCast→OW,one_mul→Pz,lt_trans→Qb,fdiv_eq_ediv_of_nonneg→Qw,toNat_of_nonneg→RH
open LawfulBEq renaming eq_of_beq→Sf
open LawfulMonad renaming pure_bind→Se
open List renaming mem_cons→gV,not_mem_nil→pz,length_map→LJ,getElem?_eq_getElem→LN,size_toArray→LP,getD_eq_getElem?_getD→LQ,mem_cons_of_mem→LS,getElem?_eq_some_iff→LX,mem_singleton→LZ,mem_of_getElem?→Ma,nodup_cons→Mc,mem_cons_self→Mg,length_append→Mi,getElem?_map→Ml,map_cons→Mo,mem_append_right→Mp,mem_append→Mu,append_nil→ME,filterMap_cons→MG,mem_map→MH,map_append→MI,nodup_nil→MN,map_map→MP,length_cons→MR,mem_append_left→MU,all_eq_true→Na,mem_iff_getElem?→Nc,lookup→Ng,length_eq_zero_iff→Nu,lookup_cons→Nw,range→Ny,find?_cons→NH,zip→NN,map_congr_left→NO,of_mem_zip→NV,mem_range→Oc,length_take→Om,getElem?_append_right→OD,getElem?_append_left→OK,pairwise_map→OT,pairwise_singleton→Pa,length_replicate→Pj,mem_filterMap→PC,any_cons→PD,map_nil→PX,getElem_mem→PY,getElem_inj→PZ,filter_cons→Qa,replicate→Qu,pairwise_iff_getElem→Qv,getElem?_take_of_lt→QD,sum_cons→QL,getElem?_replicate→QN,take_of_length_le→QU,getElem?_set_self→QV,toArray→Ra,lookup_cons_self→Rb,length_filter_le→Rc,getElem?_eq_none→Re,mem_of_mem_take→Rn,mem_iff_getElem→Ro,getElem?_set_ne→Rp,pairwise_cons→RF,getElem?_take→RG,take_sublist→RN,nodup_append→RO,find?_append→RP,take_length→Sb,length_drop→Sd,mem_filter→Sm,forIn_cons→Sn,take_succ→SE
open List.Pairwise renaming of_map→Ts,nil→Tt
open List.Sublist renaming cons_cons→MT
open Nat renaming le_refl→ah,lt_of_lt_of_le→LV,ne_of_lt→LY,zero_le→Md,le_trans→Mh,lt_of_le_of_lt→MJ,shiftRight_eq_div_pow→MO,lt_irrefl→MV,two_pow_pos→NJ,div_div_eq_div_mul→Ob,lt_or_ge→Oh,le_of_lt→Oi,le_of_eq→Oj,div_eq_of_lt→Oo,pow_le_pow_right→Ou,le_succ→OA,lt_succ_of_lt→OV,pow_add→Pe,div_lt_iff_lt_mul→Pp,lt_succ_self→Qe,log2_self_le→Qf,log2→Qi,div_add_mod→Qn,shiftRight_xor_distrib→Qs,mod_two_eq_zero_or_one→Qt,pow_lt_pow_iff_right→QK,log2_lt→RE,min_le_right→Sl,not_lt_zero→SD
open Ne renaming symm→Lt
open Option renaming isSome_iff_exists→Mr,map_some→Ot,map_eq_some_iff→OZ,isSome_map→Ru,getD_some→RC,getD_none→RD,none→SJ,map→Tr
open Option.some renaming inj→Me
open Or renaming inr→Sa
open Prod renaming ext→SI
open PyProof.Rows renaming slot_tuple_getitem→My,boot_isinstance→MA,callWith_type1→Oa,AllBare→Po,recsOf→Qh,boot_str→QJ,IntsAre→QR,sortedHeap_old→Rm,listUpdate_at→RB,subscriptTail_builtinR→RM,seqEpoch_at→Sx,entry_tuple_getitem→Sy,boot_sorted→Sz,args_tuple_getitem→SH,boot_tuple→Tp,IsTup→Tq
open PySem renaming Value→pv,wpAny_bind→tx,Shared→wr,FuncData→LM,wpAny_pure→LU,Program→Mf,wpAny_mono→Mj,Around→Mn,boot_len→Mv,World→Mx,sizeLine_eq→MF,mem_of_lookup→ML,wpAny_holding→Nh,wpAny_Call_Name_kw→Ni,NameKind→Nt,wpAny_truthy_bool→Nv,wpAny_call_entry→NC,tupleKind_room_in1→NK,wpAny_newObj_type→NL,codeAny_mono→Ov,wpAny_passesOwn→OL,wpAny_field→OM,wpAny_execs_nil→ON,call_meetsIn→OX,atKey_none_of_get→Pf,wpAny_callSpecial?_slot→Pl,ExceptHandler→Pn,wpAny_execs_cons→Pq,wpAny_loadPart'→Pw,Builtin→PV,PlainAttrs→Ql,IsPart→Qo,noFill_tuple_add→Qz,Within→QP,wpAny_newFunctionEnv_cells→QX,wpAny_call→Rr,wpAny_standAt→Rv,wpAny_newList→Rw,seq_tuple_add→Rx,call→Ry,BindsTo→RA,wpAny_typeOf→RQ,wpAny_notOrdered_dict→RS,seqIndex_neg→RT,concat_meets→RU,codeAny_call_function→RV,CmpOp→RZ,wpAny_newFunctionEnv→Sg,wpAny_isSubtype_exc→So,storedH_new→Sq,seqIndex_of→Sr,kt_meets_setdefault→Ss,PyData→SF,wpAny_sequenceKey→SM,wpAny_pyIter_list→SN,wpAny_loadPart_at→SO,wpAny_dictEntries→SQ,wpAny_assign_Name→SR,wpAny_Return_some→SU,wpAny_Name→SV,typeIs_str→SW,call_meets→SX
open PySem.Around renaming under→QG,frames_deeper→QQ
open PySem.Builtin renaming bitNot→Mt,bitAnd→MZ,bitXor→NZ
open PySem.Builtin.Dict renaming keyAndDefault→Py
open PySem.Builtin.Int renaming intBits→Mw
open PySem.Builtin.Range renaming rangeSize→To
open PySem.Builtin.Slice renaming slicePlaces→NB,sliceAdjust→Og,sliceApplied→Pu,slicePartIndex→Tl,sliceFields→Tn
open PySem.Builtin.Tuple renaming tupleExact→NG,tupleItemsOf→Pt,tupleIsExact→Tj
open PySem.Calls renaming Name_function_global→Oz,call_function_entry→OH,loadGlobal_global→QC,callWith_builtin→QF
open PySem.Code renaming isFrame→QZ
open PySem.EntryCells renaming newEntry→Qr
open PySem.EqMixed renaming eq_str_int→Td,eq_str_bool→Tf,eq_int_str→Tg,eq_bool_str→Th
open PySem.F renaming slot_dict_setdefault→MS,args_dict_setdefault_3→Nm,plainAttrs_dict→Nn,entry_dict_setdefault→Nq,slot_dict_get→NA,slot_list_append→NU,type_list_append→OF,args_tuple_add_2→OG,plainAttrs_list→OQ,entry_tuple_add→OR,slot_tuple_add→OU,type_dict_get→Pd,excBase_ValueError→Px,type_int_bit_length→PR,slot_int_bit_length→PU,slot_str_ascii_iterator_iter→Qg,args_dict_get_2→Qm,plainAttrs_int→Qp,entry_dict_get→Qq,slot_dict_pop→QB,slot_tuple_eq_refl→RL,slot_dict_len→Tc
open PySem.Heap renaming get?_push_of_some→If,lt_size→LR,get?_push_size→Mb,get?_update_other→MX,get?_update_self→Od,SameBut→Oe,size_push→OJ,get?_push_ne→RK,size_update→RY
open PySem.Heap.IsSliceOf renaming new→SG
open PySem.Heap.SameBut renaming update→OY
open PySem.IntMulOk renaming of_right→OC,of_left→Rl
open PySem.NameKind renaming free→Nk,cell→OI
open PySem.Obj renaming mapSeq→Nz,mapFields→Pc,data_mapFields→PJ,isFreed_of_fields→Rk,data_mapDictKeys→Rt
open PySem.PassesOwn renaming never→NM
open PySem.PyData renaming depthAll→Oq,canLayAll0→PB,strOk→Sw
open PySem.SeqAt.EqAt renaming int_int→Ps,str_int→PP,int_str→PQ,str_str→Sk
open PySem.SeqAt.RcNeAt renaming lists_lengths→RI,lists→RJ
open PySem.Str renaming empty→Nd,ofString→NS,length→RX,append_empty→Sj
open PySem.Txt renaming slice→Of
open PySem.Value renaming ref→LK,none→MM,bool→NI,str→Ow,type→OO,int→OP,float→Rj,isStrOf→Sv,isInt→Ta,bytes→Tb
open PySem.Value.type renaming inj→Ri
open PySem.W renaming Frag→cW,findIn→LL,mroIn→Ms,isFn→MC,mg_none_of→MQ,mg_of→MW,nsIn→Nb,hasDictIn→Nj,plainGet→Np,plainOver→Nx,keepIn→NF,kia_one→NQ,fnOf→NR,emptyDict→NT,hideAll_none→Ol,makesIn→On,kitOne→Oy,methodCall_KW→OE,CodeHd→OS,instObj→Pb,plainGet_of→Pg,hideAll_get→Ph,callWith_K→Pr,specialIn→PF,envX→PN,tabIn→Qc,excIn→Qd,cellsFrom_some→Qk,handedIn→QY,tabObj→Rf,noTabs→Rg,callWith_K0→Rh,of_hideAll→Rz,methodObj→RW,lookIn→Sh,codeIn→Si,takesIn→SY,takerIn→SZ
open Sum renaming inl→NP,inr→Qj
open Sum.inl renaming inj→PM
open True renaming intro→MY
namespace L2
open PySem PySem.Spec PyProof.Rows
abbrev Key:=Sum Int Str
def jz:Key→pv→Bool
 |.inl k,v=>Ta k v
 |.inr x,v=>Sv x v
def KO (w:Mx):Key→Int
 |.inl k=>hashInt k
 |.inr x=>hashStr w x
theorem cp:∀{k:Key}{v:pv},jz k v=true→(∃i t,k=NP i∧v=OP i t)∨(∃x t,k=Qj x∧v=Ow x t)
 |.inl i,v,h=>by
  obtain⟨t,e⟩:=Value.isInt_shape (k:=i) (v:=v) h
  exact .inl ⟨i,t,rfl,e⟩
 |.inr x,v,h=>by
  obtain⟨t,e⟩:=Value.isStrOf_shape (x:=x) (v:=v) h
  exact .inr ⟨x,t,rfl,e⟩
theorem tO (i:Int)(t:Tok):jz (.inl i) (.int i t)=true:=by simp[jz,Ta]
theorem um (x:Str)(t:Tok):jz (.inr x) (.str x t)=true:=by simp[jz,Sv]
theorem Bd (a b:Int):decide ((NP a:Key)=NP b)=(a==b):=by
 by_cases e:a=b
 ·subst e;simp
 ·have h:¬(NP a:Key)=NP b:=fun q=>e (PM q)
  rw[decide_eq_false h]
  exact(beq_eq_false_iff_ne.mpr e).symm
theorem Cy (a b:Str):decide ((Qj a:Key)=Qj b)=decide (a=b):=by
 by_cases e:a=b
 ·subst e;simp
 ·have h:¬(Qj a:Key)=Qj b:=fun q=>e (Sum.inr.inj q)
  rw[decide_eq_false h,decide_eq_false e]
theorem DT (a:Int)(b:Str):decide ((NP a:Key)=Qj b)=false:=decide_eq_false (fun q=>nomatch q)
theorem AN (a:Str)(b:Int):decide ((Qj a:Key)=NP b)=false:=decide_eq_false (fun q=>nomatch q)
def bK (prog:Mf)(w:Mx):PySem.KeyKind prog w Key where
 is:=jz
 hash:=KO w
 inj:=fun v a b ha hb=>by
  rcases cp ha with⟨i,t,rfl,rfl⟩|⟨x,t,rfl,rfl⟩
  ·rcases cp hb with⟨j,u,rfl,e⟩|⟨y,u,rfl,e⟩
   ·injection e with e1 _;rw[e1]
   ·exact nomatch e
  ·rcases cp hb with⟨j,u,rfl,e⟩|⟨y,u,rfl,e⟩
   ·exact nomatch e
   ·injection e with e1 _;rw[e1]
 byValue:=fun k v h=>by
  rcases cp h with⟨i,t,rfl,rfl⟩|⟨x,t,rfl,rfl⟩<;>rfl
 pyHash:=fun hv h=>by
  rcases cp hv with⟨i,t,rfl,rfl⟩|⟨x,t,rfl,rfl⟩
  ·exact wpAny_pyHash_int h
  ·exact wpAny_pyHash_str h
 eqBool:=fun hu hv h=>by
  rcases cp hu with⟨i,t,rfl,rfl⟩|⟨x,t,rfl,rfl⟩
  ·rcases cp hv with⟨j,u,rfl,rfl⟩|⟨y,u,rfl,rfl⟩
   ·rw[Bd]at h;exact wpAny_eqBool_int h
   ·rw[DT]at h;exact PQ i t y u _ _ _ _ h
  ·rcases cp hv with⟨j,u,rfl,rfl⟩|⟨y,u,rfl,rfl⟩
   ·rw[AN]at h;exact PP x t j u _ _ _ _ h
   ·rw[Cy]at h;exact wpAny_eqBool_str h
 «strs»:=fun k x t v h=>by
  rcases cp h with⟨i,u,rfl,e⟩|⟨y,u,rfl,e⟩
  ·exact nomatch e
  ·injection e with e1 _
   subst e1
   cases v<;>rfl
theorem qy (prog:Mf)(w:Mx)(i:Int)(t:Tok):(bK prog w).is (.inl i) (.int i t)=true:=tO i t
theorem qm (prog:Mf)(w:Mx)(x:Str)(t:Tok):(bK prog w).is (.inr x) (.str x t)=true:=um x t
inductive V where
 |non|bl (b:Bool)|int (i:Int)|str (x:Str)|byt (b:Array UInt8)|flt (b:UInt64)|ref (a:Addr)|ty (n:String)
 deriving DecidableEq
def aJ:V→pv→Prop
 |.non,u=>u=MM
 |.bl b,u=>u=NI b
 |.int i,u=>∃t,u=OP i t
 |.str x,u=>∃t,u=Ow x t
 |.byt b,u=>∃t,u=Tb b t
 |.flt b,u=>∃t,u=Rj b t
 |.ref a,u=>u=LK a
 |.ty n,u=>u=OO n
abbrev aW:List V→List pv→Prop:=Paired aJ
theorem aW.length {xs:List V}{us:List pv}(r:aW xs us):xs.length=us.length:=Paired.length r
theorem aW.get:∀{xs:List V}{us:List pv}{i:Nat}{x:V},aW xs us→xs[i]? =some x→∃u,us[i]? =some u∧aJ x u
 |_,_,_,_,.nil,e=>by simp at e
 |_,_,0,_,.cons r _,e=>by simp at e;subst e;exact⟨_,rfl,r⟩
 |_,_,i+1,x,.cons _ t,e=>by
  obtain⟨u,h1,h2⟩:=aW.get (i:=i) (x:=x) t (by simpa using e)
  exact⟨u,by simpa using h1,h2⟩
theorem aW.set {x:V}{u:pv}(r:aJ x u):∀{xs:List V}{us:List pv}(i:Nat),aW xs us→aW (xs.set i x) (us.set i u)
 |_,_,_,.nil=>.nil
 |_,_,0,.cons _ t=>.cons r t
 |_,_,i+1,.cons q t=>.cons q (aW.set r i t)
theorem aW.append:∀{xs ys:List V}{us ws:List pv},aW xs us→aW ys ws→aW (xs++ys) (us++ws)
 |_,_,_,_,.nil,s=>s
 |_,_,_,_,.cons r t,s=>.cons r (aW.append t s)
theorem aW.take:∀{xs:List V}{us:List pv}(n:Nat),aW xs us→aW (xs.take n) (us.take n)
 |_,_,0,_=>.nil
 |_,_,_+1,.nil=>.nil
 |_,_,n+1,.cons r t=>.cons r (aW.take n t)
theorem aW.drop:∀{xs:List V}{us:List pv}(n:Nat),aW xs us→aW (xs.drop n) (us.drop n)
 |_,_,0,r=>r
 |_,_,_+1,.nil=>.nil
 |_,_,n+1,.cons _ t=>aW.drop n t
def cX:Option V→Option pv→Prop
 |some v,some u=>aJ v u
 |none,none=>True
 |_,_=>False
def KV {κ:Type}:List (κ×V)→List (κ×pv)→Prop:=Paired fun(p:κ×V)(q:κ×pv)=>p.1=q.1∧aJ p.2 q.2
def kV:Key→V
 |.inl i=>.int i
 |.inr x=>.str x
inductive HO where
 |lst (xs:List V)
 |tup (xs:List V)
 |dK (kvs:List (Key×V))|dT (kvs:List (List Key×V))
 |set (S:Int→Bool) (n:Nat)
 |ins (C dx:Addr) (fs:List (Str×V))
 |own (x:Addr)
 |xd (fs:List (Str×V))
 |met (f x:Addr)
 |rng (lo hi:Int)
 |frz (o:Obj) (u:HO)
 |tbl (ps:Array pv)
 |ext (φ:Heap→Prop)
abbrev Hp:=Addr→Option HO
def upd (H:Hp)(a:Addr)(o:HO):Hp:=fun b=>if b=a then some o else H b
theorem aj {H:Hp}{a:Addr}{o:HO}:upd H a o a=some o:=by unfold upd;rw[if_pos rfl]
theorem ao {H:Hp}{a b:Addr}{o:HO}(h:b≠a):upd H a o b=H b:=by unfold upd;rw[if_neg h]
theorem eV {H:Hp}{a:Addr}{o u:HO}:upd (upd H a o) a u=upd H a u:=by
 funext b;unfold upd;split<;>rfl
theorem bA {H:Hp}{a b:Addr}{o u:HO}(h:H a=some o)(h':H b=some u)(d:o≠u):a≠b:=by
 intro e;subst e;rw[h]at h';exact d (Me h')
theorem ag {H:Hp}{a b:Addr}{o:HO}(h:H a=some o)(h':H b=none):a≠b:=by
 intro e;subst e;rw[h]at h';cases h'
section
variable (P:Mf)(w:Mx)
def bh (H:Hp)(h:Heap)(a:Addr):HO→Prop
 |.lst xs=>xs.length≤sizeLine∧∃(its:List pv)(n:Nat),aW xs its∧h.get? a=some {cls:=.type "list",data:=.seq its.toArray n}
 |.tup xs=>xs.length≤sizeLine∧∃its:List pv,aW xs its∧Tq h a its.toArray
 |.dK kvs=>kvs.length≤sizeLine∧(a==sysModules)=false∧∃vs,KV kvs vs∧h.DictOf (bK P w) a vs
 |.dT kvs=>kvs.length≤sizeLine∧(a==sysModules)=false∧∃xs:List (List Key×Addr×pv),
  Paired (fun(p:List Key×V)(q:List Key×Addr×pv)=>p.1=q.1∧H q.2.1=some (.tup (p.1.map kV))∧aJ p.2 q.2.2) kvs xs∧
  ∃o es ep,h.get? a=some o∧o.ExactDict∧o.data=.dict es ep∧es.toList=xs.map (entryOfKey (tupleKind (bK P w)))∧(xs.map (·.1)).Nodup
 |.set S n=>h.SetOf (intKind P w) a S n
 |.ins C dx fs=>H dx=some (.own a)∧fs.length≤1000∧dx≠a∧h.get? a=some (Pb C dx)∧
  ∃mA,h.Ns1 dx mA∧(∀f,cX (fs.lookup f) (mA f))∧QP mA (fs.map (·.1))
 |.own _=>∃o,h.get? a=some o
 |.xd fs=>∃mA,h.Ns1 a mA∧∀f,cX (fs.lookup f) (mA f)
 |.rng lo hi=>∃t u v,h.get? a=some {cls:=.type "range",data:=.fields #[.int lo t,.int hi u,.int 1 v]}
 |.frz o u=>h.get? a=some o∧bh H h a u
 |.tbl ps=>h.get? a=some {cls:=.none,data:=.fields ps}
 |.met f x=>h.get? a=some (RW (.ref f) (.ref x))
 |.ext φ=>φ h∧(∃o,h.get? a=some o)∧∀h1 h2:Heap,φ h1→(∀o,h1.get? a=some o→h2.get? a=some o)→φ h2
def HOk (H:Hp)(h:Heap):Prop:=∀a o,H a=some o→bh P w H h a o
end
section
variable {P:Mf}{w:Mx}{H H':Hp}{h h':Heap}{a:Addr}{o:HO}
theorem bh.lt (x:bh P w H h a o):a<h.objs.size:=by
 cases o with
 |lst xs=>obtain⟨_,_,_,_,e⟩:=x;exact LR e
 |tup xs=>obtain⟨_,_,_,p⟩:=x;exact p.lt
 |dK kvs=>obtain⟨_,_,_,_,o,_,_,e,_⟩:=x;exact LR e
 |dT kvs=>obtain⟨_,_,_,_,o,_,_,e,_⟩:=x;exact LR e
 |set S n=>obtain⟨o,_,_,_,e,_⟩:=x;exact LR e
 |ins C dx fs=>obtain⟨_,_,_,e,_⟩:=x;exact LR e
 |own y=>obtain⟨_,e⟩:=x;exact LR e
 |xd fs=>obtain⟨_,⟨_,_,_,e,_⟩,_⟩:=x;exact LR e
 |rng lo hi=>obtain⟨_,_,_,e⟩:=x;exact LR e
 |frz ob u=>obtain⟨e,_⟩:=x;exact LR e
 |tbl ps=>exact LR (show h.get? a=some _ from x)
 |met f y=>exact LR (show h.get? a=some _ from x)
 |ext φ=>obtain⟨_,⟨_,e⟩,_⟩:=x;exact LR e
theorem Paired.mapP {α β:Type}{F G:α→β→Prop}:∀{l₁:List α}{l₂:List β},Paired F l₁ l₂→(∀a b,F a b→G a b)→Paired G l₁ l₂
 |_,_,.nil,_=>.nil
 |_,_,.cons r t,f=>.cons (f _ _ r) (Paired.mapP t f)
theorem bh.stay (x:bh P w H h a o)(k:∀b u,(b=a∨H b=some (.own a))→h.get? b=some u→h'.get? b=some u)
  (ho:∀b,H b=some (.own a)→H' b=some (.own a))(ht:∀b xs,H b=some (.tup xs)→H' b=some (.tup xs)):bh P w H' h' a o:=by
 induction o with
 |lst xs=>obtain⟨z,its,n,r,e⟩:=x;exact⟨z,its,n,r,k _ _ (.inl rfl) e⟩
 |tup xs=>obtain⟨z,its,r,ob,e,c⟩:=x;exact⟨z,its,r,ob,k _ _ (.inl rfl) e,c⟩
 |dK kvs=>obtain⟨z,y,vs,r,ob,es,ep,e,c⟩:=x;exact⟨z,y,vs,r,ob,es,ep,k _ _ (.inl rfl) e,c⟩
 |dT kvs=>
  obtain⟨z,y,xs,r,ob,es,ep,e,c⟩:=x
  exact⟨z,y,xs,Paired.mapP r fun p q z=>⟨z.1,ht _ _ z.2.1,z.2.2⟩,ob,es,ep,k _ _ (.inl rfl) e,c⟩
 |set S n=>obtain⟨ob,es,ep,t,e,c⟩:=x;exact⟨ob,es,ep,t,k _ _ (.inl rfl) e,c⟩
 |ins C dx fs=>
  obtain⟨d,z,ne,e,mA,⟨od,es,ep,e2,c⟩,r⟩:=x
  exact⟨ho _ d,z,ne,k _ _ (.inl rfl) e,mA,⟨od,es,ep,k _ _ (.inr d) e2,c⟩,r⟩
 |own y=>obtain⟨ob,e⟩:=x;exact⟨ob,k _ _ (.inl rfl) e⟩
 |xd fs=>obtain⟨mA,⟨od,es,ep,e,c⟩,r⟩:=x;exact⟨mA,⟨od,es,ep,k _ _ (.inl rfl) e,c⟩,r⟩
 |rng lo hi=>obtain⟨t,u,v,e⟩:=x;exact⟨t,u,v,k _ _ (.inl rfl) e⟩
 |frz ob u ih=>obtain⟨e,q⟩:=x;exact⟨k _ _ (.inl rfl) e,ih q⟩
 |tbl ps=>
  have e:h.get? a=some {cls:=.none,data:=.fields ps}:=x
  show h'.get? a=some {cls:=.none,data:=.fields ps}
  exact k a _ (.inl rfl) e
 |met f y=>
  have e:h.get? a=some (RW (.ref f) (.ref y)):=x
  show h'.get? a=some (RW (.ref f) (.ref y))
  exact k a _ (.inl rfl) e
 |ext φ=>obtain⟨p,⟨o,e⟩,st⟩:=x;exact⟨st _ _ p fun o q=>k _ _ (.inl rfl) q,⟨o,k _ _ (.inl rfl) e⟩,st⟩
theorem HOk.lt (x:HOk P w H h)(e:H a=some o):a<h.objs.size:=(x a o e).lt
theorem HOk.fresh (x:HOk P w H h)(e:h.objs.size≤a):H a=none:=by
 cases q:H a with
 |none=>rfl
 |some u=>exact absurd (LV (x.lt q) e) (MV _)
theorem HOk.kept (x:HOk P w H h)(k:∀b u,h.get? b=some u→h'.get? b=some u):HOk P w H h':=fun a o e=>
 (x a o e).stay (fun b u _ q=>k b u q) (fun _ q=>q) fun _ _ q=>q
theorem HOk.laid (x:HOk P w H h)(k:∀b u,h.get? b=some u→h'.get? b=some u)(hp:h.objs.size≤a)(new:bh P w (upd H a o) h' a o):HOk P w (upd H a o) h':=fun b u e=>by
 have hn:=x.fresh hp
 by_cases hb:b=a
 ·subst hb;rw[aj]at e;cases e;exact new
 ·rw[ao hb]at e
  exact(x b u e).stay (fun c v _ q=>k c v q) (fun c q=>by rw[ao (ag q hn)];exact q) fun c xs q=>by rw[ao (ag q hn)];exact q
end
def Rd (H:Hp)(a:Addr)(u:HO):Prop:=H a=some u∨∃o,H a=some (.frz o u)
theorem Rd.ok {P:Mf}{w:Mx}{H:Hp}{h:Heap}{a:Addr}{u:HO}(r:Rd H a u)(x:HOk P w H h):bh P w H h a u:=by
 rcases r with r|⟨o,r⟩
 ·exact x a u r
 ·obtain⟨_,q⟩:=x a _ r
  exact q
def Mut:Option HO→Prop
 |some (.lst _)=>True
 |some (.dK _)=>True
 |some (.dT _)=>True
 |some (.set _ _)=>True
 |some (.ins _ _ _)=>True
 |some (.ext _)=>True
 |_=>False
section
variable {P:Mf}{w:Mx}{H:Hp}{h h':Heap}{x e:Addr}{o':HO}
theorem HOk.write (ok:HOk P w H h)(mu:Mut (H x))(he:e=x∨H e=some (.own x))(k:∀b u,b≠e→h.get? b=some u→h'.get? b=some u)(heo:∃u,h'.get? e=some u)
  (new:bh P w (upd H x o') h' x o'):HOk P w (upd H x o') h':=fun b u q=>by
 have nown:∀c y,H c=some (.own y)→c≠x:=fun c y r z=>by subst z;rw[r]at mu;exact mu
 have ntup:∀c xs,H c=some (.tup xs)→c≠x:=fun c xs r z=>by subst z;rw[r]at mu;exact mu
 by_cases hb:b=x
 ·subst hb;rw[aj]at q;cases q;exact new
 ·rw[ao hb]at q
  by_cases hbe:b=e
  ·have q':H b=some (.own x):=by
    rcases he with z|z
    ·exact absurd (hbe.trans z) hb
    ·rw[hbe];exact z
   rw[q]at q';cases q'
   obtain⟨v,hv⟩:=heo
   exact⟨v,by rw[hbe];exact hv⟩
  ·refine(ok b u q).stay (fun c v hc r=>k c v ?_ r) (fun c r=>by rw[ao (nown c b r)];exact r) fun c xs r=>by rw[ao (ntup c xs r)];exact r
   rcases hc with rfl|hc
   ·exact hbe
   ·rintro rfl
    rcases he with z|z
    ·exact nown c b hc z
    ·rw[hc]at z;cases z;exact hb rfl
end
structure Un (fs ex:List Addr)(H H':Hp)(h h':Heap):Prop where
 keep:∀b o,h.get? b=some o→H b=none→b∉fs→b∉ex→h'.get? b=some o
 slot:∀b o,h.get? b=some o→H b=none→b∈fs→b∉ex→∃sl,h'.get? b=some {o with slots:=sl}
 free:∀b o,h.get? b=some o→H b=none→b∉ex→H' b=none
 there:∀b o,h.get? b=some o→b∉ex→∃o',h'.get? b=some o'
 tups:∀b xs,H b=some (.tup xs)→H' b=some (.tup xs)
 frzs:∀b o u,H b=some (.frz o u)→H' b=some (.frz o u)
 tbls:∀b ps,H b=some (.tbl ps)→∃more,H' b=some (.tbl (ps++more))
section
variable {fs fs' ex ex':List Addr}{H H1 H2:Hp}{h h1 h2 h':Heap}{a x e:Addr}{o:HO}
theorem Un.any (u:Un fs ex H H1 h h1){b:Addr}{ob:Obj}(q:h.get? b=some ob)(n:H b=none)(hx:b∉ex):∃sl,h1.get? b=some {ob with slots:=sl}:=by
 by_cases hb:b∈fs
 ·exact u.slot b ob q n hb hx
 ·exact⟨ob.slots,u.keep b ob q n hb hx⟩
theorem Un.kept (k:∀b u,h.get? b=some u→h'.get? b=some u):Un fs ex H H h h':=
 ⟨fun b ob q _ _ _=>k b ob q,fun b ob q _ _ _=>⟨ob.slots,k b ob q⟩,fun _ _ _ n _=>n,fun b ob q _=>⟨ob,k b ob q⟩,fun _ _ q=>q,fun _ _ _ q=>q,fun _ ps q=>⟨#[],by rw[q];simp⟩⟩
theorem Un.refl:Un fs ex H H h h:=Un.kept fun _ _ q=>q
theorem Un.laid (k:∀b u,h.get? b=some u→h'.get? b=some u)(hp:h.objs.size≤a)(hn:H a=none):Un fs ex H (upd H a o) h h' where
 keep:=fun b u q _ _ _=>k b u q
 slot:=fun b u q _ _ _=>⟨u.slots,k b u q⟩
 free:=fun b u q n _=>by rw[ao (LY (LV (LR q) hp))];exact n
 there:=fun b u q _=>⟨u,k b u q⟩
 tups:=fun b xs q=>by rw[ao (ag q hn)];exact q
 frzs:=fun b u xs q=>by rw[ao (ag q hn)];exact q
 tbls:=fun b ps q=>⟨#[],by rw[ao (ag q hn),q];simp⟩
theorem Un.write (mu:Mut (H x))(he:e=x∨H e=some (.own x))(k:∀b u,b≠e→h.get? b=some u→h'.get? b=some u)(heo:∃u,h'.get? e=some u):Un fs ex H (upd H x o) h h':=by
 have hx:∀b,H b=none→b≠x:=fun b n z=>by subst z;rw[n]at mu;exact mu
 have hb:∀b,H b=none→b≠e:=fun b n z=>by
  subst z
  rcases he with r|r
  ·exact hx b n r
  ·rw[n]at r;cases r
 have hm:∀b u,H b=some u→¬Mut (some u)→b≠x:=fun b u q nm z=>by subst z;rw[q]at mu;exact nm mu
 refine⟨fun b u q n _ _=>k b u (hb b n) q,fun b u q n _ _=>⟨u.slots,k b u (hb b n) q⟩,fun b u q n _=>by rw[ao (hx b n)];exact n,fun b u q _=>?_,
  fun b xs q=>by rw[ao (hm b _ q fun z=>z)];exact q,fun b u xs q=>by rw[ao (hm b _ q fun z=>z)];exact q,fun b ps q=>⟨#[],by rw[ao (hm b _ q fun z=>z),q];simp⟩⟩
 by_cases hbe:b=e
 ·subst hbe;exact heo
 ·exact⟨u,k b u hbe q⟩
end
def trk (h:Heap)(H:Hp):List Addr:=(Ny h.objs.size).filter fun a=>(H a).isSome
def gd (h:Heap)(H:Hp):Heap:=W.hideAll h (trk h H)
theorem uq (h:Heap)(H:Hp):(gd h H).objs.size=h.objs.size:=W.hideAll_size _ _
theorem wM {h:Heap}{H:Hp}{b:Addr}{o:Obj}(e:h.get? b=some o)(n:H b=none):(gd h H).get? b=some o:=
 Ph _ e fun hm=>by
  have q:(H b).isSome=true:=(Sm.mp hm).2
  rw[n]at q;simp at q
theorem AF {h:Heap}{H:Hp}{b:Addr}{o:Obj}(e:(gd h H).get? b=some o):h.get? b=some o∧H b=none:=by
 have e':h.get? b=some o:=Rz (trk h H) e
 refine⟨e',?_⟩
 cases q:H b with
 |none=>rfl
 |some x=>
  have hm:b∈trk h H:=Sm.mpr ⟨Oc.mpr (LR e'),by simp[q]⟩
  have z:(gd h H).get? b=none:=Ol (trk h H) hm
  rw[z]at e;cases e
def Ag (g h:Heap)(L:Addr):List (Addr×Obj):=(Ny h.objs.size).filterMap fun a=>if a=L∨(g.get? a).isSome=true then none else(h.get? a).map fun o=>(a,o)
def dA (g h:Heap)(L d:Addr):List (Addr×Obj):=(Ag g h L).filter fun p=>decide (p.1≠d)
structure Mod (K:cW)(mg:Str→Option pv)(base:Heap):Prop where
 kin:K.In base
 glob:base.Ns mainGlobals mg
 blt:∃mb,base.Ns builtinsNs mb∧∀x:Str,x≠"__name__"→mb x=bootBuiltins x
 nolimit:base.NoLimit
set_option genInjectivity false in
set_option genSizeOf false in
structure Cx where
 prog:Mf
 w:Mx
 K:cW
 mg:Str→Option pv
 base:Heap
 A:Mn
 N:List Str
 s₀:wr
 H₀:Hp
 env:Env
 outer:List Env
 stack:List Env
 ex:List Addr
 fn:Str→Bool
 calm:Bool
 pn:List (Addr×Obj)
 xe:pv→wr→Prop
def frs (l:List Env):List Addr:=l.filterMap (·.frame)
abbrev Cx.fs (X:Cx):List Addr:=frs X.outer
def Vis (sc:Scope)(x:Str):Prop:=sc.names.lookup x=some .local∨sc.names.lookup x=some .cell∨sc.names.lookup x=some .free
def Loc (sc:Scope)(x:Str):Prop:=sc.names.lookup x=some .local∨sc.names.lookup x=some .cell
def Bt (env:Env)(h:Heap)(m:Str→Option pv)(x:Str)(u:pv):Prop:=
 (env.kindOf x=some .local∧m x=some u)∨((env.kindOf x=some .cell∨env.kindOf x=some .free)∧∃c,env.cells.lookup x=some c∧h.IsCell c (some u))
set_option genInjectivity false in
set_option genSizeOf false in
structure Cx.Ok (X:Cx):Prop where
 mod:Mod X.K X.mg X.base
 kind:X.env.scope.kind=.function
 glob:X.env.globals=mainGlobals
 blt:X.env.builtins=builtinsNs
 above:X.s₀.heap.objs.size≤X.env.locals
 inj:∀x y c,X.env.cells.lookup x=some c→X.env.cells.lookup y=some c→x=y
 has:∀x,(X.env.kindOf x=some .cell∨X.env.kindOf x=some .free)→∃c,X.env.cells.lookup x=some c
 cab:∀x c,X.fn x=true→X.env.cells.lookup x=some c→X.s₀.heap.objs.size≤c
 hd:X.calm=true→X.A.handled=none
 frames:X.A.frames=some X.stack
 stk:X.stack=X.outer∨(X.stack=X.env::X.outer∧X.env.frame=some X.env.locals)
 exf:∀b∈X.ex,b≠X.env.locals∧∀x c,X.env.cells.lookup x=some c→c≠b
 bs:∀b o,X.base.get? b=some o→X.s₀.heap.get? b=some o∧X.H₀ b=none
 bsz:X.base.objs.size≤X.s₀.heap.objs.size
 noex:∀b o,X.base.get? b=some o→b∉X.ex
 exfs:∀b∈X.ex,b∉X.fs
 funs:X.s₀.heap.FunFrames X.base X.outer
 frf:∀b∈X.fs,X.H₀ b=none
structure Inv (X:Cx)(pins:List (Addr×Obj))(σ:List (Option V))(H:Hp)(s:wr):Prop where
 ok:X.Ok
 os:s.os=X.s₀.os
 bare:Po s.gens
 base:Un X.fs X.ex X.H₀ H X.s₀.heap s.heap
 loc:∃m,s.heap.Ns X.env.locals m∧∀(i:Nat)(x:Str)(v:V),X.N[i]?=some x→σ[i]?=some (some v)→Vis X.env.scope x→∃u,aJ v u∧Bt X.env s.heap m x u
 cell:∀x c,X.env.cells.lookup x=some c→∃v,s.heap.IsCell c v
 free:H X.env.locals=none
 freeC:∀x c,X.env.cells.lookup x=some c→H c=none
 pin:∀p∈X.pn++pins,s.heap.get? p.1=some p.2∧H p.1=none∧p.1≠X.env.locals∧p.1∉X.fs∧∀v,p.2.data≠.cell v
 hok:HOk X.prog X.w H s.heap
 len:σ.length=X.N.length
section
variable {X:Cx}{pins:List (Addr×Obj)}{σ:List (Option V)}{H H':Hp}{s:wr}{h':Heap}
theorem Cx.Ok.nofr (ok:X.Ok){b:Addr}{o:Obj}(e:X.base.get? b=some o):b∉X.fs:=fun hb=>by
 have:=(ok.funs.mem hb).1
 rw[e]at this;cases this
theorem Inv.bs (I:Inv X pins σ H s):∀b o,X.base.get? b=some o→s.heap.get? b=some o∧H b=none:=fun b o e=>
 ⟨I.base.keep b o (I.ok.bs b o e).1 (I.ok.bs b o e).2 (I.ok.nofr e) (I.ok.noex b o e),I.base.free b o (I.ok.bs b o e).1 (I.ok.bs b o e).2 (I.ok.noex b o e)⟩
theorem Inv.bk (I:Inv X pins σ H s):∀b o,X.base.get? b=some o→s.heap.get? b=some o:=fun b o e=>(I.bs b o e).1
theorem Inv.mod (I:Inv X pins σ H s):Mod X.K X.mg X.base:=I.ok.mod
theorem Inv.kIn (I:Inv X pins σ H s):X.K.In s.heap:=I.ok.mod.kin.keeps I.bk
theorem Inv.lt (I:Inv X pins σ H s):X.env.locals<s.heap.objs.size:=let ⟨_,hn,_⟩:=I.loc;hn.lt
theorem Inv.sz (I:Inv X pins σ H s):X.s₀.heap.objs.size≤s.heap.objs.size:=Mh I.ok.above (Oi I.lt)
theorem Inv.nofs (I:Inv X pins σ H s){a:Addr}(h:s.heap.objs.size≤a):a∉X.fs:=fun hb=>by
 obtain⟨_,o,ho,_⟩:=I.ok.funs.mem hb
 exact absurd (LV (LR ho) (Mh I.sz h)) (MV _)
theorem Inv.cne (I:Inv X pins σ H s):∀x c,X.env.cells.lookup x=some c→c≠X.env.locals:=fun x c e z=>by
 obtain⟨v,o,ho,hd⟩:=I.cell x c e
 obtain⟨m,⟨o',es,ep,ho',hd',_⟩,_⟩:=I.loc
 rw[z,ho']at ho;cases ho;rw[hd']at hd;cases hd
theorem Inv.funs (I:Inv X pins σ H s):s.heap.FunFrames X.base X.outer:=by
 have all:∀(l:List Env),(∀b∈frs l,b∈X.fs)→X.s₀.heap.FunFrames X.base l→s.heap.FunFrames X.base l:=by
  intro l
  induction l with
  |nil=>intro _ _;trivial
  |cons env r ih=>
   intro hs hl
   obtain⟨hk,⟨L,o,hf,hn,ho,hd⟩,hr⟩:=hl
   have hL:L∈X.fs:=hs L (by unfold frs;rw[MG,hf];exact Mg)
   obtain⟨sl,e⟩:=I.base.slot L o ho (I.ok.frf L hL) hL fun z=>I.ok.exfs L z hL
   exact⟨hk,⟨L,_,hf,hn,e,hd⟩,ih (fun b hb=>hs b (by unfold frs;rw[MG,hf];exact LS _ hb)) hr⟩
 exact all X.outer (fun _ hb=>hb) I.ok.funs
theorem Inv.stack (I:Inv X pins σ H s):s.heap.FunFrames X.base X.stack:=by
 rcases I.ok.stk with e|⟨e,hf⟩
 ·rw[e];exact I.funs
 ·rw[e]
  obtain⟨m,hn,_⟩:=I.loc
  refine .cons (by rw[I.ok.kind];decide) hf hn ?_ I.funs
  exact Heap.get?_none_of_le (Mh I.ok.bsz I.ok.above)
theorem Inv.stkSub (I:Inv X pins σ H s):∀b∈frs X.stack,b∈X.env.locals::X.fs:=fun b hb=>by
 rcases I.ok.stk with e|⟨e,hf⟩
 ·rw[e]at hb;exact LS _ hb
 ·rw[e]at hb
  unfold frs at hb
  rw[MG,hf]at hb
  exact hb
theorem Inv.stkFree (I:Inv X pins σ H s):∀b∈frs X.stack,H b=none:=fun b hb=>by
 rcases gV.mp (I.stkSub b hb)with e|hb
 ·rw[e];exact I.free
 ·obtain⟨_,o,ho,_⟩:=I.ok.funs.mem hb
  exact I.base.free b o ho (I.ok.frf b hb) fun z=>I.ok.exfs b z hb
theorem Inv.step {g':Array GenState}{t':Nat}{d':Drawn}{ch:List Addr}(I:Inv X pins σ H s)
  (hch:∀b∈ch,(b∈X.ex∨X.s₀.heap.objs.size≤b)∧b≠X.env.locals∧(∀x c,X.env.cells.lookup x=some c→c≠b)∧∀p∈X.pn++pins,p.1≠b)
  (keep:∀b o,b≠X.env.locals→b∉X.fs→b∉ch→s.heap.get? b=some o→H b=none→h'.get? b=some o)
  (slot:∀b o,b≠X.env.locals→b∈X.fs→b∉ch→s.heap.get? b=some o→H b=none→∃sl,h'.get? b=some {o with slots:=sl})(free:∀b o,b∉ch→s.heap.get? b=some o→H b=none→H' b=none)
  (there:∀b o,b∉ch→s.heap.get? b=some o→∃o',h'.get? b=some o')
  (tups:∀b xs,H b=some (.tup xs)→H' b=some (.tup xs))(frzs:∀b o u,H b=some (.frz o u)→H' b=some (.frz o u))(tbls:∀b ps,H b=some (.tbl ps)→∃more,H' b=some (.tbl (ps++more)))
  (ns:∀m,s.heap.Ns X.env.locals m→h'.Ns X.env.locals m)(hok:HOk X.prog X.w H' h')(hg:Po g'):
  Inv X pins σ H' {s with heap:=h',gens:=g',drawn:=d',toks:=t'}:=by
 have neL:∀b o,X.s₀.heap.get? b=some o→b≠X.env.locals:=fun b o e=>LY (LV (LR e) I.ok.above)
 have neC:∀b o,X.s₀.heap.get? b=some o→b∉X.ex→b∉ch:=fun b o e hx hb=>by
  rcases(hch b hb).1 with z|z
  ·exact hx z
  ·exact absurd (LV (LR e) z) (MV _)
 have cellK:∀x c,X.env.cells.lookup x=some c→∀v,s.heap.IsCell c v→h'.IsCell c v:=fun x c e v ⟨o,ho,hd⟩=>by
  have nch:c∉ch:=fun z=>(hch c z).2.2.1 x c e rfl
  by_cases hc:c∈X.fs
  ·obtain⟨sl,q⟩:=slot c o (I.cne x c e) hc nch ho (I.freeC x c e)
   exact⟨_,q,hd⟩
  ·exact⟨o,keep c o (I.cne x c e) hc nch ho (I.freeC x c e),hd⟩
 refine⟨I.ok,I.os,hg,⟨fun b o e n hb hx=>?_,fun b o e n hb hx=>?_,fun b o e n hx=>?_,fun b o e hx=>?_,fun b xs e=>tups b xs (I.base.tups b xs e),fun b o xs e=>frzs b o xs (I.base.frzs b o xs e),fun b ps e=>?_⟩,?_,fun x c e=>?_,?_,fun x c e=>?_,fun p hp=>?_,hok,I.len⟩
 ·exact keep b o (neL b o e) hb (neC b o e hx) (I.base.keep b o e n hb hx) (I.base.free b o e n hx)
 ·obtain⟨sl,e1⟩:=I.base.slot b o e n hb hx
  obtain⟨sl',e2⟩:=slot b _ (neL b o e) hb (neC b o e hx) e1 (I.base.free b o e n hx)
  exact⟨sl',e2⟩
 ·obtain⟨o',e1⟩:=I.base.there b o e hx
  exact free b o' (neC b o e hx) e1 (I.base.free b o e n hx)
 ·obtain⟨o',e1⟩:=I.base.there b o e hx
  exact there b o' (neC b o e hx) e1
 ·obtain⟨m1,e1⟩:=I.base.tbls b ps e
  obtain⟨m2,e2⟩:=tbls b _ e1
  exact⟨m1++m2,by rw[e2,Array.append_assoc]⟩
 ·obtain⟨m,hn,hl⟩:=I.loc
  refine⟨m,ns m hn,fun i x v e1 e2 e3=>?_⟩
  obtain⟨u,r,l⟩:=hl i x v e1 e2 e3
  refine⟨u,r,?_⟩
  rcases l with l|⟨k,c,e,z⟩
  ·exact .inl l
  ·exact .inr ⟨k,c,e,cellK x c e _ z⟩
 ·obtain⟨v,z⟩:=I.cell x c e
  exact⟨v,cellK x c e v z⟩
 ·obtain⟨m,⟨o,_,_,ho,_⟩,_⟩:=I.loc
  exact free _ o (fun z=>(hch _ z).2.1 rfl) ho I.free
 ·obtain⟨v,o,ho,hd⟩:=I.cell x c e
  exact free c o (fun z=>(hch c z).2.2.1 x c e rfl) ho (I.freeC x c e)
 ·obtain⟨e,n,ne,nf,d⟩:=I.pin p hp
  have nch:p.1∉ch:=fun z=>(hch p.1 z).2.2.2 p hp rfl
  exact⟨keep p.1 p.2 ne nf nch e n,free p.1 p.2 nch e n,ne,nf,d⟩
theorem Inv.un {t':Nat}(I:Inv X pins σ H s)(u:Un X.fs [] H H' s.heap h')(hok:HOk X.prog X.w H' h'):Inv X pins σ H' {s with heap:=h',toks:=t'}:=by
 obtain⟨m,⟨o,es,ep,ho,r⟩,_⟩:=id I.loc
 obtain⟨sl,hL⟩:=u.any ho I.free (by simp)
 exact I.step (g':=s.gens) (d':=s.drawn) (ch:=[]) (fun _ z=>nomatch z) (fun b o _ hb _ e n=>u.keep b o e n hb (by simp)) (fun b o _ hb _ e n=>u.slot b o e n hb (by simp)) (fun b o _ e n=>u.free b o e n (by simp)) (fun b o _ e=>u.there b o e (by simp)) u.tups u.frzs u.tbls (fun m' hm=>by
  obtain⟨o',es',ep',ho',r'⟩:=hm
  rw[ho]at ho';cases ho'
  exact⟨_,es',ep',hL,r'⟩) hok I.bare
theorem Inv.call {g':Array GenState}{t':Nat}{d':Drawn}{ch:List Addr}(I:Inv X pins σ H s)(u:Un (frs X.stack) ch H H' s.heap h')(hok:HOk X.prog X.w H' h')(hg:Po g')
  (hch:∀b∈ch,(b∈X.ex∨X.s₀.heap.objs.size≤b)∧b≠X.env.locals∧(∀x c,X.env.cells.lookup x=some c→c≠b)∧∀p∈X.pn++pins,p.1≠b):
  Inv X pins σ H' {s with heap:=h',gens:=g',drawn:=d',toks:=t'}:=by
 obtain⟨m,⟨o,es,ep,ho,r⟩,_⟩:=id I.loc
 obtain⟨sl,hL⟩:=u.any ho I.free fun z=>(hch _ z).2.1 rfl
 exact I.step (ch:=ch) hch (fun b o hL hb hc e n=>u.keep b o e n (fun z=>(gV.mp (I.stkSub b z)).elim hL hb) hc) (fun b o _ _ hc e n=>u.any e n hc) (fun b o hc e n=>u.free b o e n hc) (fun b o hc e=>u.there b o e hc) u.tups u.frzs u.tbls (fun m' hm=>by
  obtain⟨o',es',ep',ho',r'⟩:=hm
  rw[ho]at ho';cases ho'
  exact⟨_,es',ep',hL,r'⟩) hok hg
theorem Inv.turned {t':Nat}{it:Addr}(I:Inv X pins σ H s)(k:∀b o,b≠it→s.heap.get? b=some o→h'.get? b=some o)(hn:H it=none)(hL:it≠X.env.locals)
  (h1:it∈X.ex∨X.s₀.heap.objs.size≤it)(h2:∀x c,X.env.cells.lookup x=some c→c≠it)(h3:∀p∈X.pn++pins,p.1≠it):Inv X pins σ H {s with heap:=h',toks:=t'}:=by
 have nit:∀b u,H b=some u→b≠it:=fun b u e z=>by rw[z,hn]at e;cases e
 refine I.step (g':=s.gens) (d':=s.drawn) (ch:=[it]) (fun b hb=>?_) (fun b o _ _ hc e _=>k b o (fun z=>hc (by simp[z])) e) (fun b o _ _ hc e _=>⟨o.slots,k b o (fun z=>hc (by simp[z])) e⟩) (fun _ _ _ _ n=>n)
  (fun b o hc e=>⟨o,k b o (fun z=>hc (by simp[z])) e⟩) (fun _ _ e=>e) (fun _ _ _ e=>e) (fun b ps e=>⟨#[],by rw[e];simp⟩) (fun m hm=>?_) (fun b u e=>?_) I.bare
 ·have e:b=it:=by simpa using hb
  subst e
  exact⟨h1,hL,h2,h3⟩
 ·obtain⟨o,es,ep,ho,r⟩:=hm
  exact⟨o,es,ep,k _ o (Lt hL) ho,r⟩
 ·refine(I.hok b u e).stay (fun c v hc q=>k c v ?_ q) (fun _ q=>q) fun _ _ q=>q
  rcases hc with z|z
  ·rw[z];exact nit b u e
  ·exact nit c _ z
theorem Inv.tok (I:Inv X pins σ H s)(t:Nat):Inv X pins σ H {s with toks:=t}:=I.un (h':=s.heap) (t':=t) Un.refl I.hok
theorem Inv.kept {t':Nat}(I:Inv X pins σ H s)(k:∀b u,s.heap.get? b=some u→h'.get? b=some u):Inv X pins σ H {s with heap:=h',toks:=t'}:=I.un (Un.kept k) (I.hok.kept k)
theorem Inv.laid {a:Addr}{o:HO}{t':Nat}(I:Inv X pins σ H s)(k:∀b u,s.heap.get? b=some u→h'.get? b=some u)(hp:s.heap.objs.size≤a)(new:bh X.prog X.w (upd H a o) h' a o):
 Inv X pins σ (upd H a o) {s with heap:=h',toks:=t'}:=I.un (Un.laid k hp (I.hok.fresh hp)) (I.hok.laid k hp new)
theorem Inv.write {x e:Addr}{o:HO}{t':Nat}(I:Inv X pins σ H s)(mu:Mut (H x))(he:e=x∨H e=some (.own x))(k:∀b u,b≠e→s.heap.get? b=some u→h'.get? b=some u)(heo:∃u,h'.get? e=some u)
 (new:bh X.prog X.w (upd H x o) h' x o):Inv X pins σ (upd H x o) {s with heap:=h',toks:=t'}:=I.un (Un.write mu he k heo) (I.hok.write mu he k heo new)
theorem Inv.pins_of {pins':List (Addr×Obj)}(I:Inv X pins σ H s)(h:∀p∈pins',s.heap.get? p.1=some p.2∧H p.1=none∧p.1≠X.env.locals∧p.1∉X.fs∧∀v,p.2.data≠.cell v):Inv X pins' σ H s:=
 ⟨I.ok,I.os,I.bare,I.base,I.loc,I.cell,I.free,I.freeC,fun p hp=>(Mu.mp hp).elim (fun z=>I.pin p (MU _ z)) (h p),I.hok,I.len⟩
theorem pP {N:List Str}(hN:N.Nodup){i j:Nat}{x:Str}(a:N[i]?=some x)(b:N[j]?=some x):i=j:=by
 obtain⟨h1,e1⟩:=LX.mp a
 obtain⟨h2,e2⟩:=LX.mp b
 exact(PZ hN).mp (e1.trans e2.symm)
theorem ue {M:Model}{A:Mn}{E:pv→wr→Prop}{i:Nat}{x:Str}{v:V}{u:pv}{Q:Unit→wr→Prop}(I:Inv X pins σ H s)(hN:X.N.Nodup)(hi:X.N[i]?=some x)(hx:Loc X.env.scope x)(r:aJ v u)
  (h:∀s',Inv X pins (σ.set i (some v)) H s'→(∃a,Oe a s.heap s'.heap∧(a=X.env.locals∨X.env.cells.lookup x=some a))→Q () s')(hf:X.fn x=true∨X.env.scope.names.lookup x=some .local:=by first|exact .inl rfl|exact .inr rfl|assumption):wpAny M A (storeName X.env x u) Q E s:=by
 obtain⟨m,hn,hl⟩:=id I.loc
 have hcls:(X.env.scope.kind==.class||(X.env.scope.kind==.module&&X.env.locals !=X.env.globals))=false:=by rw[I.ok.kind];rfl
 have hiσ:i<σ.length:=by rw[I.len];exact(LX.mp hi).1
 have cne:=I.cne
 have tracked:∀{a:Addr}{h':Heap},(∃o,s.heap.get? a=some o∧H a=none)→Oe a s.heap h'→HOk X.prog X.w H h':=fun{a h'} ha hs b ob e=>by
  obtain⟨_,_,hfree⟩:=ha
  refine(I.hok b ob e).stay (fun c w' hc q=>(hs.2 c ?_).trans q) (fun _ q=>q) fun _ _ q=>q
  rintro rfl
  rcases hc with rfl|hc
  ·rw[hfree]at e;cases e
  ·rw[hfree]at hc;cases hc
 rcases hx with hk|hk
 ·refine wpAny_storeName_local hk hn (fun h' hn' hs=>?_) hcls
  obtain⟨oL,_,_,hoL,_⟩:=id hn
  refine h _ ⟨I.ok,I.os,I.bare,⟨fun b o e n hb hx=>?_,fun b o e n hb hx=>?_,I.base.free,fun b o e hx=>?_,I.base.tups,I.base.frzs,I.base.tbls⟩,⟨_,hn',fun j y v' e1 e2 e3=>?_⟩,fun y c e=>?_,I.free,I.freeC,fun p hp=>?_,tracked ⟨oL,hoL,I.free⟩ hs,by simpa using I.len⟩ ⟨_,hs,.inl rfl⟩
  ·exact(hs.2 b (LY (LV (LR e) I.ok.above))).trans (I.base.keep b o e n hb hx)
  ·obtain⟨sl,e1⟩:=I.base.slot b o e n hb hx
   exact⟨sl,(hs.2 b (LY (LV (LR e) I.ok.above))).trans e1⟩
  ·obtain⟨o',e1⟩:=I.base.there b o e hx
   exact⟨o',(hs.2 b (LY (LV (LR e) I.ok.above))).trans e1⟩
  ·by_cases hj:j=i
   ·subst hj
    rw[hi]at e1;cases e1
    rw[QV hiσ]at e2
    cases e2
    exact⟨u,r,.inl ⟨hk,by simp⟩⟩
   ·rw[Rp (Lt hj)]at e2
    obtain⟨u',r',q⟩:=hl j y v' e1 e2 e3
    refine⟨u',r',?_⟩
    rcases q with⟨k,e⟩|⟨k,c,e,z⟩
    ·refine .inl ⟨k,?_⟩
     have:y≠x:=fun e=>hj (pP hN e1 (e▸hi))
     simp[this,e]
    ·exact .inr ⟨k,c,e,z.sameBut hs (cne y c e)⟩
  ·obtain⟨w',z⟩:=I.cell y c e
   exact⟨w',z.sameBut hs (cne y c e)⟩
  ·obtain⟨e,n,ne,nf,d⟩:=I.pin p hp
   exact⟨(hs.2 p.1 ne).trans e,n,ne,nf,d⟩
 ·have hfn:X.fn x=true:=by
   rcases hf with z|z
   ·exact z
   ·rw[z]at hk;cases hk
  obtain⟨c,hc⟩:=I.ok.has x (.inl hk)
  obtain⟨w',z⟩:=I.cell x c hc
  refine wpAny_storeName_cell I.ok.kind hk hc z (fun h' hc' hs=>?_)
  obtain⟨oc,hoc,hocd⟩:=id z
  refine h {s with heap:=h'} ⟨I.ok,I.os,I.bare,⟨fun b o e n hb hx=>?_,fun b o e n hb hx=>?_,I.base.free,fun b o e hx=>?_,I.base.tups,I.base.frzs,I.base.tbls⟩,⟨m,hn.sameBut hs (Lt (cne x c hc)),fun j y v' e1 e2 e3=>?_⟩,fun y c' e=>?_,I.free,I.freeC,fun p hp=>?_,tracked ⟨oc,hoc,I.freeC x c hc⟩ hs,by simpa using I.len⟩ ⟨c,hs,.inr hc⟩
  ·exact(hs.2 b (LY (LV (LR e) (I.ok.cab x c hfn hc)))).trans (I.base.keep b o e n hb hx)
  ·obtain⟨sl,e1⟩:=I.base.slot b o e n hb hx
   exact⟨sl,(hs.2 b (LY (LV (LR e) (I.ok.cab x c hfn hc)))).trans e1⟩
  ·obtain⟨o',e1⟩:=I.base.there b o e hx
   exact⟨o',(hs.2 b (LY (LV (LR e) (I.ok.cab x c hfn hc)))).trans e1⟩
  ·by_cases hj:j=i
   ·subst hj
    rw[hi]at e1;cases e1
    rw[QV hiσ]at e2
    cases e2
    exact⟨u,r,.inr ⟨.inl hk,c,hc,hc'⟩⟩
   ·rw[Rp (Lt hj)]at e2
    obtain⟨u',r',q⟩:=hl j y v' e1 e2 e3
    refine⟨u',r',?_⟩
    rcases q with q|⟨k,c',e,z'⟩
    ·exact .inl q
    ·refine .inr ⟨k,c',e,z'.sameBut hs ?_⟩
     rintro rfl
     exact hj (pP hN e1 (I.ok.inj _ _ _ e hc▸hi))
  ·by_cases hcc:c'=c
   ·subst hcc;exact⟨_,hc'⟩
   ·obtain⟨w2,z2⟩:=I.cell y c' e
    exact⟨w2,z2.sameBut hs hcc⟩
  ·obtain⟨e,n,ne,nf,d⟩:=I.pin p hp
   refine⟨(hs.2 p.1 ?_).trans e,n,ne,nf,d⟩
   intro q
   rw[q,hoc]at e
   have q':oc=p.2:=Me e
   exact d w' (by rw[←q'];exact hocd)
theorem jQ {M:Model}{A:Mn}{E:pv→wr→Prop}{i:Nat}{x:Str}{v:V}{u:pv}{Q:Unit→wr→Prop}(I:Inv X pins σ H s)(hN:X.N.Nodup)(hi:X.N[i]?=some x)(hx:Loc X.env.scope x)(r:aJ v u)
  (h:∀s',Inv X pins (σ.set i (some v)) H s'→Q () s')(hf:X.fn x=true∨X.env.scope.names.lookup x=some .local:=by first|exact .inl rfl|exact .inr rfl|assumption):wpAny M A (storeName X.env x u) Q E s:=
 ue I hN hi hx r (fun s' I' _=>h s' I') hf
theorem Inv.call' {s':wr}{ch:List Addr}(I:Inv X pins σ H s)(ho:s'.os=s.os)(u:Un (frs X.stack) ch H H' s.heap s'.heap)(hok:HOk X.prog X.w H' s'.heap)(hg:Po s'.gens)
  (hch:∀b∈ch,(b∈X.ex∨X.s₀.heap.objs.size≤b)∧b≠X.env.locals∧(∀x c,X.env.cells.lookup x=some c→c≠b)∧∀p∈X.pn++pins,p.1≠b):Inv X pins σ H' s':=by
 obtain⟨h',g',d',t',o'⟩:=s'
 have e:o'=s.os:=ho
 subst e
 exact I.call (g':=g') (t':=t') (d':=d') u hok hg hch
end
abbrev XK:=pv→Option Addr→Hp→Prop
abbrev St:=List (Option V)
abbrev VK:=V→Hp→Prop
abbrev TE:=St→Hp→VK→Prop
abbrev TT:=St→Hp→(Bool→Hp→Prop)→Prop
abbrev TA:=St→Hp→(List V→Hp→Prop)→Prop
structure eN where
 nx:St→Hp→Prop
 rt:VK
 bk:St→Hp→Prop:=fun _ _=>False
 ct:St→Hp→Prop:=fun _ _=>False
abbrev TS:=eN→St→Hp→Prop
def EP (X:Cx)(pins:List (Addr×Obj))(σ:St)(Q:VK)(u:pv)(s':wr):Prop:=∃v H',Inv X pins σ H' s'∧aJ v u∧Q v H'
def TP (X:Cx)(pins:List (Addr×Obj))(σ:St)(Q:Bool→Hp→Prop)(b:Bool)(s':wr):Prop:=∃H',Inv X pins σ H' s'∧Q b H'
def AP (X:Cx)(pins:List (Addr×Obj))(σ:St)(Q:List V→Hp→Prop)(us:List pv)(s':wr):Prop:=∃vs H',Inv X pins σ H' s'∧aW vs us∧Q vs H'
def SP (X:Cx)(pins:List (Addr×Obj))(D:eN)(f:Flow)(s':wr):Prop:=
 match f with
 |.next=>∃σ' H',Inv X pins σ' H' s'∧D.nx σ' H'
 |.brk=>∃σ' H',Inv X pins σ' H' s'∧D.bk σ' H'
 |.cont=>∃σ' H',Inv X pins σ' H' s'∧D.ct σ' H'
 |.ret u=>∃v σ' H',Inv X pins σ' H' s'∧aJ v u∧D.rt v H'
def PE (X:Cx)(e:Expr)(t:TE):Prop:=
 ∀(pins:List (Addr×Obj))(s:wr)(σ:St)(H:Hp)(Q:VK),Inv X pins σ H s→t σ H Q→wpAny (model X.prog X.w) X.A (eval e X.env) (EP X pins σ Q) X.xe s
def PT (X:Cx)(e:Expr)(t:TT):Prop:=
 ∀(pins:List (Addr×Obj))(s:wr)(σ:St)(H:Hp)(Q:Bool→Hp→Prop),Inv X pins σ H s→t σ H Q→wpAny (model X.prog X.w) X.A (isTrue e X.env (eval e X.env)) (TP X pins σ Q) X.xe s
def PW (X:Cx)(e:Expr)(t:TT):Prop:=
 ∀(whole:Sem pv)(pins:List (Addr×Obj))(s:wr)(σ:St)(H:Hp)(Q:Bool→Hp→Prop),Inv X pins σ H s→t σ H Q→wpAny (model X.prog X.w) X.A (isTrue e X.env whole) (TP X pins σ Q) X.xe s
theorem PW.pt {X:Cx}{e:Expr}{t:TT}(h:PW X e t):PT X e t:=h _
def PA (X:Cx)(es:List Expr)(t:TA):Prop:=
 ∀(pos:Pos)(pins:List (Addr×Obj))(s:wr)(σ:St)(H:Hp)(Q:List V→Hp→Prop),Inv X pins σ H s→t σ H Q→wpAny (model X.prog X.w) X.A (spliced (backTo pos (starEach es X.env))) (AP X pins σ Q) X.xe s
def PS (X:Cx)(st:Stmt)(t:TS):Prop:=
 ∀(pins:List (Addr×Obj))(s:wr)(σ:St)(H:Hp)(D:eN),Inv X pins σ H s→t D σ H→wpAny (model X.prog X.w) X.A (exec st X.env) (SP X pins D) X.xe s
def PSs (X:Cx)(st:List Stmt)(t:TS):Prop:=
 ∀(pins:List (Addr×Obj))(s:wr)(σ:St)(H:Hp)(D:eN),Inv X pins σ H s→t D σ H→wpAny (model X.prog X.w) X.A (execs st X.env) (SP X pins D) X.xe s
theorem thn {α:Type}{t:Sem α}{Q Q':α→wr→Prop}{M:Model}{A:Mn}{E:pv→wr→Prop}{s:wr}(h:wpAny M A t Q E s)(hQ:∀a s,Q a s→Q' a s):wpAny M A t Q' E s:=Mj h hQ fun _ _ x=>x
section
variable {X:Cx}
def LI (i:Nat):TE:=fun σ H Q=>∃v,σ[i]?=some (some v)∧Q v H
def tC (v:V):TE:=fun _ H Q=>Q v H
theorem Df {i:Nat}{x:Str}{pos:Pos}(hN:X.N[i]?=some x)(hv:Vis X.env.scope x)(hd:(x==("__debug__":Str))=false:=by decide)(hcd:(x==("__classdict__":Str))=false:=by decide):PE X (.Name x pos) (LI i):=by
 intro pins s σ H Q I h
 obtain⟨v,e,h⟩:=h
 obtain⟨m,hn,hl⟩:=I.loc
 obtain⟨u,r,l⟩:=hl i x v hN e hv
 have fin:EP X pins σ Q u s:=⟨v,H,I,r,h⟩
 rcases l with⟨hk,hm⟩|⟨hk,c,hc,hcell⟩
 ·exact SV (wpAny_loadName_local I.ok.kind hk hn hm fin) hd
 ·rcases hk with hk|hk
  ·exact SV (wpAny_loadName_cell I.ok.kind hk hc hcell fin) hd
  ·exact SV (wpAny_loadName_free I.ok.kind hk hc hcell fin hcd) hd
theorem Bn {i j pos}:PE X (.Constant (.int i) j pos) (tC (.int i)):=fun _ _ _ H _ I h=>wpAny_Constant_int ⟨.int i,H,I.tok _,⟨_,rfl⟩,h⟩
theorem GC {b j pos}:PE X (.Constant (.bool b) j pos) (tC (.bl b)):=fun _ _ _ H _ I h=>Constant_bool ⟨.bl b,H,I,rfl,h⟩
theorem By {j pos}:PE X (.Constant .none j pos) (tC .non):=fun _ _ _ H _ I h=>Constant_none ⟨.non,H,I,rfl,h⟩
theorem DX {x j pos}:PE X (.Constant (.str x) j pos) (tC (.str x)):=fun _ _ _ H _ I h=>Calls.Constant_str ⟨.str x,H,I.tok _,⟨_,rfl⟩,h⟩
def Gl (X:Cx)(x:Str):Prop:=X.env.kindOf x=some .globalImplicit
theorem fU {E:pv→wr→Prop}{pins:List (Addr×Obj)}{s:wr}{σ:St}{H:Hp}{x:Str}{u:pv}{pos:Pos}{Q:pv→wr→Prop}(I:Inv X pins σ H s)(hg:Gl X x)(hm:X.mg x=some u)(h:Q u s)
  (hd:(x==("__debug__":Str))=false:=by decide):wpAny (model X.prog X.w) X.A (eval (.Name x pos) X.env) Q E s:=
 Oz I.ok.kind hg (QC (by rw[I.ok.glob];exact I.mod.glob.keeps I.bk) hm h) hd
theorem iX {E:pv→wr→Prop}{pins:List (Addr×Obj)}{s:wr}{σ:St}{H:Hp}{x:Str}{u:pv}{pos:Pos}{Q:pv→wr→Prop}(I:Inv X pins σ H s)(hg:Gl X x)(hm:X.mg x=none)(hv:bootBuiltins x=some u)(h:Q u s)
  (hn:x≠"__name__":=by decide)(hd:(x==("__debug__":Str))=false:=by decide):wpAny (model X.prog X.w) X.A (eval (.Name x pos) X.env) Q E s:=by
 obtain⟨mb,h1,h2⟩:=I.mod.blt
 exact Oz I.ok.kind hg (Calls.loadGlobal_builtin (by rw[I.ok.glob];exact I.mod.glob.keeps I.bk) hm (by rw[I.ok.blt];exact h1.keeps I.bk) ((h2 x hn).trans hv) h) hd
theorem mj {x:Str}{v:V}{u:pv}{pos:Pos}(hg:Gl X x)(hm:X.mg x=some u)(r:aJ v u)(hd:(x==("__debug__":Str))=false:=by decide):PE X (.Name x pos) (tC v):=
 fun _ _ _ H _ I h=>fU I hg hm ⟨v,H,I,r,h⟩ hd
theorem zI {x:Str}{v:V}{u:pv}{pos:Pos}(hg:Gl X x)(hm:X.mg x=none)(hv:bootBuiltins x=some u)(r:aJ v u)(hn:x≠"__name__":=by decide)(hd:(x==("__debug__":Str))=false:=by decide):PE X (.Name x pos) (tC v):=
 fun _ _ _ H _ I h=>iX I hg hm hv ⟨v,H,I,r,h⟩ hn hd
variable {a b:Expr}{ta tb:TE}{pos:Pos}
variable {tA tB':TT}{dA:List Expr}
def dv (t:TT):TT:=fun σ H Q=>t σ H fun c H1=>Q (!c) H1
theorem AV (ha:PT X a tA):PW X (.BoolOp .Or [a] pos) tA:=by
 intro wh pins s σ H Q I h
 refine isTrue_or (thn (ha pins s σ H Q I h) fun c s1 e=>?_)
 cases c with
 |false=>exact isTrue_or_nil e
 |true=>exact e
theorem DV (ha:PT X a tA):PT X (.UnaryOp .Not a pos) (dv tA):=by
 intro pins s σ H Q I h
 exact isTrue_not (ha pins s σ H (fun c H1=>Q (!c) H1) I h)
theorem Du {op}{t:TE}(h:PE X a t):PE X (.BoolOp op [a] pos) t:=fun pins s σ H Q I hw=>BoolOp_one (h pins s σ H Q I hw)
end
def SqL (K:cW)(H:Hp)(a:Addr)(xs:List V):Prop:=
 Rd H a (.lst xs)∨
  ∃(o:Obj)(its:Array pv)(n:Nat),K.lookup a=some o∧o.cls=.type "list"∧o.dict=none∧o.data=.seq its n∧its.size≤sizeLine∧aW xs its.toList
def SqT (K:cW)(H:Hp)(a:Addr)(xs:List V):Prop:=
 Rd H a (.tup xs)∨
  ∃(o:Obj)(its:Array pv)(n:Nat),K.lookup a=some o∧o.cls=.type "tuple"∧o.data=.seq its n∧its.size≤sizeLine∧aW xs its.toList
def Jy:pv→Option V
 |.none=>some .non
 |.bool b=>some (.bl b)
 |.int i _=>some (.int i)
 |.str x _=>some (.str x)
 |.bytes b _=>some (.byt b)
 |.float b _=>some (.flt b)
 |.ref a=>some (.ref a)
 |.type n=>some (.ty n)
 |_=>none
theorem aJ.abs {x:V}{u:pv}(r:aJ x u):Jy u=some x:=by
 cases x with
 |non=>cases r;rfl
 |bl _=>cases r;rfl
 |int _=>obtain⟨t,rfl⟩:=r;rfl
 |str _=>obtain⟨t,rfl⟩:=r;rfl
 |byt _=>obtain⟨t,rfl⟩:=r;rfl
 |flt _=>obtain⟨t,rfl⟩:=r;rfl
 |ref _=>cases r;rfl
 |ty _=>cases r;rfl
theorem aJ.inj {x y:V}{u:pv}(r:aJ x u)(q:aJ y u):x=y:=Me (r.abs.symm.trans q.abs)
theorem aW.inj:∀{xs ys:List V}{us:List pv},aW xs us→aW ys us→xs=ys
 |_,_,_,.nil,.nil=>rfl
 |_,_,_,.cons r t,.cons r' t'=>by rw[r.inj r',aW.inj t t']
section
variable {X:Cx}{pins:List (Addr×Obj)}{σ:St}{H:Hp}{s:wr}{a:Addr}{xs ys:List V}
theorem SqL.of {K:cW}(h:H a=some (.lst xs)):SqL K H a xs:=.inl (.inl h)
theorem SqT.of {K:cW}(h:H a=some (.tup xs)):SqT K H a xs:=.inl (.inl h)
theorem Inv.list (I:Inv X pins σ H s)(h:SqL X.K H a xs):∃its:List pv,aW xs its∧PlainL s.heap a its.toArray∧xs.length≤sizeLine:=by
 rcases h with h|⟨o,its,n,hk,hc,hd,hs,hz,r⟩
 ·obtain⟨z,its,n,r,e⟩:=h.ok I.hok
  exact⟨its,r,⟨_,n,e,rfl,rfl,rfl⟩,z⟩
 ·refine⟨its.toList,r,⟨o,n,I.kIn a o hk,hc,hd,by simpa using hs⟩,?_⟩
  have e:=r.length
  simp only[Nr]at e
  omega
theorem Inv.tuple (I:Inv X pins σ H s)(h:SqT X.K H a xs):∃its:List pv,aW xs its∧Tq s.heap a its.toArray∧xs.length≤sizeLine:=by
 rcases h with h|⟨o,its,n,hk,hc,hs,hz,r⟩
 ·obtain⟨z,its,r,p⟩:=h.ok I.hok
  exact⟨its,r,p,z⟩
 ·refine⟨its.toList,r,⟨o,I.kIn a o hk,hc,n,by simpa using hs⟩,?_⟩
  have e:=r.length
  simp only[Nr]at e
  omega
theorem Inv.list_inj (I:Inv X pins σ H s)(h:SqL X.K H a xs)(h':SqL X.K H a ys):xs=ys:=by
 obtain⟨its,r,⟨o,n,e,_,_,d⟩,_⟩:=I.list h
 obtain⟨its',r',⟨o',n',e',_,_,d'⟩,_⟩:=I.list h'
 rw[e]at e';cases e'
 rw[d]at d'
 injection d' with d1 _
 have:its=its':=by simpa using congrArg SL d1
 subst this
 exact r.inj r'
theorem Inv.tuple_inj (I:Inv X pins σ H s)(h:SqT X.K H a xs)(h':SqT X.K H a ys):xs=ys:=by
 obtain⟨its,r,⟨o,e,_,n,d⟩,_⟩:=I.tuple h
 obtain⟨its',r',⟨o',e',_,n',d'⟩,_⟩:=I.tuple h'
 rw[e]at e';cases e'
 rw[d]at d'
 injection d' with d1 _
 have:its=its':=by simpa using congrArg SL d1
 subst this
 exact r.inj r'
end
abbrev Cx.wish (X:Cx)(E:pv→wr→Prop):Cx:={X with xe:=E}
abbrev Cx.nox (X:Cx):Cx:=X.wish fun _ _=>False
theorem Cx.Ok.wish {X:Cx}(ok:X.Ok)(E:pv→wr→Prop):(X.wish E).Ok:=
 ⟨ok.mod,ok.kind,ok.glob,ok.blt,ok.above,ok.inj,ok.has,ok.cab,ok.hd,ok.frames,ok.stk,ok.exf,ok.bs,ok.bsz,ok.noex,ok.exfs,ok.funs,ok.frf⟩
theorem Cx.Ok.unwish {X:Cx}{E:pv→wr→Prop}(ok:(X.wish E).Ok):X.Ok:=
 ⟨ok.mod,ok.kind,ok.glob,ok.blt,ok.above,ok.inj,ok.has,ok.cab,ok.hd,ok.frames,ok.stk,ok.exf,ok.bs,ok.bsz,ok.noex,ok.exfs,ok.funs,ok.frf⟩
section
variable {X:Cx}{pins:List (Addr×Obj)}{σ:St}{H:Hp}{s:wr}{E:pv→wr→Prop}
theorem Inv.wish (I:Inv X pins σ H s)(E:pv→wr→Prop):Inv (X.wish E) pins σ H s:=⟨I.ok.wish E,I.os,I.bare,I.base,I.loc,I.cell,I.free,I.freeC,I.pin,I.hok,I.len⟩
theorem Inv.unwish (I:Inv (X.wish E) pins σ H s):Inv X pins σ H s:=⟨I.ok.unwish,I.os,I.bare,I.base,I.loc,I.cell,I.free,I.freeC,I.pin,I.hok,I.len⟩
theorem SP.unwish {D:eN}{f:Flow}{s':wr}(h:SP (X.wish E) pins D f s'):SP X pins D f s':=by
 cases f with
 |next=>obtain⟨σ',H',I,q⟩:=h;exact⟨σ',H',I.unwish,q⟩
 |brk=>obtain⟨σ',H',I,q⟩:=h;exact⟨σ',H',I.unwish,q⟩
 |cont=>obtain⟨σ',H',I,q⟩:=h;exact⟨σ',H',I.unwish,q⟩
 |ret u=>obtain⟨v,σ',H',I,r,q⟩:=h;exact⟨v,σ',H',I.unwish,r,q⟩
theorem PE.nox {e:Expr}{t:TE}(h:PE X.nox e t):PE X e t:=fun pins s σ H Q I hw=>
 Mj (h pins s σ H Q (I.wish _) hw) (fun _ _ ⟨v,H',I',r,q⟩=>⟨v,H',I'.unwish,r,q⟩) fun _ _ z=>Mq z
theorem PSs.nox {st:List Stmt}{t:TS}(h:PSs X.nox st t):PSs X st t:=fun pins s σ H D I hw=>
 Mj (h pins s σ H D (I.wish _) hw) (fun _ _ q=>q.unwish) fun _ _ z=>Mq z
end
section
variable {X:Cx}{st:Stmt}{dA:List Stmt}{t u:TS}{e:Expr}{te:TE}{pos:Pos}
def aZ:TS:=fun D σ H=>D.nx σ H
def ay (t u:TS):TS:=fun D σ H=>t {D with nx:=u D} σ H
theorem Az:PSs X [] aZ:=fun _ _ σ H _ I h=>ON ⟨σ,H,I,h⟩
theorem vk (h1:PS X st t)(h2:PSs X dA u):PSs X (st::dA) (ay t u):=by
 intro pins s σ H D I h
 refine Pq (thn (h1 pins s σ H {D with nx:=u D} I h) fun f s1 q=>?_)
 cases f with
 |next=>
  obtain⟨σ',H',I',q⟩:=q
  exact h2 pins s1 σ' H' D I' q
 |ret v=>exact q
 |brk=>exact q
 |cont=>exact q
theorem Aj (h1:PS X st t):PSs X [st] t:=by
 intro pins s σ H D I h
 refine Pq (thn (h1 pins s σ H D I h) fun f s1 q=>?_)
 cases f with
 |next=>exact ON q
 |ret v=>exact q
 |brk=>exact q
 |cont=>exact q
theorem Inv.quiet {pins:List (Addr×Obj)}{σ:St}{H:Hp}{s:wr}(I:Inv X pins σ H s):interactive X.env=false:=by simp[interactive,I.ok.kind]
def cY (te:TE):TS:=fun D σ H=>te σ H fun _ H1=>D.nx σ H1
theorem zT (he:PE X e te)(hs:swapsWith e none pos.line X.env=pure false:=by rfl):PS X (.Expr e pos) (cY te):=by
 intro pins s σ H D I h
 exact wpAny_Expr_any (thn (he pins s σ H _ I h) fun v s1 ⟨x,H1,I1,r1,q1⟩=>⟨σ,H1,I1,q1⟩) I.quiet hs
def aF (te:TE):TS:=fun D σ H=>te σ H D.rt
theorem DI (he:PE X e te):PS X (.Return (some e) pos) (aF te):=by
 intro pins s σ H D I h
 exact SU (thn (he pins s σ H _ I h) fun v s1 ⟨x,H1,I1,r1,q1⟩=>⟨x,σ,H1,I1,r1,q1⟩)
def gN:TS:=fun _ _ _=>False
theorem vW:PS X st gN:=fun _ _ _ _ _ _ h=>h.elim
end
abbrev TG:=V→St→Hp→(St→Hp→Prop)→Prop
def PG (X:Cx)(target:Expr)(t:TG):Prop:=
 ∀(pins:List (Addr×Obj))(s:wr)(σ:St)(H:Hp)(v:V)(u:pv)(Q:St→Hp→Prop),Inv X pins σ H s→aJ v u→t v σ H Q→
  wpAny (model X.prog X.w) X.A (assign target X.env u) (fun _ s'=>∃σ' H',Inv X pins σ' H' s'∧Q σ' H') X.xe s
abbrev vG:=V→V→V→Hp→(Hp→Prop)→Prop
def sP (X:Cx)(t:vG):Prop:=
 ∀(pins:List (Addr×Obj))(s:wr)(σ:St)(H:Hp)(o i v:V)(ov iv u:pv)(Q:Hp→Prop),Inv X pins σ H s→aJ o ov→aJ i iv→aJ v u→t o i v H Q→
  wpAny (model X.prog X.w) X.A (setItem ov iv u) (fun _ s'=>∃H',Inv X pins σ H' s'∧Q H') X.xe s
section
variable {X:Cx}{pos:Pos}
def aI (i:Nat):TG:=fun v σ H Q=>Q (σ.set i (some v)) H
theorem AD {i:Nat}{x:Str}(hN:X.N.Nodup)(hi:X.N[i]?=some x)(hx:Loc X.env.scope x)(hf:X.fn x=true∨X.env.scope.names.lookup x=some .local:=by first|exact .inl rfl|exact .inr rfl|assumption):PG X (.Name x pos) (aI i):=by
 intro pins s σ H v u Q I r h
 exact SR (jQ I hN hi hx r (fun s' I'=>⟨_,H,I',h⟩) hf)
def gX (to ti:TE)(t:vG):TG:=fun v σ H Q=>to σ H fun o H1=>ti σ H1 fun i H2=>t o i v H2 fun H3=>Q σ H3
theorem BO {o i:Expr}{to ti:TE}{t:vG}(ho:PE X o to)(hi:PE X i ti)(hs:sP X t)
  (ha:∀v,assign (.Subscript o i pos) X.env v=(do
   let ov←holding [v] (eval o X.env)
   let iv←holding [v,ov] (eval i X.env)
   standAt pos
   holding [v,ov,iv] (setItem ov iv v)
   release [v,ov,iv] []):=by intro _;rfl):PG X (.Subscript o i pos) (gX to ti t):=by
 intro pins s σ H v u Q I r h
 rw[ha]
 refine tx (Nh (thn (ho pins s σ H _ I h) fun ov s1 ⟨x,H1,I1,r1,q1⟩=>?_))
 refine tx (Nh (thn (hi pins s1 σ H1 _ I1 q1) fun iv s2 ⟨y,H2,I2,r2,q2⟩=>?_))
 refine tx (Rv (tx (Nh (thn (hs pins s2 σ H2 x y v ov iv u _ I2 r1 r2 r q2) fun _ s3 ⟨H3,I3,q3⟩=>?_))))
 exact wpAny_release ⟨σ,H3,I3,q3⟩
def aR (te:TE)(g:TG):TS:=fun D σ H=>te σ H fun x H1=>g x σ H1 D.nx
theorem Dg {tg e:Expr}{te:TE}{g:TG}(he:PE X e te)(hg:PG X tg g)(hs:swapsWithSole [tg] e pos.line X.env=pure false:=by rfl)(hw:swappedStores [tg] e X.env=pure none:=by rfl)
  (h1:(assignEach [tg] X.env).map (·.2)=[assign tg X.env]:=by rfl):PS X (.Assign [tg] e pos) (aR te g):=by
 intro pins s σ H D I h
 refine wpAny_Assign_stores (thn (he pins s σ H _ I h) fun v s1 ⟨x,H1,I1,r1,q1⟩=>?_) hs hw
 rw[h1]
 exact thn (hg pins s1 σ H1 x v _ I1 r1 q1) fun _ s2 q=>q
theorem Bu {i:Nat}{x:Str}{e:Expr}{te:TE}{pos':Pos}(hN:X.N.Nodup)(hi:X.N[i]?=some x)(hx:Loc X.env.scope x)(he:PE X e te)(hs:swapsWith e (some (.Name x pos')) pos.line X.env=pure false:=by rfl)(hf:X.fn x=true∨X.env.scope.names.lookup x=some .local:=by first|exact .inl rfl|exact .inr rfl|assumption):
  PS X (.Assign [.Name x pos'] e pos) (aR te (aI i)):=by
 intro pins s σ H D I h
 refine wpAny_Assign_Name (thn (he pins s σ H _ I h) fun v s1 ⟨y,H1,I1,r1,q1⟩=>?_) hs
 exact jQ I1 hN hi hx r1 (fun s2 I2=>⟨_,H1,I2,q1⟩) hf
end
structure It where
 go:Nat→Hp→Prop
 yld:Nat→Hp→V→Hp→Prop
 stop:Nat→Hp→Prop
def iJ (X:Cx)(pins:List (Addr×Obj))(H:Hp)(b:Addr):Prop:=
 H b=none∧b≠X.env.locals∧b∉X.fs∧(b∈X.ex∨X.s₀.heap.objs.size≤b)∧(∀x c,X.env.cells.lookup x=some c→c≠b)∧∀p∈X.pn++pins,p.1≠b
theorem Inv.fpOk {X:Cx}{pins:List (Addr×Obj)}{σ:St}{H H':Hp}{s:wr}{b:Addr}(I:Inv X pins σ H s)(hb:s.heap.objs.size≤b)(hn:H' b=none):iJ X pins H' b:=by
 refine⟨hn,Nat.ne_of_gt (LV I.lt hb),I.nofs hb,.inr (Mh I.sz hb),fun x c e z=>?_,fun p hp z=>?_⟩
 ·obtain⟨v,q⟩:=I.cell x c e
  exact absurd (LV q.lt (by rw[z];exact hb)) (MV _)
 ·exact absurd (LV (LR (I.pin p hp).1) (by rw[z];exact hb)) (MV _)
structure mt (P:Mf)(w:Mx)(K:cW)(tg:Expr)(J:It)(fp:List Addr)(it:Addr)(tn:Nat→Heap→Prop):Prop where
 mem:it∈fp
 obj:∀i h,tn i h→∀b∈fp,∃o,h.get? b=some o∧∀v,o.data≠.cell v
 keep:∀i h h',tn i h→(∀b∈fp,∀o,h.get? b=some o→h'.get? b=some o)→tn i h'
 item:∀(X:Cx),X.prog=P→X.w=w→X.K=K→X.calm=true→∀(i:Nat)(pins:List (Addr×Obj))(s:wr)(σ:St)(H:Hp)(E:pv→wr→Prop),Inv X pins σ H s→(∀b∈fp,iJ X pins H b)→tn i s.heap→J.go i H→
  wpAny (model P w) X.A (pyNext (.ref it)) (fun r s1=>∃u,r=some u∧
   wpAny (model P w) X.A (letOwnedTupleGo tg (.ref it) u) (fun _ s2=>∃x H',Inv X pins σ H' s2∧aJ x u∧J.yld i H x H'∧tn (i+1) s2.heap∧∀b∈fp,H' b=none) E s1) E s
 done:∀(X:Cx),X.prog=P→X.w=w→X.K=K→X.calm=true→∀(i:Nat)(pins:List (Addr×Obj))(s:wr)(σ:St)(H:Hp)(E:pv→wr→Prop),Inv X pins σ H s→(∀b∈fp,iJ X pins H b)→tn i s.heap→J.stop i H→
  wpAny (model P w) X.A (pyNext (.ref it)) (fun r s1=>r=none∧Inv X pins σ H s1) E s
 self:∀(A:Mn)(i:Nat)(s:wr)(Q:pv→wr→Prop)(E:pv→wr→Prop),tn i s.heap→Q (.ref it) s→wpAny (model P w) A (pyIter (.ref it)) Q E s
abbrev TI:=St→Hp→(It→Hp→Prop)→Prop
def PIE (X:Cx)(pins:List (Addr×Obj))(σ:St)(tg:Expr)(R:It→Hp→Prop)(itv:pv)(s2:wr):Prop:=
 ∃(it:Addr)(fp:List Addr)(tn:Nat→Heap→Prop)(J:It)(H':Hp),itv=.ref it∧Inv X pins σ H' s2∧mt X.prog X.w X.K tg J fp it tn∧tn 0 s2.heap∧(∀b∈fp,iJ X pins H' b)∧R J H'
def PI (X:Cx)(tg iter:Expr)(wi:TI):Prop:=
 ∀(pins:List (Addr×Obj))(s:wr)(σ:St)(H:Hp)(R:It→Hp→Prop),Inv X pins σ H s→wi σ H R→
  wpAny (model X.prog X.w) X.A (eval iter X.env) (fun v s1=>wpAny (model X.prog X.w) X.A (pyIter v) (PIE X pins σ tg R) X.xe s1) X.xe s
theorem nD {M:Model}{A:Mn}{E:pv→wr→Prop}{s:wr}{tg:Expr}{it:Addr}{u:pv}{o:Obj}{n:String}{vs:Array pv}{Q:Unit→wr→Prop}(ho:s.heap.get? it=some o)(hc:o.cls=.type n)(hd:o.data=.fields vs)
  (hn:["enumerate","zip","dict_itemiterator","dict_reverseitemiterator","odict_iterator","itertools.zip_longest","itertools.pairwise"].contains n=false)(hQ:Q () s):wpAny M A (letOwnedTupleGo tg (.ref it) u) Q E s:=by
 unfold letOwnedTupleGo
 cases tg<;>first
  |exact LU hQ
  |(cases u<;>first
   |exact LU hQ
   |(refine tx (wpAny_load ho ?_)
     rw[hc,hd]
     show wpAny M A (if (["enumerate","zip","dict_itemiterator","dict_reverseitemiterator","odict_iterator","itertools.zip_longest","itertools.pairwise"].contains n&&vs[0]? ==some (rawInt _))=true then _ else _) Q E s
     rw[if_neg (by intro h;rw[hn,Qx]at h;cases h)]
     exact LU hQ))
def Itl (K:cW)(a:Addr):It:=
 ⟨fun i H=>∃xs x,SqL K H a xs∧xs[i]?=some x,fun i H x H'=>H'=H∧∀xs,SqL K H a xs→xs[i]?=some x,fun i H=>∃xs,SqL K H a xs∧xs.length≤i⟩
def Itt (K:cW)(a:Addr):It:=
 ⟨fun i H=>∃xs x,SqT K H a xs∧xs[i]?=some x,fun i H x H'=>H'=H∧∀xs,SqT K H a xs→xs[i]?=some x,fun i H=>∃xs,SqT K H a xs∧xs.length≤i⟩
def Itr (lo:Int)(n:Nat):It:=⟨fun i _=>i<n,fun i H x H'=>H'=H∧x=.int (lo+i),fun i _=>n≤i⟩
theorem uD {P:Mf}{w:Mx}{K:cW}{tg:Expr}(a it:Addr):mt P w K tg (Itl K a) [it] it (fun i h=>h.IsListIter it a i)where
 mem:=by simp
 obj:=fun i h st b hb=>by
  have e:b=it:=by simpa using hb
  subst e
  obtain⟨o,e,c,d⟩:=st
  exact⟨o,e,fun v z=>by rw[d]at z;cases z⟩
 keep:=fun i h h' st k=>st.at fun o e=>k it (by simp) o e
 item:=by
  intro X hP hw hK hc i pins s σ H E I hf st hg
  subst hP hw hK
  obtain⟨xs,x,hq,hx⟩:=hg
  obtain⟨its,rv,p,hz⟩:=I.list hq
  obtain⟨u,hu,ru⟩:=rv.get hx
  obtain⟨f0,f1,f2,f3,f4,f5⟩:=hf it (by simp)
  refine wpAny_pyNext_list_item st p.isList (x:=u) (by simpa using hu) fun h' st' sb=>?_
  have I1:Inv X pins σ H {s with heap:=h'}:=I.turned (t':=s.toks) (fun b o hb e=>(sb.2 b hb).trans e) f0 f1 f3 f4 f5
  obtain⟨o,e,c,d⟩:=id st'
  exact⟨u,rfl,nD (s:={s with heap:=h'}) e c d (by decide) ⟨x,H,I1,ru,⟨rfl,fun ys hy=>by rw[I.list_inj hy hq];exact hx⟩,st',fun b hb=>(hf b hb).1⟩⟩
 done:=by
  intro X hP hw hK hc i pins s σ H E I hf st hg
  subst hP hw hK
  obtain⟨xs,hq,hx⟩:=hg
  obtain⟨its,rv,p,hz⟩:=I.list hq
  obtain⟨f0,f1,f2,f3,f4,f5⟩:=hf it (by simp)
  have hl:=rv.length
  exact wpAny_pyNext_list_end (I.ok.hd hc) st p.isList (by simp;omega) fun h' eb=>⟨rfl,I.turned (t':=s.toks) (fun b o hb e=>eb b o hb e) f0 f1 f3 f4 f5⟩
 self:=fun _ _ _ _ _ st h=>wpAny_pyIter_listiter st h
theorem sQ {P:Mf}{w:Mx}{K:cW}{tg:Expr}(a it:Addr):mt P w K tg (Itt K a) [it] it (fun i h=>h.IsTupleIter it a i)where
 mem:=by simp
 obj:=fun i h st b hb=>by
  have e:b=it:=by simpa using hb
  subst e
  obtain⟨o,e,c,d⟩:=st
  exact⟨o,e,fun v z=>by rw[d]at z;cases z⟩
 keep:=fun i h h' st k=>st.at fun o e=>k it (by simp) o e
 item:=by
  intro X hP hw hK hc i pins s σ H E I hf st hg
  subst hP hw hK
  obtain⟨xs,x,hq,hx⟩:=hg
  obtain⟨its,rv,p,hz⟩:=I.tuple hq
  obtain⟨u,hu,ru⟩:=rv.get hx
  obtain⟨f0,f1,f2,f3,f4,f5⟩:=hf it (by simp)
  refine wpAny_pyNext_tuple_item st (show s.heap.IsTuple a its.toArray from p) (x:=u) (by simpa using hu) fun h' st' sb=>?_
  have I1:Inv X pins σ H {s with heap:=h'}:=I.turned (t':=s.toks) (fun b o hb e=>(sb.2 b hb).trans e) f0 f1 f3 f4 f5
  obtain⟨o,e,c,d⟩:=id st'
  exact⟨u,rfl,nD (s:={s with heap:=h'}) e c d (by decide) ⟨x,H,I1,ru,⟨rfl,fun ys hy=>by rw[I.tuple_inj hy hq];exact hx⟩,st',fun b hb=>(hf b hb).1⟩⟩
 done:=by
  intro X hP hw hK hc i pins s σ H E I hf st hg
  subst hP hw hK
  obtain⟨xs,hq,hx⟩:=hg
  obtain⟨its,rv,p,hz⟩:=I.tuple hq
  obtain⟨f0,f1,f2,f3,f4,f5⟩:=hf it (by simp)
  have hl:=rv.length
  exact wpAny_pyNext_tuple_end (I.ok.hd hc) st (show s.heap.IsTuple a its.toArray from p) (by simp;omega) fun h' eb=>⟨rfl,I.turned (t':=s.toks) (fun b o hb e=>eb b o hb e) f0 f1 f3 f4 f5⟩
 self:=fun _ _ _ _ _ st h=>wpAny_pyIter_tupleiter st h
theorem rl {P:Mf}{w:Mx}{K:cW}{tg:Expr}(it:Addr)(lo:Int)(n:Nat):mt P w K tg (Itr lo n) [it] it (fun i h=>IsRangeIter h it (lo+(i:Nat)*1) ((n:Int)- (i:Nat)) 1)where
 mem:=by simp
 obj:=fun i h st b hb=>by
  have e:b=it:=by simpa using hb
  subst e
  exact⟨_,st,fun v z=>by
   have z':Data.fields _=Data.cell v:=z
   cases z'⟩
 keep:=fun i h h' st k=>k it (by simp) _ st
 item:=by
  intro X hP hw hK hc i pins s σ H E I hf st hg
  subst hP hw hK
  obtain⟨f0,f1,f2,f3,f4,f5⟩:=hf it (by simp)
  have W:=Walks.range (prog:=X.prog) (w:=X.w) (I.ok.hd hc) it lo 1 n
  refine W.item i s _ _ hg st fun v h' tk hv st' kk=>?_
  obtain⟨t,rfl⟩:=hv
  have I1:Inv X pins σ H {s with heap:=h',toks:=tk}:=I.turned (fun b o hb e=>kk b o (by simpa using hb) e) f0 f1 f3 f4 f5
  refine⟨_,rfl,nD (s:={s with heap:=h',toks:=tk}) (n:="range_iterator") st' rfl rfl (by decide) ⟨.int (lo+i),H,I1,⟨t,?_⟩,⟨rfl,rfl⟩,st',fun b hb=>(hf b hb).1⟩⟩
  rw[Int.mul_one]
 done:=by
  intro X hP hw hK hc i pins s σ H E I hf st hg
  subst hP hw hK
  obtain⟨f0,f1,f2,f3,f4,f5⟩:=hf it (by simp)
  exact wpAny_pyNext_range_end (I.ok.hd hc) st (by have:n≤i:=hg;omega) fun h' eb=>⟨rfl,I.turned (t':=s.toks) (fun b o hb e=>eb b o hb e) f0 f1 f3 f4 f5⟩
 self:=fun _ _ _ _ _ st h=>wpAny_pyIter_rangeiter st h
section
variable {X:Cx}{tg:Expr}
theorem pd {pins:List (Addr×Obj)}{σ:St}{H:Hp}{s:wr}{R:It→Hp→Prop}{E:pv→wr→Prop}{lo hi:Int}{t u v:Tok}{tk:Nat}(I:Inv X pins σ H s)(h1: -(2^62)≤lo)(h2:lo<2^62)(h3: -(2^62)≤hi)(h4:hi<2^62)
  (q:R (Itr lo (hi- lo).toNat) H):wpAny (model X.prog X.w) X.A (pyIter (.ref s.heap.objs.size)) (PIE X pins σ tg R) E {s with heap:=s.heap.push {cls:=.type "range",data:=.fields #[.int lo t,.int hi u,.int 1 v]},toks:=tk}:=by
 refine wpAny_pyIter_range (IsRange.new ..) (small_one h1 h2 h3 h4) ?_
 have I1:Inv X pins σ H {s with heap:=s.heap.push {cls:=.type "range",data:=.fields #[.int lo t,.int hi u,.int 1 v]},toks:=tk}:=I.kept fun b o e=>If _ e
 refine⟨(s.heap.push {cls:=.type "range",data:=.fields #[.int lo t,.int hi u,.int 1 v]}).objs.size,[(s.heap.push {cls:=.type "range",data:=.fields #[.int lo t,.int hi u,.int 1 v]}).objs.size],_,_,H,rfl,
  I1.kept (t':=tk) fun b o e=>If _ e,rl _ lo (hi- lo).toNat,?_,fun b hb=>?_,q⟩
 ·have e1:lo+((0:Nat):Int)*1=lo:=by simp
  have e2:(((hi- lo).toNat:Nat):Int)- ((0:Nat):Int)=To lo hi 1:=by rw[rangeSize_one];split<;>omega
  show IsRangeIter _ _ (lo+((0:Nat):Int)*1) ((((hi- lo).toNat:Nat):Int)- ((0:Nat):Int)) 1
  rw[e1,e2]
  exact Mb _ rfl
 ·have e:b=(s.heap.push {cls:=.type "range",data:=.fields #[.int lo t,.int hi u,.int 1 v]}).objs.size:=by simpa using hb
  subst e
  exact I1.fpOk (ah _) (I1.hok.fresh (ah _))
def oN (ta:TA):TI:=fun σ H R=>ta σ H fun vs H1=>∃j:Int,vs=[.int j]∧ -(2^62)≤j∧j<2^62∧R (Itr 0 j.toNat) H1
def rO (ta:TA):TI:=fun σ H R=>ta σ H fun vs H1=>∃i j:Int,vs=[.int i,.int j]∧(-(2^62)≤i∧i<2^62∧ -(2^62)≤j∧j<2^62)∧R (Itr i (j- i).toNat) H1
theorem uQ {a:Expr}{ta:TA}{p pos:Pos}(hg:Gl X "range")(hm:X.mg "range"=none)(ha:PA X [a] ta)(hs:starEach [a] X.env=[(false,eval a X.env)]:=by rfl):PI X tg (.Call (.Name "range" p) [a] [] pos) (oN ta):=by
 intro pins s σ H R I h
 refine Call_ (iX I hg hm boot_range (Oa (thn (ha pos pins s σ H _ I h) fun us s1 ⟨vs,H1,I1,r1,q1⟩=>?_) hs rfl))
 obtain⟨j,e,q1,q2,q⟩:=q1
 subst e
 cases r1 with
 |cons r rr=>
  cases rr
  obtain⟨t,rfl⟩:=r
  exact call_range_1 (pd I1 (by omega) (by omega) q1 q2 (by simpa using q))
theorem ub {a b:Expr}{ta:TA}{p pos:Pos}(hg:Gl X "range")(hm:X.mg "range"=none)(ha:PA X [a,b] ta)(hs:starEach [a,b] X.env=[(false,eval a X.env),(false,eval b X.env)]:=by rfl)(hs2:starEach [b] X.env=[(false,eval b X.env)]:=by rfl):
  PI X tg (.Call (.Name "range" p) [a,b] [] pos) (rO ta):=by
 intro pins s σ H R I h
 refine Call_ (iX I hg hm boot_range (Oa (thn (ha pos pins s σ H _ I h) fun us s1 ⟨vs,H1,I1,r1,q1⟩=>?_) (by rw[hs,hs2]) (by rw[hs2];rfl)))
 obtain⟨i,j,e,⟨q1,q2,q3,q4⟩,q⟩:=q1
 subst e
 cases r1 with
 |cons r rr=>
  cases rr with
  |cons r' rr=>
   cases rr
   obtain⟨t,rfl⟩:=r
   obtain⟨t',rfl⟩:=r'
   exact call_range_2 (pd I1 q1 q2 q3 q4 q)
def iY (wi:TI)(g:TG)(tb:TS):TS:=fun D σ H=>wi σ H fun J H1=>∃W:Nat→Nat→St→Hp→Prop,(∃m,W 0 m σ H1)∧∀i m σ H,W i m σ H→
 (J.stop i H∧D.nx σ H)∨(J.go i H∧∃N:St→Hp→Prop,(∀σ' H',N σ' H'→∃m',m'<m∧W (i+1) m' σ' H')∧∀x H',J.yld i H x H'→g x σ H' fun σ2 H2=>tb {D with nx:=N,ct:=N,bk:=D.nx} σ2 H2)
def iO (fp:List Addr)(h:Heap):List (Addr×Obj):=fp.filterMap fun b=>(h.get? b).map fun o=>(b,o)
theorem fJ {fp:List Addr}{h:Heap}{b:Addr}{o:Obj}(hb:b∈fp)(e:h.get? b=some o):(b,o)∈iO fp h:=PC.mpr ⟨b,hb,by rw[e];rfl⟩
theorem uE {fp:List Addr}{h:Heap}{p:Addr×Obj}(hp:p∈iO fp h):p.1∈fp∧h.get? p.1=some p.2:=by
 obtain⟨b,hb,e⟩:=PC.mp hp
 cases q:h.get? b with
 |none=>rw[q]at e;cases e
 |some o=>
  rw[q]at e
  have e':(b,o)=p:=Me e
  subst e'
  exact⟨hb,q⟩
theorem Inv.pinned {pins:List (Addr×Obj)}{σ:St}{H:Hp}{s:wr}{fp:List Addr}(I:Inv X pins σ H s)(hf:∀b∈fp,iJ X pins H b)(ho:∀b∈fp,∃o,s.heap.get? b=some o∧∀v,o.data≠.cell v):Inv X (pins++iO fp s.heap) σ H s:=
 I.pins_of fun p hp=>(Mu.mp hp).elim (fun z=>I.pin p (Mp _ z)) fun z=>by
  obtain⟨hb,e⟩:=uE z
  obtain⟨f0,f1,f2,_⟩:=hf p.1 hb
  obtain⟨o,e',d⟩:=ho p.1 hb
  rw[e]at e';cases e'
  exact⟨e,f0,f1,f2,d⟩
theorem Inv.unpinned {pins pl:List (Addr×Obj)}{σ:St}{H:Hp}{s:wr}(I:Inv X (pins++pl) σ H s):Inv X pins σ H s:=I.pins_of fun p hp=>I.pin p (Mp _ (MU _ hp))
theorem CQ {iter:Expr}{body:List Stmt}{wi:TI}{g:TG}{tb:TS}{pos:Pos}(hp:PassesOwn (model X.prog X.w) X.A X.env X.xe)(hc:X.calm=true)(hi:PI X tg iter wi)(hg:PG X tg g)(hb:PSs X body tb)
  (hs:∀x,foldedSetIterable iter X.env x=pure x:=by intro _;rfl):PS X (.For tg iter body [] pos) (iY wi g tb):=by
 intro pins s σ H D I h
 refine wpAny_For (thn (hi pins s σ H _ I h) fun v s1 h1=>thn h1 fun itv s2 h2=>?_) hs
 obtain⟨it,fp,tn,J,H2,e,I2,T,st2,f2,W,⟨m0,w0⟩,turn⟩:=h2
 subst e
 have stat:∀{H':Hp},(∀b∈fp,H' b=none)→∀b∈fp,iJ X pins H' b:=fun hn b hb=>⟨hn b hb,(f2 b hb).2⟩
 refine codeAny_forLoop_any (fun n s'=>∃i σ' H',Inv X pins σ' H' s'∧tn i s'.heap∧(∀b∈fp,H' b=none)∧W i n σ' H') ?_ m0 ⟨0,σ,H2,I2,st2,fun b hb=>(f2 b hb).1,w0⟩
 rintro n s3 ⟨i,σ3,H3,I3,st3,fr3,w3⟩
 rcases turn i n σ3 H3 w3 with⟨stop,qn⟩|⟨go,N,hN,step⟩
 ·refine OL hp (thn (T.done X rfl rfl rfl hc i pins s3 σ3 H3 X.xe I3 (stat fr3) st3 stop) fun r s4 ⟨hr,I4⟩=>?_)
  subst hr
  exact ON ⟨σ3,H3,I4,qn⟩
 ·refine OL hp (thn (T.item X rfl rfl rfl hc i pins s3 σ3 H3 X.xe I3 (stat fr3) st3 go) fun r s4 ⟨u,hr,h4⟩=>?_)
  subst hr
  refine OL hp (thn h4 fun _ s5 ⟨x,H5,I5,r5,y5,st5,fr5⟩=>?_)
  have I5':=I5.pinned (stat fr5) (T.obj _ _ st5)
  refine OL hp (thn (hg _ s5 σ3 H5 x u _ I5' r5 (step x H5 y5)) fun _ s6 ⟨σ6,H6,I6,q6⟩=>?_)
  refine OL hp (thn (hb _ s6 σ6 H6 _ I6 q6) fun f s7 q7=>?_)
  have again:∀{σ7:St}{H7:Hp},Inv X (pins++iO fp s5.heap) σ7 H7 s7→N σ7 H7→∃m,m<n∧∃i σ' H',Inv X pins σ' H' s7∧tn i s7.heap∧(∀b∈fp,H' b=none)∧W i m σ' H':=fun{σ7 H7} I7 n7=>by
   obtain⟨m',hm,w7⟩:=hN σ7 H7 n7
   refine⟨m',hm,i+1,σ7,H7,I7.unpinned,T.keep _ _ _ st5 fun b hb o e=>(I7.pin (b,o) (Mp _ (Mp _ (fJ hb e)))).1,fun b hb=>?_,w7⟩
   obtain⟨o,e,d⟩:=T.obj _ _ st5 b hb
   exact(I7.pin (b,o) (Mp _ (Mp _ (fJ hb e)))).2.1
  cases f with
  |next=>obtain⟨σ7,H7,I7,n7⟩:=q7;exact again I7 n7
  |cont=>obtain⟨σ7,H7,I7,n7⟩:=q7;exact again I7 n7
  |brk=>obtain⟨σ7,H7,I7,q7⟩:=q7;exact⟨σ7,H7,I7.unpinned,q7⟩
  |ret v=>obtain⟨x7,σ7,H7,I7,r7,q7⟩:=q7;exact⟨x7,σ7,H7,I7.unpinned,r7,q7⟩
end
theorem pL {K:cW}{a:Addr}{xs:List V}{g:TG}{tb:TS}{D:eN}{σ:St}{H:Hp}(Pv:Nat→St→Hp→Prop)(h0:Pv 0 σ H)(hl:∀i σ H,i≤xs.length→Pv i σ H→SqL K H a xs)
  (hs:∀i x σ H,xs[i]?=some x→Pv i σ H→g x σ H fun σ2 H2=>tb {D with nx:=Pv (i+1),ct:=Pv (i+1),bk:=D.nx} σ2 H2)(hd:∀σ H,Pv xs.length σ H→D.nx σ H):
  ∃W:Nat→Nat→St→Hp→Prop,(∃m,W 0 m σ H)∧∀i m σ H,W i m σ H→
   ((Itl K a).stop i H∧D.nx σ H)∨((Itl K a).go i H∧∃N:St→Hp→Prop,(∀σ' H',N σ' H'→∃m',m'<m∧W (i+1) m' σ' H')∧∀x H',(Itl K a).yld i H x H'→g x σ H' fun σ2 H2=>tb {D with nx:=N,ct:=N,bk:=D.nx} σ2 H2):=by
 refine⟨fun i m σ H=>m=xs.length- i∧i≤xs.length∧Pv i σ H,⟨xs.length,by simp,Md _,h0⟩,?_⟩
 rintro i m σ H ⟨rfl,hi,p⟩
 have q:=hl i σ H hi p
 by_cases hlt:i<xs.length
 ·refine .inr ⟨⟨xs,xs[i],q,by simp[hlt]⟩,Pv (i+1),fun σ' H' p'=>⟨xs.length- (i+1),by omega,rfl,hlt,p'⟩,fun x H' y=>?_⟩
  obtain⟨e,y⟩:=y
  subst e
  exact hs i x σ _ (y xs q) p
 ·have e:i=xs.length:=by omega
  subst e
  exact .inl ⟨⟨xs,q,ah _⟩,hd σ H p⟩
theorem zP {K:cW}{a:Addr}{xs:List V}{g:TG}{tb:TS}{D:eN}{σ:St}{H:Hp}(Pv:Nat→St→Hp→Prop)(h0:Pv 0 σ H)(hl:∀i σ H,i≤xs.length→Pv i σ H→SqT K H a xs)
  (hs:∀i x σ H,xs[i]?=some x→Pv i σ H→g x σ H fun σ2 H2=>tb {D with nx:=Pv (i+1),ct:=Pv (i+1),bk:=D.nx} σ2 H2)(hd:∀σ H,Pv xs.length σ H→D.nx σ H):
  ∃W:Nat→Nat→St→Hp→Prop,(∃m,W 0 m σ H)∧∀i m σ H,W i m σ H→
   ((Itt K a).stop i H∧D.nx σ H)∨((Itt K a).go i H∧∃N:St→Hp→Prop,(∀σ' H',N σ' H'→∃m',m'<m∧W (i+1) m' σ' H')∧∀x H',(Itt K a).yld i H x H'→g x σ H' fun σ2 H2=>tb {D with nx:=N,ct:=N,bk:=D.nx} σ2 H2):=by
 refine⟨fun i m σ H=>m=xs.length- i∧i≤xs.length∧Pv i σ H,⟨xs.length,by simp,Md _,h0⟩,?_⟩
 rintro i m σ H ⟨rfl,hi,p⟩
 have q:=hl i σ H hi p
 by_cases hlt:i<xs.length
 ·refine .inr ⟨⟨xs,xs[i],q,by simp[hlt]⟩,Pv (i+1),fun σ' H' p'=>⟨xs.length- (i+1),by omega,rfl,hlt,p'⟩,fun x H' y=>?_⟩
  obtain⟨e,y⟩:=y
  subst e
  exact hs i x σ _ (y xs q) p
 ·have e:i=xs.length:=by omega
  subst e
  exact .inl ⟨⟨xs,q,ah _⟩,hd σ H p⟩
theorem mP {lo:Int}{n:Nat}{g:TG}{tb:TS}{D:eN}{σ:St}{H:Hp}(Pv:Nat→St→Hp→Prop)(h0:Pv 0 σ H)
  (hs:∀i σ H,i<n→Pv i σ H→g (.int (lo+i)) σ H fun σ2 H2=>tb {D with nx:=Pv (i+1),ct:=Pv (i+1),bk:=D.nx} σ2 H2)(hd:∀σ H,Pv n σ H→D.nx σ H):
  ∃W:Nat→Nat→St→Hp→Prop,(∃m,W 0 m σ H)∧∀i m σ H,W i m σ H→
   ((Itr lo n).stop i H∧D.nx σ H)∨((Itr lo n).go i H∧∃N:St→Hp→Prop,(∀σ' H',N σ' H'→∃m',m'<m∧W (i+1) m' σ' H')∧∀x H',(Itr lo n).yld i H x H'→g x σ H' fun σ2 H2=>tb {D with nx:=N,ct:=N,bk:=D.nx} σ2 H2):=by
 refine⟨fun i m σ H=>m=n- i∧i≤n∧Pv i σ H,⟨n,by simp,Md _,h0⟩,?_⟩
 rintro i m σ H ⟨rfl,hi,p⟩
 by_cases hlt:i<n
 ·refine .inr ⟨hlt,Pv (i+1),fun σ' H' p'=>⟨n- (i+1),by omega,rfl,hlt,p'⟩,fun x H' y=>?_⟩
  obtain⟨e,y⟩:=y
  subst e y
  exact hs i σ _ hlt p
 ·have e:i=n:=by omega
  subst e
  exact .inl ⟨ah _,hd σ H p⟩
abbrev R2:=V→V→Hp→VK→Prop
def OpR (X:Cx)(f:pv→pv→Sem pv)(r:R2):Prop:=
 ∀(pins:List (Addr×Obj))(s:wr)(σ:St)(H:Hp)(x y:V)(v u:pv)(Q:VK),Inv X pins σ H s→aJ x v→aJ y u→r x y H Q→
  wpAny (model X.prog X.w) X.A (f v u) (EP X pins σ Q) X.xe s
def UnR (X:Cx)(f:pv→Sem pv)(r:V→Hp→VK→Prop):Prop:=
 ∀(pins:List (Addr×Obj))(s:wr)(σ:St)(H:Hp)(x:V)(v:pv)(Q:VK),Inv X pins σ H s→aJ x v→r x H Q→
  wpAny (model X.prog X.w) X.A (f v) (EP X pins σ Q) X.xe s
def bI (X:Cx)(f:pv)(r:List V→Hp→VK→Prop):Prop:=
 ∀(pins:List (Addr×Obj))(s:wr)(σ:St)(H:Hp)(xs:List V)(us:List pv)(Q:VK),Inv X pins σ H s→aW xs us→r xs H Q→
  wpAny (model X.prog X.w) X.A (call f us) (EP X pins σ Q) X.xe s
def Lq (X:Cx)(r:V→Hp→(Bool→Hp→Prop)→Prop):Prop:=
 ∀(pins:List (Addr×Obj))(s:wr)(σ:St)(H:Hp)(x:V)(v:pv)(Q:Bool→Hp→Prop),Inv X pins σ H s→aJ x v→r x H Q→
  wpAny (model X.prog X.w) X.A (truthy v) (TP X pins σ Q) X.xe s
def tOp (r:R2)(ta tb:TE):TE:=fun σ H Q=>ta σ H fun x H1=>tb σ H1 fun y H2=>r x y H2 Q
def tUn (r:V→Hp→VK→Prop)(ta:TE):TE:=fun σ H Q=>ta σ H fun x H1=>r x H1 Q
def rI (C:Int→Int→Prop)(g:Int→Int→V):R2:=fun x y H Q=>∃i j,x=.int i∧y=.int j∧C i j∧Q (g i j) H
def rI0 (g:Int→Int→V):R2:=fun x y H Q=>∃i j,x=.int i∧y=.int j∧Q (g i j) H
def rU (g:Int→V):V→Hp→VK→Prop:=fun x H Q=>∃i,x=.int i∧Q (g i) H
section
variable {X:Cx}{a b c:Expr}{ta tb tc:TE}{pos:Pos}
theorem xB (ha:PE X a ta)(hb:PE X b tb){pins:List (Addr×Obj)}{s:wr}{σ:St}{H:Hp}{R:V→V→Hp→Prop}(I:Inv X pins σ H s)
  (h:ta σ H fun x H1=>tb σ H1 fun y H2=>R x y H2){Q:pv→wr→Prop}{f:pv→pv→Sem pv}
  (hf:∀v u s2 x y H2,Inv X pins σ H2 s2→aJ x v→aJ y u→R x y H2→wpAny (model X.prog X.w) X.A (f v u) Q X.xe s2):
  wpAny (model X.prog X.w) X.A (eval a X.env) (fun v s₁=>wpAny (model X.prog X.w) X.A (eval b X.env) (fun u s₂=>wpAny (model X.prog X.w) X.A (f v u) Q X.xe s₂) X.xe s₁) X.xe s:=by
 refine thn (ha pins s σ H _ I h) fun v s1 ⟨x,H1,I1,r1,q1⟩=>?_
 refine thn (hb pins s1 σ H1 _ I1 q1) fun u s2 ⟨y,H2,I2,r2,q2⟩=>?_
 exact hf v u s2 x y H2 I2 r1 r2 q2
theorem Ho {op:Operator}{r:R2}(ho:OpR X (binaryOp op) r)(ha:PE X a ta)(hb:PE X b tb):PE X (.BinOp a op b pos) (tOp r ta tb):=by
 intro pins s σ H Q I h
 exact wpAny_BinOp (xB ha hb I h fun v u s2 x y H2 I2 rx ry q=>ho pins s2 σ H2 x y v u Q I2 rx ry q)
theorem HJ {op:UnaryOp}{r:V→Hp→VK→Prop}(ho:UnR X (unaryOp op) r)(ha:PE X a ta):PE X (.UnaryOp op a pos) (tUn r ta):=by
 intro pins s σ H Q I h
 exact UnaryOp_ (thn (ha pins s σ H _ I h) fun v s1 ⟨x,H1,I1,r1,q1⟩=>ho pins s1 σ H1 x v Q I1 r1 q1)
theorem opI {f:pv→pv→Sem pv}{C:Int→Int→Prop}{g:Int→Int→Int}
  (rule:∀(i j:Int)(t u:Tok)(s:wr)(Q:pv→wr→Prop)(E:pv→wr→Prop),C i j→Q (.int (g i j) s.toks) {s with toks:=s.toks+1}→wpAny (model X.prog X.w) X.A (f (.int i t) (.int j u)) Q E s):
  OpR X f (rI C fun i j=>.int (g i j)):=by
 intro pins s σ H x y v u Q I rx ry h
 obtain⟨i,j,rfl,rfl,hc,q⟩:=h
 obtain⟨t,rfl⟩:=rx
 obtain⟨t',rfl⟩:=ry
 exact rule i j t t' s _ _ hc ⟨.int (g i j),H,I.tok _,⟨_,rfl⟩,q⟩
theorem rT {f:pv→pv→Sem pv}{g:Int→Int→Int}
  (rule:∀(i j:Int)(t u:Tok)(s:wr)(Q:pv→wr→Prop)(E:pv→wr→Prop),Q (.int (g i j) s.toks) {s with toks:=s.toks+1}→wpAny (model X.prog X.w) X.A (f (.int i t) (.int j u)) Q E s):
  OpR X f (rI0 fun i j=>.int (g i j)):=by
 intro pins s σ H x y v u Q I rx ry h
 obtain⟨i,j,rfl,rfl,q⟩:=h
 obtain⟨t,rfl⟩:=rx
 obtain⟨t',rfl⟩:=ry
 exact rule i j t t' s _ _ ⟨.int (g i j),H,I.tok _,⟨_,rfl⟩,q⟩
theorem Et {f:pv→pv→Sem pv}{g:Int→Int→Bool}
  (rule:∀(i j:Int)(t u:Tok)(s:wr)(Q:pv→wr→Prop)(E:pv→wr→Prop),Q (.bool (g i j)) s→wpAny (model X.prog X.w) X.A (f (.int i t) (.int j u)) Q E s):
  OpR X f (rI0 fun i j=>.bl (g i j)):=by
 intro pins s σ H x y v u Q I rx ry h
 obtain⟨i,j,rfl,rfl,q⟩:=h
 obtain⟨t,rfl⟩:=rx
 obtain⟨t',rfl⟩:=ry
 exact rule i j t t' s _ _ ⟨.bl (g i j),H,I,rfl,q⟩
def BE (i j:Int):Prop:=0≤j∧j≤1000000∧i.natAbs<2^64
theorem rB (k:Nat):(0:Int)≤2^k:=by
 rw[two_pow_cast]
 exact Int.natCast_nonneg _
theorem AO:OpR X (binaryOp .Add) (rI0 fun i j=>.int (i+j)):=rT fun _ _ _ _ _ _ _ q=>add_int q
theorem BK:OpR X (binaryOp .Sub) (rI0 fun i j=>.int (i- j)):=rT fun _ _ _ _ _ _ _ q=>sub_int q
theorem Dp:OpR X (binaryOp .Mod) (rI (fun _ j=>0<j) fun i j=>.int (i%j)):=opI fun i j _ _ _ _ _ hc q=>by
 have h1:(0:Int)<j:=hc
 exact mod_int' (by omega) (by rw[Int.fmod_eq_emod_of_nonneg i (by omega)];exact q)
theorem DP:OpR X (binaryOp .Pow) (rI BE fun i j=>.int (i^j.toNat)):=opI fun _ _ _ _ _ _ _ hc q=>pow_int_small hc.1 hc.2.1 hc.2.2 q
theorem DN:OpR X (binaryOp .LShift) (rI BE fun i j=>.int (i*2^j.toNat)):=opI fun _ _ _ _ _ _ _ hc q=>lshift_int_small hc.1 hc.2.1 hc.2.2 q
theorem Er:OpR X (binaryOp .RShift) (rI (fun _ j=>0≤j) fun i j=>.int (i/2^j.toNat)):=opI fun i j _ _ _ _ _ hc q=>
 rshift_int hc (by rw[Qw i (rB _)];exact q)
theorem Di:OpR X (binaryOp .BitAnd) (rI0 fun i j=>.int (MZ i j)):=rT fun _ _ _ _ _ _ _ q=>and_int q
theorem Dw:OpR X (binaryOp .BitXor) (rI0 fun i j=>.int (NZ i j)):=rT fun _ _ _ _ _ _ _ q=>xor_int q
theorem unI {f:pv→Sem pv}{g:Int→Int}
  (rule:∀(i:Int)(t:Tok)(s:wr)(Q:pv→wr→Prop)(E:pv→wr→Prop),Q (.int (g i) s.toks) {s with toks:=s.toks+1}→wpAny (model X.prog X.w) X.A (f (.int i t)) Q E s):
  UnR X f (rU fun i=>.int (g i)):=by
 intro pins s σ H x v Q I rx h
 obtain⟨i,rfl,q⟩:=h
 obtain⟨t,rfl⟩:=rx
 exact rule i t s _ _ ⟨.int (g i),H,I.tok _,⟨_,rfl⟩,q⟩
theorem BV:UnR X (unaryOp .USub) (rU fun i=>.int (-i)):=unI fun _ _ _ _ _ q=>neg_int q
end
def Ko:V→V→Bool
 |.non,.non=>true|.non,.int _=>true|.int _,.non=>true|.non,.bl _=>true|.bl _,.non=>true|.non,.str _=>true|.str _,.non=>true
 |.int _,.int _=>true|.bl _,.bl _=>true|.str _,.str _=>true|.byt _,.byt _=>true
 |.int _,.str _=>true|.str _,.int _=>true|.bl _,.str _=>true|.str _,.bl _=>true
 |_,_=>false
def rEq:R2:=fun x y H Q=>Ko x y=true∧Q (.bl (decide (x=y))) H
theorem Aa {i j:Int}:decide (V.int i=V.int j)=(i==j):=by
 rw[Ox]
 simp
theorem Dz {i j:Bool}:decide (V.bl i=V.bl j)=(i==j):=by
 rw[Ox]
 simp
theorem zK {i j:Str}:decide (V.str i=V.str j)=(i==j):=by
 rw[Ox]
 simp
theorem Ac {i j:Array UInt8}:decide (V.byt i=V.byt j)=(i.toList==j.toList):=by
 rw[Ox]
 cases i
 cases j
 simp
section
variable {X:Cx}{a b c:Expr}{ta tb tc:TE}{pos:Pos}
theorem cG {pins:List (Addr×Obj)}{σ:St}{H:Hp}{s:wr}{Q:VK}{k k':Bool}(I:Inv X pins σ H s)(q:Q (.bl k) H)(e:k=k'):EP X pins σ Q (.bool k') s:=by
 subst e
 exact⟨.bl k,H,I,rfl,q⟩
theorem GU:OpR X (compareOp .Eq) rEq:=by
 intro pins s σ H x y v u Q I rx ry h
 obtain⟨hs,q⟩:=h
 cases x with
 |non=>
  cases rx
  cases y with
  |non=>cases ry;exact PySem.EqNone.eq_none_none (cG I q (by simp))
  |bl j=>cases ry;exact PySem.EqNone.eq_none_bool (cG I q (by simp))
  |int j=>obtain⟨t',rfl⟩:=ry;exact PySem.EqNone.eq_none_int (cG I q (by simp))
  |str j=>obtain⟨t',rfl⟩:=ry;exact PySem.EqNone.eq_none_str (cG I q (by simp))
  |_=>exact absurd (show false=true from hs) Mm
 |bl i=>
  cases rx
  cases y with
  |non=>cases ry;exact PySem.EqNone.eq_bool_none (cG I q (by simp))
  |bl j=>cases ry;exact eq_bool (cG I q Dz)
  |str j=>obtain⟨t',rfl⟩:=ry;exact Th (cG I q (by simp))
  |_=>exact absurd (show false=true from hs) Mm
 |int i=>
  obtain⟨t,rfl⟩:=rx
  cases y with
  |non=>cases ry;exact PySem.EqNone.eq_int_none (cG I q (by simp))
  |int j=>obtain⟨t',rfl⟩:=ry;exact eq_int (cG I q Aa)
  |str j=>obtain⟨t',rfl⟩:=ry;exact Tg (cG I q (by simp))
  |_=>exact absurd (show false=true from hs) Mm
 |str i=>
  obtain⟨t,rfl⟩:=rx
  cases y with
  |non=>cases ry;exact PySem.EqNone.eq_str_none (cG I q (by simp))
  |bl j=>cases ry;exact Tf (cG I q (by simp))
  |int j=>obtain⟨t',rfl⟩:=ry;exact Td (cG I q (by simp))
  |str j=>obtain⟨t',rfl⟩:=ry;exact eq_str (cG I q zK)
  |_=>exact absurd (show false=true from hs) Mm
 |byt i=>
  obtain⟨t,rfl⟩:=rx
  cases y with
  |byt j=>obtain⟨t',rfl⟩:=ry;exact W.eq_bytes (cG I q Ac)
  |_=>exact absurd (show false=true from hs) Mm
 |_=>cases y<;>exact absurd (show false=true from hs) Mm
theorem HI:OpR X (compareOp .Lt) (rI0 fun i j=>.bl (decide (i<j))):=Et fun _ _ _ _ _ _ _ q=>lt_int q
theorem FM:OpR X (compareOp .LtE) (rI0 fun i j=>.bl (decide (i≤j))):=Et fun _ _ _ _ _ _ _ q=>le_int q
theorem Bq:OpR X (compareOp .Is) (fun x y H Q=>y=.non∧Q (.bl (decide (x=.non))) H):=by
 intro pins s σ H x y v u Q I rx ry h
 obtain⟨rfl,q⟩:=h
 cases ry
 refine is_none_gen (cG I q ?_)
 cases x<;>first
  |(cases rx;rfl)
  |(obtain⟨t,rfl⟩:=rx;rfl)
theorem OpR.or {f:pv→pv→Sem pv}{r r':R2}(h:OpR X f r)(h':OpR X f r'):OpR X f (fun x y H Q=>r x y H Q∨r' x y H Q):=by
 intro pins s σ H x y v u Q I rx ry q
 rcases q with q|q
 ·exact h pins s σ H x y v u Q I rx ry q
 ·exact h' pins s σ H x y v u Q I rx ry q
theorem lu (b:Expr){op:RZ}(h:op≠.In:=by decide)(h2:op≠.NotIn:=by decide):behindInMarks op b=false:=by
 have e1:(op==CmpOp.In)=false:=by cases op<;>first|rfl|exact absurd rfl h
 have e2:(op==CmpOp.NotIn)=false:=by cases op<;>first|rfl|exact absurd rfl h2
 cases b<;>simp[behindInMarks,e1,e2]
theorem zY {op:RZ}{r:R2}(ho:OpR X (compareOp op) r)(ha:PE X a ta)(hb:PE X b tb)(hm:behindInMarks op b=false):PE X (.Compare a [op] [b] pos) (tOp r ta tb):=by
 intro pins s σ H Q I h
 exact wpAny_Compare1 (xB ha hb I h fun v u s2 x y H2 I2 rx ry q=>ho pins s2 σ H2 x y v u Q I2 rx ry q) hm
def Bs (K:cW)(x:V)(H:Hp)(k:Bool):Prop:=
 match x with
 |.non=>k=false
 |.bl b=>k=b
 |.int i=>k=(i !=0)
 |.str y=>y.length≤sizeLine∧k=((y.length:Int) !=0)
 |.byt y=>y.size≤sizeLine∧k=((y.size:Int) !=0)
 |.ref p=>(∃xs,SqL K H p xs∧k= !xs.isEmpty)∨(∃xs,SqT K H p xs∧k= !xs.isEmpty)∨∃kvs,H p=some (.dK kvs)∧k= !kvs.isEmpty
 |_=>False
theorem rz {κ:Type}{kvs:List (κ×V)}{vs:List (κ×pv)}(r:KV kvs vs):(!vs.isEmpty)= !kvs.isEmpty:=by
 cases r<;>rfl
theorem li {xs:List V}{its:List pv}(r:aW xs its):(!its.toArray.isEmpty)= !xs.isEmpty:=by
 cases r<;>simp
theorem gJ:(sizeLine:Nat)<2^63:=by rw[MF];decide
theorem BY:Lq X (fun x H Q=>∃k,Bs X.K x H k∧Q k H):=by
 intro pins s σ H x v Q I rx h
 obtain⟨k,e,q⟩:=h
 have hl:=gJ
 have hs:sizeLine=16777216:=MF
 cases x with
 |non=>
  cases rx
  have e':k=false:=e
  subst e'
  exact truthy_none ⟨H,I,q⟩
 |bl b=>
  cases rx
  have e':k=b:=e
  subst e'
  exact Nv ⟨H,I,q⟩
 |int i=>
  obtain⟨t,rfl⟩:=rx
  have e':k=(i !=0):=e
  subst e'
  exact PySem.P.truthy_int ⟨H,I,q⟩
 |str y=>
  obtain⟨t,rfl⟩:=rx
  obtain⟨hy,e'⟩:y.length≤sizeLine∧k=((y.length:Int) !=0):=e
  subst e'
  exact PySem.P.truthy_str (by omega) ⟨H,I.tok _,q⟩
 |byt y=>
  obtain⟨t,rfl⟩:=rx
  obtain⟨hy,e'⟩:y.size≤sizeLine∧k=((y.size:Int) !=0):=e
  subst e'
  exact W.truthy_bytes (by omega) ⟨H,I.tok _,q⟩
 |ref p=>
  cases rx
  have e':(∃xs,SqL X.K H p xs∧k= !xs.isEmpty)∨(∃xs,SqT X.K H p xs∧k= !xs.isEmpty)∨∃kvs,H p=some (.dK kvs)∧k= !kvs.isEmpty:=e
  rcases e' with⟨xs,hx,e'⟩|⟨xs,hx,e'⟩|⟨kvs,hx,e'⟩
  ·subst e'
   obtain⟨its,r,pl,hz⟩:=I.list hx
   have hlen:=r.length
   exact wpAny_truthy_list pl.isList (by simp only[LP];omega) ⟨H,I.tok _,by rw[li r];exact q⟩
  ·subst e'
   obtain⟨its,r,pl,hz⟩:=I.tuple hx
   have hlen:=r.length
   exact truthy_tuple pl (by simp only[LP];omega) ⟨H,I.tok _,by rw[li r];exact q⟩
  ·subst e'
   obtain⟨hz,hS,vs,r,m⟩:kvs.length≤sizeLine∧(p==sysModules)=false∧∃vs,KV kvs vs∧s.heap.DictOf (bK X.prog X.w) p vs:=I.hok p _ hx
   have hlen:kvs.length=vs.length:=Paired.length r
   exact wpAny_truthy_dict hS m (by omega) ⟨H,I.tok _,by rw[rz r];exact q⟩
 |_=>exact(show False from e).elim
theorem sC:OpR X (binaryOp .Add) (fun x y H Q=>∃i j,x=.str i∧y=.str j∧i.length+j.length≤sizeLine∧Q (.str (i++j)) H):=by
 intro pins s σ H x y v u Q I rx ry h
 obtain⟨i,j,rfl,rfl,hz,q⟩:=h
 obtain⟨t,rfl⟩:=rx
 obtain⟨t',rfl⟩:=ry
 exact add_str (fun t' tk=>⟨.str (i++j),H,I.tok _,⟨_,rfl⟩,q⟩) hz
theorem ej {x:V}{us:List pv}(r:aW [x] us):∃u,us=[u]∧aJ x u:=by
 cases r with
 |cons r1 r2=>cases r2;exact⟨_,rfl,r1⟩
theorem oR {x y:V}{us:List pv}(r:aW [x,y] us):∃u w',us=[u,w']∧aJ x u∧aJ y w':=by
 cases r with
 |cons r1 r2=>
  cases r2 with
  |cons r3 r4=>cases r4;exact⟨_,_,rfl,r1,r3⟩
theorem ui (hc:X.calm=true):bI X (.builtin "min") (fun xs H Q=>∃i j,xs=[.int i,.int j]∧Q (.int (if j<i then j else i)) H):=by
 intro pins s σ H xs us Q I r h
 obtain⟨i,j,rfl,q⟩:=h
 obtain⟨u,w',rfl,⟨t,rfl⟩,⟨t',rfl⟩⟩:=oR r
 refine min_two_ints (I.ok.hd hc) fun h' tk k=>⟨_,H,I.kept k,?_,q⟩
 by_cases hj:j<i
 ·rw[if_pos hj,if_pos hj];exact⟨_,rfl⟩
 ·rw[if_neg hj,if_neg hj];exact⟨_,rfl⟩
theorem pC:bI X (.type "str") (fun xs H Q=>∃i,xs=[.int i]∧i.natAbs.log2<1920∧Q (.str (toString i)) H):=by
 intro pins s σ H xs us Q I r h
 obtain⟨i,rfl,hz,q⟩:=h
 obtain⟨u,rfl,t,rfl⟩:=ej r
 exact PySem.P.str_of_int hz ⟨.str _,H,I.tok _,⟨_,rfl⟩,q⟩
theorem xo:bI X (.builtin "ord") (fun xs H Q=>∃x,xs=[.str x]∧x.length=1∧Q (.int (x.cps.getD 0 0:Nat)) H):=by
 intro pins s σ H xs us Q I r h
 obtain⟨x,rfl,hz,q⟩:=h
 obtain⟨u,rfl,t,rfl⟩:=ej r
 exact ord_of_one hz ⟨.int _,H,I.tok _,⟨_,rfl⟩,q⟩
def JH (K:cW)(x:V)(H:Hp)(n:Nat):Prop:=
 match x with
 |.str y=>y.length≤sizeLine∧n=y.length
 |.byt y=>y.size≤sizeLine∧n=y.size
 |.ref p=>(∃xs,SqL K H p xs∧n=xs.length)∨∃xs,SqT K H p xs∧n=xs.length
 |_=>False
theorem jR:bI X (.builtin "len") (fun xs H Q=>∃x n,xs=[x]∧JH X.K x H n∧Q (.int n) H):=by
 intro pins s σ H xs us Q I r h
 obtain⟨x,n,rfl,e,q⟩:=h
 obtain⟨u,rfl,rx⟩:=ej r
 have hl:=gJ
 have hs:sizeLine=16777216:=MF
 cases x with
 |str y=>
  obtain⟨t,rfl⟩:=rx
  obtain⟨hy,e'⟩:y.length≤sizeLine∧n=y.length:=e
  subst e'
  exact len_str (by omega) ⟨.int _,H,I.tok _,⟨_,rfl⟩,q⟩
 |byt y=>
  obtain⟨t,rfl⟩:=rx
  obtain⟨hy,e'⟩:y.size≤sizeLine∧n=y.size:=e
  subst e'
  exact W.len_bytes (by omega) ⟨.int _,H,I.tok _,⟨_,rfl⟩,q⟩
 |ref p=>
  cases rx
  have e':(∃xs,SqL X.K H p xs∧n=xs.length)∨∃xs,SqT X.K H p xs∧n=xs.length:=e
  rcases e' with⟨xs,hx,e'⟩|⟨xs,hx,e'⟩
  ·subst e'
   obtain⟨its,r',pl,hz⟩:=I.list hx
   have hlen:=r'.length
   exact Calls.call_len_list pl.isList (by simp only[LP];omega) ⟨.int xs.length,H,I.tok _,⟨_,by simp only[LP];rw[hlen]⟩,q⟩
  ·subst e'
   obtain⟨its,r',pl,hz⟩:=I.tuple hx
   have hlen:=r'.length
   exact len_tuple pl (by simp only[LP];omega) ⟨.int xs.length,H,I.tok _,⟨_,by simp only[LP];rw[hlen]⟩,q⟩
 |_=>exact(show False from e).elim
end
structure jU (h:Heap)(x dx C:Addr)(mA:Str→Option pv):Prop where
 obj:h.get? x=some (Pb C dx)
 ns:h.Ns1 dx mA
 ne:dx≠x
theorem tT {h:Heap}{dx:Addr}{mA:Str→Option pv}(n:h.Ns1 dx mA):∃od,h.get? dx=some od∧∀name,Sh name od=some (mA name):=by
 obtain⟨o,es,ep,ho,hd,hk,_,hm⟩:=n
 refine⟨o,ho,fun name=>?_⟩
 have e:=hm name
 unfold nsFind findBy at e
 rw[←Array.find?_toList]at e
 unfold Sh
 rw[hd]
 dsimp only
 split
 ·rename_i y q
  rw[q]at e
  exact congrArg some e
 ·rename_i q
  rw[q]at e
  have a:es.toList.any (·.refKey)=false:=by
   rw[List.any_eq_false]
   intro y hy
   obtain⟨z,t,hkey⟩:=hk y (Array.mem_toList_iff.mp hy)
   simp[DictEntry.refKey,hkey]
  have a':¬es.toList.any (·.refKey)=true:=by rw[a];exact Mm
  rw[if_neg a']
  exact congrArg some e
theorem jU.look {h:Heap}{x dx C:Addr}{mA:Str→Option pv}(I:jU h x dx C mA):∃od,W.InstAt h x (Pb C dx) C (some od)∧∀name,Sh name od=some (mA name):=
 let ⟨od,ho,hl⟩:=tT I.ns
 ⟨od,⟨I.obj,rfl,rfl,ho⟩,hl⟩
section
variable {prog:Mf}{w:Mx}{A:Mn}{E:pv→wr→Prop}{s:wr}{K:cW}{x dx C f:Addr}{mA:Str→Option pv}{name:Str}{v:pv}
theorem AH {expr:Bool}{Q:pv→wr→Prop}(X:K.In s.heap)(I:jU s.heap x dx C mA)(hg:Np K C name=true)(hh:Nj K C=true)
  (ha:LL K (.ref C) name=some none)(hv:mA name=some v)(hv':QY v=true)(h:Q v {s with toks:=s.toks+1}):
  wpAny (model prog w) A (getAttr (.ref x) name expr) Q E s:=by
 obtain⟨od,J,hl⟩:=I.look
 exact W.get_value X J (Pg hg).1 (W.findObj_own hh ha rfl (by rw[hl,hv])) hv' h
theorem xG {pl:Sem Bool}{Q:pv×List pv→wr→Prop}(X:K.In s.heap)(I:jU s.heap x dx C mA)(hg:Np K C name=true)
  (hf:LL K (.ref C) name=some (some (.ref f)))(ht:MC K (.ref f)=true)(hv:mA name=none)(h:Q (.ref f,[.ref x]) s):
  wpAny (model prog w) A (getMethod (.ref x) name pl) Q E s:=by
 obtain⟨od,J,hl⟩:=I.look
 exact W.method_fn X J (Pg hg).1 (Pg hg).2 hf (beq_iff_eq.mp ht) (by show(Sh name od).map (·.isSome)=some false;rw[hl,hv];rfl) h
theorem Am {ns:List Str}{Q:Unit→wr→Prop}(X:K.In s.heap)(I:jU s.heap x dx C mA)
  (hs:LL K (.ref C) "__setattr__"=some (some (.builtin "object.__setattr__")))(hp:Nx K C=true)(ht:SZ K C name=some none)(hh:Nj K C=true)
  (hw:QP mA ns)(hsz:ns.length≤sizeLine)
  (h:∀h',jU h' x dx C (fun y=>if y=name then some v else mA y)→Oe dx s.heap h'→Q () {s with heap:=h',toks:=s.toks+2}):
  wpAny (model prog w) A (setAttr (.ref x) name v) Q E s:=by
 obtain⟨od,J,hl⟩:=I.look
 refine W.set_plain X J hs (W.osa_open (s:={s with toks:=s.toks+1}) (r:=none) X J hp ht fun b=>?_)
 obtain⟨cd,hc,hd'⟩:=W.any_some hh
 have hx:s.heap.get? x=some ⟨.ref C,some dx,.plain,#[]⟩:=I.obj
 refine tx (LU (tx (tx (wpAny_loadPart hx (tx (W.Looks.here (s:={s with toks:=s.toks+1}) (W.looks_clsIn X hc) ?_))))))
 rw[hd']
 refine LU (a:=some dx) (tx (LU (tx ?_)))
 refine wpAny_nsSet1 (s:={s with toks:=s.toks+1}) I.ns fun h' hn2 hs2=>?_
 obtain⟨oD,esD,epD,hoD,hdD,hcD⟩:=hn2.count (PySem.Within.cons name v hw)
 refine tx (wpAny_lookBehind hoD (by rw[hdD];exact pastItsLine_dict (Mh hcD (by rw[MR];omega))) ?_)
 exact LU (h _ ⟨(hs2.2 _ (Lt I.ne)).trans I.obj,hn2,I.ne⟩ hs2)
theorem vv {R:Result→wr→Prop}{vs:List pv}{kw:List (Str×pv)}(X:K.In s.heap)(hm:On K C=true)
  (hi:LL K (.ref C) "__init__"=some (some (.ref f)))(hf:W.typeIn K (.ref f)=some (.type "function"))
  (h:codeAny (model prog w) (A.under (.builtin "type.__call__" ⟨.ref C::vs,kw⟩)) (.call (.ref f) ⟨.ref (s.heap.objs.size+1)::vs,kw⟩) (W.InitBack (s.heap.objs.size+1) R)
   {s with heap:=(s.heap.push NT).push (Pb C s.heap.objs.size)}):
  codeAny (model prog w) A (.call (.ref C) ⟨vs,kw⟩) R s:=by
 obtain⟨hh,g,d,t,os⟩:=s
 exact W.make_core (W.makes_of X hm) (W.looks_findIn X hi) (fun self=>W.bind_fn X self hf) (.inl rfl) h
end
def aK (f:Str)(v:V):List (Str×V)→List (Str×V)
 |[]=>[(f,v)]
 |(g,x)::r=>if g=f then(g,v)::r else(g,x)::aK f v r
theorem jG (f g:Str)(v:V):∀fs:List (Str×V),(aK f v fs).lookup g=if g=f then some v else fs.lookup g
 |[]=>by
  show Ng g [(f,v)]=_
  by_cases h:g=f
  ·have hb:(g==f)=true:=beq_iff_eq.mpr h
   simp only[Ng,hb,if_pos h]
  ·have hb:(g==f)=false:=beq_eq_false_iff_ne.mpr h
   simp only[Ng,hb,if_neg h]
 |(k,x)::r=>by
  have ih:=jG f g v r
  rw[show aK f v ((k,x)::r)=(if k=f then(k,v)::r else(k,x)::aK f v r)from rfl]
  by_cases hk:k=f
  ·rw[if_pos hk]
   by_cases h:g=k
   ·have hb:(g==k)=true:=beq_iff_eq.mpr h
    simp only[Ng,hb,if_pos (h.trans hk)]
   ·have hb:(g==k)=false:=beq_eq_false_iff_ne.mpr h
    simp only[Ng,hb,if_neg (fun e:g=f=>h (e.trans hk.symm))]
  ·rw[if_neg hk]
   by_cases h:g=k
   ·have hb:(g==k)=true:=beq_iff_eq.mpr h
    simp only[Ng,hb,if_neg (fun e:g=f=>hk (h.symm.trans e))]
   ·have hb:(g==k)=false:=beq_eq_false_iff_ne.mpr h
    simp only[Ng,hb]
    exact ih
theorem iQ (f:Str)(v:V):∀fs:List (Str×V),f∈(aK f v fs).map (·.1)∧∀g,g∈fs.map (·.1)→g∈(aK f v fs).map (·.1)
 |[]=>⟨by simp[aK],fun g h=>by simp at h⟩
 |(k,x)::r=>by
  obtain⟨i1,i2⟩:=iQ f v r
  rw[show aK f v ((k,x)::r)=(if k=f then(k,v)::r else(k,x)::aK f v r)from rfl]
  by_cases hk:k=f
  ·rw[if_pos hk]
   subst hk
   exact⟨by simp,fun g h=>by simpa using h⟩
  ·rw[if_neg hk]
   refine⟨?_,fun g h=>?_⟩
   ·rw[Mo]
    exact LS _ i1
   ·rw[Mo]at h⊢
    rcases gV.mp h with e|e
    ·exact gV.mpr (.inl e)
    ·exact LS _ (i2 g e)
theorem jF (f:Str)(v:V):∀fs:List (Str×V),(aK f v fs).length≤fs.length+1
 |[]=>by simp[aK]
 |(k,x)::r=>by
  have ih:=jF f v r
  rw[show aK f v ((k,x)::r)=(if k=f then(k,v)::r else(k,x)::aK f v r)from rfl]
  by_cases hk:k=f
  ·rw[if_pos hk,MR,MR];omega
  ·rw[if_neg hk,MR,MR];omega
theorem cX.some_of {v:V}{o:Option pv}(r:cX (some v) o):∃u,o=some u∧aJ v u:=by
 cases o with
 |none=>exact(show False from r).elim
 |some u=>exact⟨u,rfl,r⟩
theorem cX.none_of {o:Option pv}(r:cX none o):o=none:=by
 cases o with
 |none=>rfl
 |some u=>exact(show False from r).elim
theorem uJ {v:V}{u:pv}(r:aJ v u):QY u=true:=by
 cases v with
 |non=>cases (show u=MM from r);rfl
 |bl b=>cases (show u=NI b from r);rfl
 |int i=>obtain⟨t,e⟩:=(show ∃t,u=OP i t from r);cases e;rfl
 |str x=>obtain⟨t,e⟩:=(show ∃t,u=Ow x t from r);cases e;rfl
 |byt b=>obtain⟨t,e⟩:=(show ∃t,u=Tb b t from r);cases e;rfl
 |flt b=>obtain⟨t,e⟩:=(show ∃t,u=Rj b t from r);cases e;rfl
 |ref a=>cases (show u=LK a from r);rfl
 |ty n=>cases (show u=OO n from r);rfl
section
variable {P:Mf}{w:Mx}{H H':Hp}{h h':Heap}{a C dx:Addr}{fs fs':List (Str×V)}
theorem fM (hok:HOk P w H h)(e:H a=some (.ins C dx fs)):∃mA,jU h a dx C mA∧(∀f,cX (fs.lookup f) (mA f))∧QP mA (fs.map (·.1))∧fs.length≤1000∧H dx=some (.own a):=by
 obtain⟨d,z,ne,ob,mA,n,r,q⟩:=(show bh P w H h a (.ins C dx fs)from hok a _ e)
 exact⟨mA,⟨ob,n,ne⟩,r,q,z,d⟩
end
structure Cls (K:cW)(C:Addr):Prop where
 pg:Np K C Nd=true
 hd:Nj K C=true
 po:Nx K C=true
 sa:LL K (.ref C) "__setattr__"=some (some (.builtin "object.__setattr__"))
theorem Cls.get {K:cW}{C:Addr}(c:Cls K C)(f:Str):Np K C f=true:=c.pg
def ba (K:cW)(C:Addr)(f:Str):Prop:=LL K (.ref C) f=some none
theorem ba.taker {K:cW}{C:Addr}{f:Str}(n:ba K C f):SZ K C f=some none:=by
 unfold SZ
 rw[show LL K (.ref C) f=some none from n]
 rfl
structure bO (K:cW)(C:Addr)(m:Str)(f:Addr):Prop where
 at_:LL K (.ref C) m=some (some (.ref f))
 fn:MC K (.ref f)=true
 kp:NF K (.ref f)=true
section
variable {X:Cx}{pins:List (Addr×Obj)}{σ:St}{H:Hp}{s:wr}{a C dx:Addr}{fs:List (Str×V)}{f:Str}{v:V}{A:Mn}{E:pv→wr→Prop}
theorem kD {b:Bool}{Q:pv→wr→Prop}(I:Inv X pins σ H s)(e:H a=some (.ins C dx fs))(c:Cls X.K C)(n:ba X.K C f)(l:fs.lookup f=some v)
  (h:∀u s',Inv X pins σ H s'→aJ v u→Q u s'):wpAny (model X.prog X.w) A (getAttr (.ref a) f b) Q E s:=by
 obtain⟨mA,O,r,_,_,_⟩:=fM I.hok e
 obtain⟨u,hu,ru⟩:=cX.some_of (v:=v) (o:=mA f) (by rw[←l];exact r f)
 exact AH I.kIn O (c.get f) c.hd n hu (uJ ru) (h u _ (I.tok _) ru)
theorem io {m:Str}{g:Addr}{pl:Sem Bool}{Q:pv×List pv→wr→Prop}(I:Inv X pins σ H s)(e:H a=some (.ins C dx fs))(c:Cls X.K C)(k:bO X.K C m g)(l:fs.lookup m=none)
  (h:Q (.ref g,[.ref a]) s):wpAny (model X.prog X.w) A (getMethod (.ref a) m pl) Q E s:=by
 obtain⟨mA,O,r,_,_,_⟩:=fM I.hok e
 have hn:mA m=none:=cX.none_of (by rw[←l];exact r m)
 exact xG I.kIn O (c.get m) k.at_ k.fn hn h
theorem sx {y:V}{u:pv}{Q:Unit→wr→Prop}(I:Inv X pins σ H s)(e:H a=some (.ins C dx fs))(c:Cls X.K C)(n:ba X.K C f)(hl:fs.length<1000)(ry:aJ y u)
  (h:∀s',Inv X pins σ (upd H a (.ins C dx (aK f y fs))) s'→Q () s'):wpAny (model X.prog X.w) A (setAttr (.ref a) f u) Q E s:=by
 obtain⟨mA,O,r,wi,_,ho⟩:=fM I.hok e
 have hz:(fs.map (·.1)).length≤sizeLine:=by rw[LJ,MF];omega
 refine Am I.kIn O c.sa c.po n.taker c.hd wi hz fun h' O' sb=>h _ ?_
 have hd:∃o,h'.get? dx=some o:=let ⟨o,_,_,e',_⟩:=O'.ns;⟨o,e'⟩
 refine I.write (x:=a) (e:=dx) (by rw[e];exact MY) (.inr ho) (fun b q hb z=>(sb.2 b hb).trans z) hd ?_
 refine⟨by rw[ao O.ne];exact ho,?_,O.ne,O'.obj,_,O'.ns,fun g=>?_,fun g hg=>?_⟩
 ·have:=jF f y fs;omega
 ·show cX ((aK f y fs).lookup g) (if g=f then some u else mA g)
  rw[jG]
  by_cases q:g=f
  ·rw[if_pos q,if_pos q];exact ry
  ·rw[if_neg q,if_neg q];exact r g
 ·by_cases q:g=f
  ·rw[q];exact(iQ f y fs).1
  ·refine(iQ f y fs).2 g (wi g fun z=>hg ?_)
   show(if g=f then some u else mA g)=none
   rw[if_neg q];exact z
theorem Inv.made (I:Inv X pins σ H s):Inv X pins σ (upd (upd H s.heap.objs.size (.own (s.heap.objs.size+1))) (s.heap.objs.size+1) (.ins C s.heap.objs.size []))
  {s with heap:=(s.heap.push NT).push (Pb C s.heap.objs.size)}:=by
 have e1:(s.heap.push NT).get? s.heap.objs.size=some NT:=Mb s.heap rfl
 have e2:((s.heap.push NT).push (Pb C s.heap.objs.size)).get? (s.heap.objs.size+1)=some (Pb C s.heap.objs.size):=by
  have:=Mb (s.heap.push NT) (o:=Pb C s.heap.objs.size) rfl
  rwa [OJ]at this
 have e3:(s.heap.push NT).Ns s.heap.objs.size (fun _=>none):=⟨NT,#[],_,e1,rfl,(fun e he=>absurd he (by simp)),fun _=>rfl⟩
 have I1:=I.laid (a:=s.heap.objs.size) (o:=.own (s.heap.objs.size+1)) (h':=s.heap.push NT) (t':=s.toks) (fun b u q=>If _ q) (ah _) ⟨_,e1⟩
 refine I1.laid (a:=s.heap.objs.size+1) (o:=.ins C s.heap.objs.size []) (t':=s.toks) (fun b u q=>If _ q) (Oj (OJ _ _)) ?_
 have ne:s.heap.objs.size≠s.heap.objs.size+1:=LY (Qe _)
 refine⟨by rw[ao ne,aj],Md _,ne,e2,fun _=>none,(Heap.Ns1.of_empty e3).at fun o q=>If _ q,fun _=>MY,fun y hy=>absurd rfl hy⟩
theorem zS {prog:Mf}{w:Mx}{env:Env}{e:Expr}{f:Str}{pos:Pos}{s:wr}{Q:pv→wr→Prop}(hb:attributeBase e f env (eval e env)=eval e env)
  (h:wpAny (model prog w) A (eval e env) (fun o s₁=>wpAny (model prog w) A (getAttr o f true) Q E s₁) E s):wpAny (model prog w) A (eval (.Attribute e f pos) env) Q E s:=
 Attribute_any_ h (by rw[arm_eval_Attribute,hb])
end
def aL (K:cW)(ta:TE)(f:Str):TE:=fun σ H Q=>ta σ H fun x H1=>∃a C dx fs v,x=.ref a∧H1 a=some (.ins C dx fs)∧Cls K C∧ba K C f∧fs.lookup f=some v∧Q v H1
def cv (K:cW)(ta tv:TE)(f:Str):TS:=fun D σ H=>tv σ H fun y H1=>ta σ H1 fun x H2=>∃a C dx fs,x=.ref a∧H2 a=some (.ins C dx fs)∧Cls K C∧ba K C f∧fs.length<1000∧
 D.nx σ (upd H2 a (.ins C dx (aK f y fs)))
section
variable {X:Cx}{o e value:Expr}{f:Str}{pos pos' tpos:Pos}{ta tv:TE}
theorem EI (he:PE X e ta)(hb:attributeBase e f X.env (eval e X.env)=eval e X.env):PE X (.Attribute e f pos) (aL X.K ta f):=by
 intro pins s σ H Q I h
 refine zS hb (thn (he pins s σ H _ I h) fun u s1 ⟨x,H1,I1,rx,a,C,dx,fs,v,ex,ea,c,n,l,q⟩=>?_)
 subst ex
 obtain rfl:u=LK a:=rx
 exact kD I1 ea c n l fun u' s2 I2 ru=>⟨v,H1,I2,ru,q⟩
theorem Eg (ha:PE X o ta)(hv:PE X value tv)(hs:swapsWith value (some (.Attribute o f pos')) pos.line X.env=pure false):PS X (.Assign [.Attribute o f pos'] value pos) (cv X.K ta tv f):=by
 intro pins s σ H D I h
 refine plainObj_wpAny_Assign_Attribute (thn (hv pins s σ H _ I h) fun u s1 ⟨y,H1,I1,ry,q⟩=>thn (ha pins s1 σ H1 _ I1 q) fun ov s2 ⟨x,H2,I2,rx,a,C,dx,fs,ex,ea,c,n,l,q2⟩=>?_) hs
 subst ex
 obtain rfl:ov=LK a:=rx
 exact sx I2 ea c n l ry fun s3 I3=>⟨σ,_,I3,q2⟩
end
section
variable {X:Cx}{pins:List (Addr×Obj)}{σ:St}{H:Hp}{s:wr}{A:Mn}{E:pv→wr→Prop}{Q:pv→wr→Prop}{c:pv}{b:Bool}
inductive eX (K:cW)(H:Hp):V→pv→Prop where
 |non:eX K H .non (.type "NoneType")
 |bl (x:Bool):eX K H (.bl x) (.type "bool")
 |int (i:Int):eX K H (.int i) (.type "int")
 |str (x:Str):eX K H (.str x) (.type "str")
 |flt (x:UInt64):eX K H (.flt x) (.type "float")
 |lst {a:Addr} {xs:List V} (e:H a=some (.lst xs)):eX K H (.ref a) (.type "list")
 |frz {a:Addr} {o:Obj} {xs:List V} (e:H a=some (.frz o (.lst xs))):eX K H (.ref a) (.type "list")
 |tup {a:Addr} {xs:List V} (e:H a=some (.tup xs)):eX K H (.ref a) (.type "tuple")
 |dK {a:Addr} {kvs:List (Key×V)} (e:H a=some (.dK kvs)):eX K H (.ref a) (.type "dict")
 |dT {a:Addr} {kvs:List (List Key×V)} (e:H a=some (.dT kvs)):eX K H (.ref a) (.type "dict")
 |ins {a C dx:Addr} {fs:List (Str×V)} (e:H a=some (.ins C dx fs)) (cl:Cls K C) (ha:LL K (.ref C) "__class__"=some (some (.builtin "object.__class__")))
  (hn:PF K (.builtin "object.__class__") "__get__"=some (some (.builtin "getset_descriptor.__get__"))) (htk:SY K (.builtin "object.__class__")=some true)
  (hm:Ms K C (.type "object")=some true):eX K H (.ref a) (.ref C)
theorem tQ {x:V}{u t:pv}(I:Inv X pins σ H s)(rx:aJ x u)(ty:eX X.K H x t)(e:Oy X.K t c=some b)(h:∀tk,Q (.bool b) {s with toks:=tk}):
  wpAny (model X.prog X.w) A (call (.builtin "isinstance") [u,c]) Q E s:=by
 cases ty with
 |non=>cases (show u=MM from rx);exact NQ W.kitx_none I.kIn MY e (fun z=>nomatch z) h
 |bl y=>cases (show u=NI y from rx);exact NQ W.kitx_bool I.kIn MY e (fun z=>nomatch z) h
 |int i=>obtain⟨t,q⟩:=(show ∃t,u=OP i t from rx);cases q;exact NQ W.kitx_int I.kIn MY e (fun z=>nomatch z) h
 |str y=>obtain⟨t,q⟩:=(show ∃t,u=Ow y t from rx);cases q;exact NQ W.kitx_str I.kIn MY e (fun z=>nomatch z) h
 |flt y=>obtain⟨t,q⟩:=(show ∃t,u=Rj y t from rx);cases q;exact NQ W.kitx_float I.kIn MY e (fun z=>nomatch z) h
 | @lst a xs ea=>
   cases (show u=LK a from rx)
   obtain⟨_,_,n,_,h1⟩:=(show bh X.prog X.w H s.heap a (.lst xs)from I.hok a _ ea)
   exact NQ W.kitx_list I.kIn ⟨_,h1,rfl⟩ e (fun z=>nomatch z) h
 | @frz a ob xs ea=>
   cases (show u=LK a from rx)
   obtain⟨_,_,_,n,_,h1⟩:=(show bh X.prog X.w H s.heap a (.frz ob (.lst xs))from I.hok a _ ea)
   exact NQ W.kitx_list I.kIn ⟨_,h1,rfl⟩ e (fun z=>nomatch z) h
 | @tup a xs ea=>
   cases (show u=LK a from rx)
   obtain⟨_,_,_,p⟩:=(show bh X.prog X.w H s.heap a (.tup xs)from I.hok a _ ea)
   obtain⟨o,h1,h2,_⟩:=p
   exact NQ W.kitx_tuple I.kIn ⟨o,h1,h2⟩ e (fun z=>nomatch z) h
 | @dK a kvs ea=>
   cases (show u=LK a from rx)
   obtain⟨_,_,vs,_,p⟩:=(show bh X.prog X.w H s.heap a (.dK kvs)from I.hok a _ ea)
   obtain⟨o,es,ep,h1,h2,_⟩:=p
   exact NQ W.kitx_dict I.kIn ⟨o,h1,h2.1⟩ e (fun z=>nomatch z) h
 | @dT a kvs ea=>
   cases (show u=LK a from rx)
   obtain⟨_,_,xs,_,o,es,ep,h1,h2,_⟩:=(show bh X.prog X.w H s.heap a (.dT kvs)from I.hok a _ ea)
   exact NQ W.kitx_dict I.kIn ⟨o,h1,h2.1⟩ e (fun z=>nomatch z) h
 | @ins a C dx fs ea cl ha hn htk hm=>
   cases (show u=LK a from rx)
   obtain⟨mA,O,_⟩:=fM I.hok ea
   obtain⟨od,J,_⟩:=O.look
   exact NQ (W.kitx_own (cl.get _) cl.hd ha hn htk hm) I.kIn J e (fun z=>nomatch z) h
end
structure aU (k:Nat)(A:Mn):Prop where
 hd:A.handled=none
 dp:A.depth+3*k+5<recursionLimit
 un:A.units+16*k+200<cLine
theorem aU.mono {j k:Nat}{A:Mn}(r:aU k A)(h:j≤k):aU j A:=⟨r.hd,by have:=r.dp;omega,by have:=r.un;omega⟩
theorem aU.deeper {k:Nat}{A:Mn}(r:aU (k+1) A)(env:Env):aU k (A.deeper env):=
 ⟨r.hd,by have:=r.dp;show A.depth+1+3*k+5<_;omega,by have:=r.un;show A.units+3+16*k+200<_;omega⟩
theorem tu {A:Mn}{C:Addr}{us:List pv}{kw:List (Str×pv)}:(A.under (.builtin "type.__call__" ⟨.ref C::us,kw⟩)).depth=A.depth+1:=by
 first|rfl|simp[QG,Code.weight,Code.isCreation,Code.isGuard,Code.isCaller,Code.frames,QZ,guardIds]
theorem rG {A:Mn}{C:Addr}{us:List pv}{kw:List (Str×pv)}:(A.under (.builtin "type.__call__" ⟨.ref C::us,kw⟩)).units=A.units+1:=by
 first|rfl|simp[QG,Code.cUnits,Code.frames,QZ]
theorem aU.make {k:Nat}{A:Mn}(r:aU (k+1) A)(C:Addr)(us:List pv)(kw:List (Str×pv)):aU k (A.under (.builtin "type.__call__" ⟨.ref C::us,kw⟩)):=
 ⟨r.hd,by have:=r.dp;rw[tu];omega,by have:=r.un;rw[rG];omega⟩
theorem aU.depth {k:Nat}{A:Mn}(r:aU k A):A.depth<recursionLimit:=by have:=r.dp;omega
theorem aU.units0 {k:Nat}{A:Mn}(r:aU k A):A.units<cLine:=by have:=r.un;omega
def am:TA:=fun _ H Q=>Q [] H
def af (ta:TE)(tr:TA):TA:=fun σ H Q=>ta σ H fun x H1=>tr σ H1 fun xs H2=>Q (x::xs) H2
section
variable {X:Cx}{e:Expr}{es:List Expr}{te:TE}{t:TA}{pos:Pos}
theorem Ej:PA X [] am:=fun _ _ _ _ H Q I h=>Calls.spliced_nil ⟨[],H,I,.nil,h⟩
theorem zX (ha:PE X e te)(hr:PA X es t)(hs:starEach (e::es) X.env=(false,eval e X.env)::starEach es X.env:=by rfl):PA X (e::es) (af te t):=by
 intro pos pins s σ H Q I h
 rw[hs]
 show wpAny _ _ (spliced ((false,eval e X.env)::backTo pos (starEach es X.env))) _ _ s
 refine Calls.spliced_cons (thn (ha pins s σ H _ I h) fun u s1 ⟨x,H1,I1,r1,q1⟩=>?_)
 exact thn (hr pos pins s1 σ H1 _ I1 q1) fun us s2 ⟨xs,H2,I2,r2,q2⟩=>⟨x::xs,H2,I2,.cons r1 r2,q2⟩
def eD (t:TA):TE:=fun σ H Q=>t σ H fun xs H1=>xs.length≤sizeLine∧∀p,H1 p=none→Q (.ref p) (upd H1 p (.tup xs))
def dZ (t:TA):TE:=fun σ H Q=>t σ H fun xs H1=>xs.length≤sizeLine∧∀p,H1 p=none→Q (.ref p) (upd H1 p (.lst xs))
theorem Ci {x1}(h:PA X es t):PE X (.Tuple es x1 pos) (eD t):=by
 intro pins s σ H Q I hq
 refine wpAny_Tuple_spliced (thn (h pos pins s σ H _ I hq) fun us s1 ⟨xs,H1,I1,r,z,q⟩=>⟨by rw[←r.length];exact z,?_⟩)
 have hf:H1 s1.heap.objs.size=none:=I1.hok.fresh (ah _)
 refine⟨.ref s1.heap.objs.size,upd H1 s1.heap.objs.size (.tup xs),I1.laid (t':=s1.toks) (fun b u e=>If _ e) (ah _) ?_,rfl,q _ hf⟩
 exact⟨z,us,r,⟨_,Mb _ rfl,rfl,_,rfl⟩⟩
theorem Ba (h:PA X es t):PE X (.List es pos) (dZ t):=by
 intro pins s σ H Q I hq
 refine wpAny_List_spliced (thn (h pos pins s σ H _ I hq) fun us s1 ⟨xs,H1,I1,r,z,q⟩=>⟨by rw[←r.length];exact z,?_⟩)
 have hf:H1 s1.heap.objs.size=none:=I1.hok.fresh (ah _)
 refine⟨.ref s1.heap.objs.size,upd H1 s1.heap.objs.size (.lst xs),I1.laid (t':=s1.toks) (fun b u e=>If _ e) (ah _) ?_,rfl,q _ hf⟩
 exact⟨z,us,0,r,Mb _ rfl⟩
end
abbrev Sp:=List V→Hp→VK→XK→Prop
abbrev CXT:=List Env→Hp→wr→XK→pv→wr→Prop
structure gR (P:Mf)(w:Mx)(K:cW)(mg:Str→Option pv)(base:Heap)(A:Mn)(outer:List Env)(s:wr)(H:Hp):Prop where
 frames:A.frames=some outer
 mod:Mod K mg base
 bs:∀b o,base.get? b=some o→s.heap.get? b=some o∧H b=none
 bsz:base.objs.size≤s.heap.objs.size
 funs:s.heap.FunFrames base outer
 frf:∀b∈frs outer,H b=none
 hok:HOk P w H s.heap
 bare:Po s.gens
def CE (outer:List Env)(P:Mf)(w:Mx)(H:Hp)(s:wr)(Q:VK)(u:pv)(s':wr):Prop:=
 ∃v H',s'.os=s.os∧Po s'.gens∧Un (frs outer) [] H H' s.heap s'.heap∧HOk P w H' s'.heap∧aJ v u∧Q v H'
def CR (CX:CXT)(outer:List Env)(P:Mf)(w:Mx)(H:Hp)(s:wr)(Q:VK)(E:XK)(r:Result)(s':wr):Prop:=
 match r with
 |.ok (.ret u)=>CE outer P w H s Q u s'
 |.ok _=>False
 |.error e=>CX outer H s E e s'
structure aB (P:Mf)(w:Mx)(K:cW)(mg:Str→Option pv)(base:Heap)(CX:CXT)(k:Nat)(f:Addr)(fd:LM)(ps:List Str)(sp:Sp):Prop where
 len:∀vs H Q E,sp vs H Q E→vs.length=ps.length
 run:∀(A:Mn)(outer:List Env)(s:wr)(H:Hp)(args:Args)(us:List pv)(vs:List V)(Q:VK)(E:XK),aU k A→gR P w K mg base A outer s H→RA s fd args (ps.zip us)→aW vs us→sp vs H Q E→
  codeAny (model P w) A (.call (.ref f) args) (CR CX outer P w H s Q E) s
theorem gR.make {P:Mf}{w:Mx}{K:cW}{mg:Str→Option pv}{base:Heap}{A:Mn}{outer:List Env}{s:wr}{H:Hp}(e:gR P w K mg base A outer s H)(C:Addr)(us:List pv)(kw:List (Str×pv)):
 gR P w K mg base (A.under (.builtin "type.__call__" ⟨.ref C::us,kw⟩)) outer s H:=⟨by first|exact e.frames|(simpa[QG,Code.envs,QZ,pushEnvs]using e.frames),e.mod,e.bs,e.bsz,e.funs,e.frf,e.hok,e.bare⟩
section
variable {X:Cx}{pins:List (Addr×Obj)}{σ:St}{H:Hp}{s s':wr}
theorem Inv.env0 (I:Inv X pins σ H s):gR X.prog X.w X.K X.mg X.base X.A X.stack s H:=
 ⟨I.ok.frames,I.ok.mod,I.bs,Mh I.ok.bsz I.sz,I.stack,I.stkFree,I.hok,I.bare⟩
theorem Inv.after {Q:VK}{u:pv}(I:Inv X pins σ H s)(h:CE X.stack X.prog X.w H s Q u s'):EP X pins σ Q u s':=by
 obtain⟨v,H',os,bare,un,hok,r,q⟩:=h
 obtain⟨hh,g,d,t,os'⟩:=s'
 obtain rfl:os'=s.os:=os
 exact⟨v,H',I.call (h':=hh) (g':=g) (d':=d) (t':=t) (ch:=[]) un hok bare (fun b z=>absurd z (by simp)),r,q⟩
end
def aH (K:cW)(fd:LM)(ps:List Str)(ds:List pv):Prop:=
 ∀(s:wr)(us:List pv),K.In s.heap→(us++ds).length=ps.length→RA s fd ⟨us,[]⟩ (ps.zip (us++ds))
theorem aH.all {K:cW}{fd:LM}{ps:List Str}(h:∀us:List pv,us.length=ps.length→bindArgs fd ⟨us,[]⟩=pure (ps.zip us)):aH K fd ps []:=fun s us _ hl=>by
 rw[ME]at hl⊢
 exact .of_eq (h us hl)
section
variable {X:Cx}{CX:CXT}{k:Nat}{f C:Addr}{fd:LM}{ps:List Str}{sp:Sp}{dvs:List V}{ds:List pv}{E:XK}{x m:Str}{p pos apos:Pos}{e o:Expr}{es:List Expr}{ta:TE}{t:TA}
structure Mk (K:cW)(C f:Addr):Prop where
 makes:On K C=true
 init:LL K (.ref C) "__init__"=some (some (.ref f))
 fn:MC K (.ref f)=true
 kp:NF K (.ref C)=true
end
structure aw (N P:List Str)(sc:Scope):Prop where
 kind:sc.kind=.function
 co:sc.isCoroutine=false
 gen:sc.isGenerator=false
 nd:N.Nodup
 pre:N.take P.length=P
 par:∀x∈P,sc.names.lookup x=some .local∨sc.names.lookup x=some .cell
 nofree:∀y∈sc.names,y.2≠.free
theorem mG {kindOf:Str→Option Nt}{x:Str}:∀{binds:List (Str×pv)}{m:Str→Option pv},(∀v,(x,v)∉binds)→bindL kindOf binds m x=m x
 |[],_,_=>rfl
 |(n,v)::r,m,h=>by
  unfold bindL
  rw[mG fun w hw=>h w (LS _ hw)]
  split
  ·have:x≠n:=by rintro rfl;exact h v Mg
   simp[this]
  ·rfl
theorem mU {kindOf:Str→Option Nt}{x:Str}:∀{binds:List (Str×pv)}{m:Str→Option pv},(∀v,(x,v)∉binds)→bindC kindOf binds m x=m x
 |[],_,_=>rfl
 |(n,v)::r,m,h=>by
  unfold bindC
  rw[mU fun w hw=>h w (LS _ hw)]
  split
  ·rfl
  ·have:x≠n:=by rintro rfl;exact h v Mg
   simp[this]
theorem mQ {kindOf:Str→Option Nt}{x:Str}{v:pv}:∀{P:List Str}{vs:List pv}{i:Nat}{m:Str→Option pv},P.Nodup→P[i]? =some x→vs[i]? =some v→kindOf x=some .local→
  bindL kindOf (P.zip vs) m x=some v
 |[],_,_,_,_,h,_,_=>by simp at h
 |_::_,[],_,_,_,_,h,_=>by simp at h
 |p::P,w::vs,0,m,nd,h1,h2,hk=>by
  simp at h1 h2;subst h1;subst h2
  show bindL kindOf ((p,w)::P.zip vs) m p=_
  unfold bindL
  rw[mG fun v hv=>(Mc.mp nd).1 (NV hv).1,if_pos hk]
  simp
 |p::P,w::vs,i+1,m,nd,h1,h2,hk=>by
  show bindL kindOf ((p,w)::P.zip vs) m x=_
  unfold bindL
  exact mQ (i:=i) (Mc.mp nd).2 (by simpa using h1) (by simpa using h2) hk
theorem mH {kindOf:Str→Option Nt}{x:Str}{v:pv}:∀{P:List Str}{vs:List pv}{i:Nat}{m:Str→Option pv},P.Nodup→P[i]? =some x→vs[i]? =some v→kindOf x≠some .local→
  bindC kindOf (P.zip vs) m x=some v
 |[],_,_,_,_,h,_,_=>by simp at h
 |_::_,[],_,_,_,_,h,_=>by simp at h
 |p::P,w::vs,0,m,nd,h1,h2,hk=>by
  simp at h1 h2;subst h1;subst h2
  show bindC kindOf ((p,w)::P.zip vs) m p=_
  unfold bindC
  rw[mU fun v hv=>(Mc.mp nd).1 (NV hv).1,if_neg hk]
  simp
 |p::P,w::vs,i+1,m,nd,h1,h2,hk=>by
  show bindC kindOf ((p,w)::P.zip vs) m x=_
  unfold bindC
  exact mH (i:=i) (Mc.mp nd).2 (by simpa using h1) (by simpa using h2) hk
def start (N:List Str)(vs:List V):St:=vs.map some++Qu (N.length- vs.length) none
def cH (CX:CXT)(P:Mf)(w:Mx)(K:cW)(mg:Str→Option pv)(base:Heap)(N:List Str)(qual:Str)(scope:Scope)(f:Addr)(cd:pv)(A:Mn)(outer:List Env)(s:wr)(H:Hp)(E:XK):Cx where
 prog:=P
 w:=w
 K:=K
 mg:=mg
 base:=base
 A:=A.deeper (envOfC qual scope s.heap.objs.size f cd)
 N:=N
 s₀:=s
 H₀:=H
 env:=envOfC qual scope s.heap.objs.size f cd
 outer:=outer
 stack:=envOfC qual scope s.heap.objs.size f cd::outer
 ex:=[]
 calm:=true
 fn:=fun _=>true
 pn:=[]
 xe:=fun e s'=>wpAny (model P w) (A.deeper (envOfC qual scope s.heap.objs.size f cd)) (leaving (envOfC qual scope s.heap.objs.size f cd) e) (fun _ s''=>CX outer H s E e s'') (fun e' s''=>CX outer H s E e' s'') s'
theorem pT {sc:Scope}{n:Nat}{x:Str}(h:sc.names.lookup x=some .cell):∃c,(cellsFrom n sc.names []).lookup x=some c:=by
 have q:=Qk sc.names n [] (.inl h)
 exact Mr.mp q
theorem mT {CX:CXT}{P:Mf}{w:Mx}{K:cW}{mg:Str→Option pv}{base:Heap}{N ps:List Str}{qual:Str}{scope:Scope}{f:Addr}{cd:pv}{A:Mn}{outer:List Env}{s s1:wr}{H:Hp}{E:XK}{us:List pv}{vs:List V}
  (S:aw N ps scope)(hd:A.handled=none)(e0:gR P w K mg base A outer s H)(hl:vs.length=ps.length)(r:aW vs us)
  (x:InCallC s s.heap.objs.size (bindL (envOfC qual scope s.heap.objs.size f cd).kindOf (ps.zip us) fun _=>none) (cellsFrom (s.heap.objs.size+1) scope.names []) (bindC (envOfC qual scope s.heap.objs.size f cd).kindOf (ps.zip us) fun _=>none) s1):
  Inv (cH CX P w K mg base N qual scope f cd A outer s H E) [] (start N vs) H s1:=by
 have hpl:ps.length≤N.length:=by have:=congrArg List.length S.pre;rw[Om]at this;omega
 obtain⟨h1,tk,rfl,hk⟩:=x.done
 have noA:∀b:Addr,b∉(cH CX P w K mg base N qual scope f cd A outer s H E).ex:=fun b z=>absurd (show b∈([]:List Addr)from z) (by simp)
 refine⟨⟨e0.mod,S.kind,rfl,rfl,ah _,fun y z c h1 h2=>?_,fun y hy=>?_,fun y c _ h=>?_,fun _=>hd,QQ e0.frames,.inr ⟨rfl,rfl⟩,fun b z=>absurd z (noA b),e0.bs,e0.bsz,fun b _ _=>noA b,fun b z=>absurd z (noA b),e0.funs,e0.frf⟩,
  rfl,e0.bare,Un.kept hk,⟨_,x.toInCall.ns,fun i y v h1 h2 h3=>?_⟩,fun y c h=>⟨_,x.cell y c h⟩,e0.hok.fresh (ah _),fun y c h=>?_,fun p hp=>absurd (show p∈([]:List (Addr×Obj))from hp) (by simp),e0.hok.kept hk,?_⟩
 ·exact name_of_addr x.apart (ML h1) (ML h2)
 ·have hy:scope.names.lookup y=some .cell∨scope.names.lookup y=some .free:=hy
  rcases hy with hy|hy
  ·exact pT hy
  ·exact absurd rfl (S.nofree _ (ML hy))
 ·exact Oi (x.above y c (ML h))
 ·have hi:i<vs.length:=by
   unfold start at h2
   by_cases hi:i<vs.length
   ·exact hi
   ·rw[OD (by simpa using hi)]at h2
    rw[QN]at h2
    split at h2<;>cases h2
  have ha:vs[i]?=some v:=by
   unfold start at h2
   rw[OK (by simpa using hi),Ml]at h2
   cases e:vs[i]? with
   |none=>rw[e]at h2;cases h2
   |some a=>rw[e]at h2;cases h2;rfl
  obtain⟨u,hu,rv⟩:=r.get ha
  have hp:ps[i]?=some y:=by
   rw[←S.pre,QD (by omega)];exact h1
  have ndP:ps.Nodup:=by rw[←S.pre];exact S.nd.sublist (RN _ _)
  refine⟨u,rv,?_⟩
  rcases S.par y (Ma hp)with k|k
  ·exact .inl ⟨k,mQ ndP hp hu k⟩
  ·obtain⟨c,e⟩:=pT (n:=s.heap.objs.size+1) k
   refine .inr ⟨.inl k,c,e,?_⟩
   have q:=x.cell y c e
   rw[mH ndP hp hu (by show scope.names.lookup y≠_;rw[k];decide)]at q
   exact q
 ·exact e0.hok.fresh (Oi (x.above y c (ML h)))
 ·unfold start
  show _=N.length
  rw[Mi,LJ,Pj]
  omega
theorem yu {CX:CXT}{P:Mf}{w:Mx}{K:cW}{mg:Str→Option pv}{base:Heap}{k:Nat}{f:Addr}{name qual:Str}{params:Arguments}{body:List Stmt}{scope:Scope}{dV kV doc pm cdv ct oc:pv}{an od:Option Addr}
  {osl:Array (Option pv)}{N ps:List Str}{sp:Sp}(lk:K.lookup f=some ⟨oc,od,.func (NR name qual params body scope dV kV doc pm an cdv ct),osl⟩)(hcd:Si K cdv qual=true)(S:aw N ps scope)
  (len:∀vs H Q E,sp vs H Q E→vs.length=ps.length)
  (hbody:∀(A:Mn)(outer:List Env)(s:wr)(H:Hp)(vs:List V)(Q:VK)(E:XK),aU k (A.deeper (envOfC qual scope s.heap.objs.size f cdv))→sp vs H Q E→
   ∃t,PSs (cH CX P w K mg base N qual scope f cdv A outer s H E) body t∧t {nx:=fun _ H'=>Q .non H',rt:=Q} (start N vs) H):
  aB P w K mg base CX (k+1) f (NR name qual params body scope dV kV doc pm an cdv ct) ps sp:=by
 refine⟨len,fun A outer s H args us vs Q E hr e0 hb r hsp=>?_⟩
 have hl:=len _ _ _ _ hsp
 have KX:K.In s.heap:=e0.mod.kin.keeps fun b o e=>(e0.bs b o e).1
 have lim:s.heap.NoLimit:=e0.mod.nolimit.keeps fun b o e=>(e0.bs b o e).1
 have hkind:∀y∈ps.zip us,scope.names.lookup y.1=some .local∨(scope.names.lookup y.1=some .cell∧((cellsFrom (s.heap.objs.size+1) scope.names []).lookup y.1).isSome=true):=fun⟨n,v⟩ hy=>by
  rcases S.par n (NV hy).1 with q|q
  ·exact .inl q
  ·exact .inr ⟨q,Qk _ _ _ (.inl q)⟩
 refine RV hr.depth (KX _ _ lk) rfl S.co S.gen rfl (W.codeRec_of KX hcd) (hb _ _ _ _ ?_)
 refine QX S.kind hkind fun env he s1 x=>?_
 subst he
 refine⟨lim.keeps x.toInCall.keep,codeAny_func ?_⟩
 obtain⟨t,ht,hq⟩:=hbody A outer s H vs Q E (hr.deeper _) hsp
 have I:Inv (cH CX P w K mg base N qual scope f cdv A outer s H E) [] (start N vs) H s1:=mT S hr.hd e0 hl r x
 refine Mj (ht [] s1 (start N vs) H _ I hq) (fun fl s' hs=>?_) fun e s' hs=>hs
 have fin:∀{σ':St}{H':Hp}{v:V}{u:pv},Inv (cH CX P w K mg base N qual scope f cdv A outer s H E) [] σ' H' s'→aJ v u→Q v H'→CE outer P w H s Q u s':=
  fun{σ' H' v u} J rv q=>⟨v,H',J.os,J.bare,J.base,J.hok,rv,q⟩
 cases fl with
 |ret u=>
  obtain⟨v,σ',H',J,rv,q⟩:=hs
  exact fin J rv q
 |next=>
  obtain⟨σ',H',J,q⟩:=hs
  exact fin (v:=V.non) (u:=MM) J rfl q
 |brk=>
  obtain⟨_,_,_,q⟩:=hs
  exact Mq q
 |cont=>
  obtain⟨_,_,_,q⟩:=hs
  exact Mq q
section
variable {X:Cx}{x:Str}{p pos:Pos}{e:Expr}{es:List Expr}{t:TA}{id T:String}{r:List V→Hp→VK→Prop}
def tCB (r:List V→Hp→VK→Prop)(t:TA):TE:=fun σ H Q=>t σ H fun vs H1=>r vs H1 Q
theorem xi (hc:bI X (.builtin id) r)(hg:Gl X x)(hm:X.mg x=none)(hv:bootBuiltins x=some (.builtin id))(ha:PA X (e::es) t)(hn:x≠"__name__":=by decide)(hdb:(x==("__debug__":Str))=false:=by decide)
  (he:starEach (e::es) X.env=(false,eval e X.env)::starEach es X.env:=by rfl)(hpl:(backTo pos (starEach es X.env)).any (·.1)=false:=by rfl):PE X (.Call (.Name x p) (e::es) [] pos) (tCB r t):=by
 intro pins s σ H Q I h
 refine Ni (iX I hg hm hv ?_ hn hdb)
 exact PyProof.Rows.callWith_builtin1 (thn (ha pos pins s σ H _ I h) fun us s1 ⟨vs,H1,I1,r1,q1⟩=>hc pins s1 σ H1 vs us Q I1 r1 q1) he hpl
theorem uF (hc:bI X (.type T) r)(hg:Gl X x)(hm:X.mg x=none)(hv:bootBuiltins x=some (.type T))(ha:PA X (e::es) t)(hn:x≠"__name__":=by decide)(hdb:(x==("__debug__":Str))=false:=by decide)
  (he:starEach (e::es) X.env=(false,eval e X.env)::starEach es X.env:=by rfl)(hpl:(backTo pos (starEach es X.env)).any (·.1)=false:=by rfl):PE X (.Call (.Name x p) (e::es) [] pos) (tCB r t):=by
 intro pins s σ H Q I h
 refine Ni (iX I hg hm hv ?_ hn hdb)
 exact Oa (thn (ha pos pins s σ H _ I h) fun us s1 ⟨vs,H1,I1,r1,q1⟩=>hc pins s1 σ H1 vs us Q I1 r1 q1) he hpl
end
end L2
namespace HT
open PySem PyProof.Rows
section
open PySem.SeqAt
open PySem.AutoSeq1 (wpAny_loadPart')
open PySem.MeetsSeq PySem.MeetsSeq2 PySem.MeetsSeq3
end
section
variable {prog:Mf}{w:Mx}{A:Mn}{E:pv→wr→Prop}{s:wr}
theorem zQ {t b:Addr}{vs ws:List pv}{Q:pv→wr→Prop}(ht:Tq s.heap t vs.toArray)(hb:Tq s.heap b ws.toArray)(hv:vs≠[])
  (h1:ws=[]→Q (.ref t) s)(h2:ws≠[]→Q (.ref s.heap.objs.size) {s with heap:=s.heap.push {cls:=.type "tuple",data:=.seq (vs++ws).toArray}})
  (hsz:vs.length+ws.length≤sizeLine):wpAny (model prog w) A (binaryOp .Add (.ref t) (.ref b)) Q E s:=by
 obtain⟨⟨cls,dd,data,sl⟩,ho,hc,n,hd⟩:=id ht
 obtain⟨⟨cls2,dd2,data2,sl2⟩,ho2,hc2,n2,hd2⟩:=id hb
 simp only at hc hd hc2 hd2
 subst hc hd hc2 hd2
 have e:vs.toArray++ws.toArray=(vs++ws).toArray:=by simp
 by_cases hw:ws=[]
 ·exact RU ⟨_,ho,rfl⟩ ⟨_,ho2,rfl⟩ Qz Rx OU OR (OG _ _)
   (tuple_addW1 t b vs.toArray ws.toArray n n2 dd dd2 sl sl2 (by simpa using hv) (by simp[hw])) ⟨ho,ho2,h1 hw⟩
 ·refine RU ⟨_,ho,rfl⟩ ⟨_,ho2,rfl⟩ Qz Rx OU OR (OG _ _)
   (tuple_addW2 t b vs.toArray ws.toArray n n2 dd dd2 sl sl2 (by simpa using hv) (by simpa using hw) (by rw[LP,LP];exact hsz)) ⟨ho,ho2,?_⟩
  rw[e]
  exact h2 hw
def sIx (n d:Nat):Option Int→Nat
 |none=>d
 |some v=>if v<0 then(v+(n:Int)).toNat else min v.toNat n
theorem AU (n d:Nat)(hd:d≤n)(o:Option Int):sIx n d o≤n:=by
 cases o with
 |none=>exact hd
 |some v=>
  show(if v<0 then(v+(n:Int)).toNat else min v.toNat n)≤n
  by_cases hv:v<0
  ·rw[if_pos hv];omega
  ·rw[if_neg hv];exact Sl _ _
theorem rc (v:Int)(n d:Nat):(if v<0 then max (v+(n:Int)) 0 else min v (n:Int))=((sIx n d (some v):Nat):Int):=by
 show(if v<0 then max (v+(n:Int)) 0 else min v (n:Int))=(((if v<0 then(v+(n:Int)).toNat else min v.toNat n):Nat):Int)
 by_cases hv:v<0
 ·simp only[if_pos hv];omega
 ·simp only[if_neg hv];omega
theorem rA (lo hi:Option Int)(n:Nat):Og lo hi 1 (n:Int)=(((sIx n 0 lo:Nat):Int),((sIx n n hi:Nat):Int)):=by
 have h1:¬((1:Int)<0):=by omega
 unfold Og
 simp only[h1,if_false]
 refine SI ?_ ?_
 ·cases lo with
  |none=>rfl
  |some v=>exact rc v n 0
 ·cases hi with
  |none=>rfl
  |some v=>exact rc v n n
theorem rY (i j:Nat):NB (i:Int) (j:Int) 1=j- i:=by
 unfold NB
 have h1:(1:Int)>0:=by omega
 simp only[h1,if_true,Int.ediv_one]
 split<;>omega
theorem kJ {v:pv}{o:Option Int}{Q:Option Int→wr→Prop}(p:Qo v o)(h:Q o s):wpAny (model prog w) A (Tl v) Q E s:=by
 cases p with
 |none=>exact slicePart_none h
 |int i t=>exact slicePart_int h
theorem fX {sl:Addr}{vl vu:pv}{lo hi:Option Int}{n:Nat}{Q:Int×Int×Nat→wr→Prop}(hs:s.heap.IsSliceOf sl vl vu .none)(pl:Qo vl lo)(pu:Qo vu hi)
  (h:Q (((sIx n 0 lo:Nat):Int),1,sIx n n hi- sIx n 0 lo) s):wpAny (model prog w) A (Pu (.ref sl) (pure (n:Int))) Q E s:=by
 obtain⟨os,hos,hcs,hds⟩:=id hs
 unfold Pu Tn
 refine tx (tx (OM hos hds (x:=vl) rfl (tx (OM hos hds (x:=vu) rfl (tx (OM hos hds (x:=.none) rfl (LU ?_)))))))
 refine tx (slicePart_none ?_)
 show wpAny _ _ (if ((1:Int)==0)=true then _ else _) _ _ s
 rw[if_neg (by decide)]
 refine tx (kJ pl (tx (kJ pu (tx (LU ?_)))))
 show wpAny _ _ (match Og lo hi 1 (n:Int)with|(lo,hi)=>pure (lo,(1:Int),NB lo hi 1)) _ _ s
 rw[rA lo hi n]
 show wpAny _ _ (pure (((sIx n 0 lo:Nat):Int),(1:Int),NB ((sIx n 0 lo:Nat):Int) ((sIx n n hi:Nat):Int) 1)) _ _ s
 rw[rY]
 exact LU h
theorem vz (xs:Array pv)(i k:Nat):((Ny k).filterMap fun(m:Nat)=>xs[((i:Int)+(m:Int)*1).toNat]?).toArray=((xs.toList.drop i).take k).toArray:=by
 have e:(fun(m:Nat)=>xs[((i:Int)+(m:Int)*1).toNat]?)=fun m=>xs[i+m]?:=by
  funext m
  have:((i:Int)+(m:Int)*1).toNat=i+m:=by omega
  rw[this]
 rw[e]
 have:=pick_run xs i k
 rw[List.filterMap_map]at this
 have e2:((fun x=>xs[x]?)∘fun x=>i+x)=fun m=>xs[i+m]?:=rfl
 rw[e2]at this
 rw[this]
theorem jE {t sl:Addr}{items:Array pv}{vl vu:pv}{lo hi:Option Int}{Q:pv→wr→Prop}(ht:Tq s.heap t items)(hs:s.heap.IsSliceOf sl vl vu .none)(pl:Qo vl lo)(pu:Qo vu hi)
  (hw:¬(sIx items.size 0 lo=0∧sIx items.size items.size hi=items.size))
  (h:Q (.ref s.heap.objs.size) {s with heap:=s.heap.push {cls:=.type "tuple",data:=.seq ((items.toList.drop (sIx items.size 0 lo)).take (sIx items.size items.size hi- sIx items.size 0 lo)).toArray}})
  (hsz:items.size≤sizeLine):wpAny (model prog w) A (getItem (.ref t) (.ref sl)) Q E s:=by
 have htake:sizeOk (.seq ((items.toList.drop (sIx items.size 0 lo)).take (sIx items.size items.size hi- sIx items.size 0 lo)).toArray):=by
  show((items.toList.drop (sIx items.size 0 lo)).take (sIx items.size items.size hi- sIx items.size 0 lo)).toArray.size≤sizeLine
  rw[LP,Om,Sd,Nr]
  omega
 have hj:sIx items.size items.size hi≤items.size:=AU _ _ (ah _) hi
 obtain⟨os,hos,hcs,hds⟩:=id hs
 have hTs:s.TypeIs (.ref sl) "slice":=⟨os,hos,hcs⟩
 unfold getItem
 try with_reducible refine Nh ?_
 first|refine tx (LU ?_)|skip
 refine tx (SM ht.typeIs (by decide) ?_)
 refine tx (Pl (name:=NS "__getitem__") ht.typeIs My
  (NC My ht.typeIs Sy ?_ (SH _ _)))
 show wpAny _ _ (Pt (.ref t)>>=_) _ _ s
 refine tx (tupleItemsOf_ ht ?_)
 refine tx (RQ hTs ?_)
 rw[if_pos (by decide)]
 refine tx (fX hs pl pu ?_)
 have hno:¬((((sIx items.size 0 lo:Nat):Int)==0&&(1:Int)==1&&(sIx items.size items.size hi- sIx items.size 0 lo)==items.size)=true):=by
  intro q
  rw[Mz,Mz]at q
  have q1:((sIx items.size 0 lo:Nat):Int)=0:=Sf q.1.1
  have q2:sIx items.size items.size hi- sIx items.size 0 lo=items.size:=Sf q.2
  exact hw ⟨by omega,by omega⟩
 show wpAny _ _ (if (((sIx items.size 0 lo:Nat):Int)==0&&(1:Int)==1&&(sIx items.size items.size hi- sIx items.size 0 lo)==items.size)=true then _ else _) _ _ s
 rw[if_neg hno,vz]
 first
  |exact tx (m:=NG _) (NL (LU ⟨_,rfl,LU h⟩) htake)
  |exact tx (m:=NG _) (NL (tx (LU (LU ⟨_,rfl,LU h⟩))) htake)
  |exact tx (tx (m:=NG _) (NL (LU (LU ⟨_,rfl,LU h⟩)) htake))
  |exact tx (tx (m:=NG _) (NL (LU ⟨_,rfl,LU h⟩) htake))
end
end HT
namespace L2
open PySem PySem.Spec PyProof.Rows
abbrev TO:=St→Hp→(Option Int→Hp→Prop)→Prop
def PO (X:Cx)(e:Option Expr)(t:TO):Prop:=
 ∀(pins:List (Addr×Obj))(s:wr)(σ:St)(H:Hp)(Q:Option Int→Hp→Prop),Inv X pins σ H s→t σ H Q→
  wpAny (model X.prog X.w) X.A (evalPart e X.env) (fun u s'=>∃o H',Inv X pins σ H' s'∧Qo u o∧Q o H') X.xe s
def jk:TO:=fun _ H Q=>Q none H
def nY (t:TE):TO:=fun σ H Q=>t σ H fun x H1=>∃i,x=.int i∧Q (some i) H1
section
variable {X:Cx}{e:Expr}{te:TE}{lo hi:Option Expr}{tl th:TO}{pos p2:Pos}
theorem An:PO X none jk:=by
 intro pins s σ H Q I h
 rw[evalPart_none]
 exact LU ⟨none,H,I,.none,h⟩
theorem Aw (h:PE X e te):PO X (some e) (nY te):=by
 intro pins s σ H Q I hw
 rw[evalPart_some]
 refine thn (h pins s σ H _ I hw) fun u s1 ⟨x,H1,I1,r1,q1⟩=>?_
 obtain⟨i,rfl,q⟩:=q1
 obtain⟨t,rfl⟩:=r1
 exact⟨some i,H1,I1,.int i t,q⟩
def SlR (X:Cx)(r:V→Option Int→Option Int→Hp→VK→Prop):Prop:=
 ∀(pins:List (Addr×Obj))(s:wr)(σ:St)(H:Hp)(x:V)(v vl vu:pv)(lo hi:Option Int)(sl:Addr)(Q:VK),Inv X pins σ H s→aJ x v→s.heap.IsSliceOf sl vl vu .none→Qo vl lo→Qo vu hi→r x lo hi H Q→
  ∃T id,typeLookup (.type T) "__getitem__"=pure (some (.builtin id))∧s.TypeIs v T∧wpAny (model X.prog X.w) X.A (getItem v (.ref sl)) (EP X pins σ Q) X.xe s
theorem SlR.or {r r':V→Option Int→Option Int→Hp→VK→Prop}(h:SlR X r)(h':SlR X r'):SlR X (fun x lo hi H Q=>r x lo hi H Q∨r' x lo hi H Q):=by
 intro pins s σ H x v vl vu lo hi sl Q I rx hs pl pu q
 rcases q with q|q
 ·exact h pins s σ H x v vl vu lo hi sl Q I rx hs pl pu q
 ·exact h' pins s σ H x v vl vu lo hi sl Q I rx hs pl pu q
def tSl (r:V→Option Int→Option Int→Hp→VK→Prop)(te:TE)(tl th:TO):TE:=fun σ H Q=>te σ H fun x H1=>tl σ H1 fun l H2=>th σ H2 fun u H3=>r x l u H3 Q
theorem vr {r:V→Option Int→Option Int→Hp→VK→Prop}(hr:SlR X r)(he:PE X e te)(hl:PO X lo tl)(hu:PO X hi th):PE X (.Subscript e (.Slice lo hi none p2) pos) (tSl r te tl th):=by
 intro pins s σ H Q I h
 refine Subscript_ (thn (he pins s σ H _ I h) fun v s1 ⟨x,H1,I1,r1,q1⟩=>?_)
 refine wpAny_Slice (thn (hl pins s1 σ H1 _ I1 q1) fun vl s2 ⟨l,H2,I2,pl,q2⟩=>thn (hu pins s2 σ H2 _ I2 q2) fun vu s3 ⟨u,H3,I3,pu,q3⟩=>?_)
 rw[evalPart_none]
 refine LU ?_
 have I4:Inv X pins σ H3 {s3 with heap:=s3.heap.push {cls:=.type "slice",data:=.fields #[vl,vu,.none]}}:=I3.kept (t':=s3.toks) fun b ob q=>If _ q
 obtain⟨T,id,hT,ht,hg⟩:=hr pins {s3 with heap:=s3.heap.push {cls:=.type "slice",data:=.fields #[vl,vu,.none]}} σ H3 x v vl vu l u s3.heap.objs.size Q I4 r1 (SG ..) pl pu q3
 show wpAny (model X.prog X.w) X.A (subscriptTail e (.Slice lo hi none p2) v (.ref s3.heap.objs.size)) (EP X pins σ Q) X.xe {s3 with heap:=s3.heap.push {cls:=.type "slice",data:=.fields #[vl,vu,.none]}}
 exact tail_any (ops:=[.ref s3.heap.objs.size,v]) ht hT hg (by with_unfolding_all rfl)
def gj (xs:List V)(lo hi:Option Int):List V:=(xs.drop (HT.sIx xs.length 0 lo)).take (HT.sIx xs.length xs.length hi- HT.sIx xs.length 0 lo)
theorem jI (xs:List V)(lo hi:Option Int):(gj xs lo hi).length≤xs.length:=by
 unfold gj
 rw[Om,Sd]
 omega
def JG (K:cW):V→Option Int→Option Int→Hp→VK→Prop:=fun x lo hi H Q=>∃a xs,x=.ref a∧SqT K H a xs∧
 ¬(HT.sIx xs.length 0 lo=0∧HT.sIx xs.length xs.length hi=xs.length)∧∀p,H p=none→Q (.ref p) (upd H p (.tup (gj xs lo hi)))
theorem Bk:SlR X (JG X.K):=by
 intro pins s σ H x v vl vu lo hi sl Q I rx hs pl pu h
 obtain⟨a,xs,rfl,hx,hw,q⟩:=h
 cases rx
 obtain⟨its,r,ht,hz⟩:=I.tuple hx
 have hlen:its.toArray.size=xs.length:=by rw[LP];exact r.length.symm
 refine⟨"tuple",_,My.lookup,ht.typeIs,?_⟩
 refine HT.jE ht hs pl pu (by rw[hlen];exact hw) ?_ (by rw[hlen];exact hz)
 rw[hlen]
 refine⟨.ref s.heap.objs.size,_,I.laid (t':=s.toks) (o:=.tup (gj xs lo hi)) (fun b ob q=>If _ q) (ah _) ?_,rfl,q _ (I.hok.fresh (ah _))⟩
 exact⟨Mh (jI xs lo hi) hz,_,(r.drop (HT.sIx xs.length 0 lo)).take (HT.sIx xs.length xs.length hi- HT.sIx xs.length 0 lo),IsTup.new _ _⟩
def Hy (K:cW):R2:=fun x y H Q=>∃a b xs ys,x=.ref a∧y=.ref b∧SqT K H a xs∧SqT K H b ys∧xs≠[]∧xs.length+ys.length≤sizeLine∧
 (ys=[]→Q (.ref a) H)∧(ys≠[]→∀p,H p=none→Q (.ref p) (upd H p (.tup (xs++ys))))
theorem aW.nil_iff {xs:List V}{us:List pv}(r:aW xs us):us=[]↔xs=[]:=by
 cases r with
 |nil=>simp
 |cons _ _=>simp
theorem AI:OpR X (binaryOp .Add) (Hy X.K):=by
 intro pins s σ H x y v u Q I rx ry h
 obtain⟨a,b,xs,ys,rfl,rfl,ha,hb,hx,hz,q1,q2⟩:=h
 cases rx
 cases ry
 obtain⟨its,r1,p1,_⟩:=I.tuple ha
 obtain⟨its2,r2,p2,_⟩:=I.tuple hb
 refine HT.zQ p1 p2 (fun z=>hx (r1.nil_iff.mp z)) (fun z=>⟨.ref a,H,I,rfl,q1 (r2.nil_iff.mp z)⟩) (fun z=>?_) (by rw[←r1.length,←r2.length];exact hz)
 refine⟨.ref s.heap.objs.size,_,I.laid (t':=s.toks) (o:=.tup (xs++ys)) (fun b ob q=>If _ q) (ah _) ?_,rfl,q2 (fun w=>z (r2.nil_iff.mpr w)) _ (I.hok.fresh (ah _))⟩
 exact⟨by rw[Mi];exact hz,_,r1.append r2,IsTup.new _ _⟩
end
def ixN (n:Nat)(i:Int):Option Nat:=if 0≤i then(if i<n then some i.toNat else none)else if-(n:Int)≤i then some (i+n).toNat else none
def atI {α:Type}(xs:List α)(i:Int):Option α:=(ixN xs.length i).bind fun j=>xs[j]?
theorem qF {n:Nat}{i:Int}{j:Nat}(h:ixN n i=some j):seqIndex? i n=some j∧j<n∧ -(n:Int)≤i∧i<n:=by
 unfold ixN at h
 by_cases h0:0≤i
 ·rw[if_pos h0]at h
  by_cases h1:i<n
  ·rw[if_pos h1]at h
   have e:i.toNat=j:=Me h
   exact⟨by rw[Sr h0 h1,e],by omega,by omega,h1⟩
  ·rw[if_neg h1]at h;cases h
 ·rw[if_neg h0]at h
  by_cases h1: -(n:Int)≤i
  ·rw[if_pos h1]at h
   have e:(i+n).toNat=j:=Me h
   exact⟨by rw[RT (by omega) h1,e],by omega,h1,by omega⟩
  ·rw[if_neg h1]at h;cases h
theorem eU {α:Type}{xs:List α}{i:Int}{v:α}(h:atI xs i=some v):∃j,seqIndex? i xs.length=some j∧xs[j]? =some v∧j<xs.length∧ -(xs.length:Int)≤i∧i<xs.length:=by
 unfold atI at h
 cases e:ixN xs.length i with
 |none=>rw[e]at h;cases h
 |some j=>
  rw[e]at h
  obtain⟨h1,h2,h3,h4⟩:=qF e
  exact⟨j,h1,h,h2,h3,h4⟩
theorem wl {α:Type}(xs:List α)(v:α):atI (xs++[v]) (-1)=some v:=by
 have hl:(xs++[v]).length=xs.length+1:=by simp
 have e:ixN (xs++[v]).length (-1)=some xs.length:=by
  unfold ixN
  rw[hl,if_neg (by decide),if_pos (by omega)]
  congr 1
  omega
 unfold atI
 rw[e]
 show(xs++[v])[xs.length]?=some v
 simp
def re (b:Expr):Prop:=∀o i,subscripted b false o i=operate [o,i] (getItem o i)
def IxR (X:Cx)(r:R2):Prop:=
 ∀(value slice:Expr)(pins:List (Addr×Obj))(s:wr)(σ:St)(H:Hp)(x y:V)(v u:pv)(Q:VK),Inv X pins σ H s→aJ x v→aJ y u→r x y H Q→
  subscripted slice false v u=operate [v,u] (getItem v u)→wpAny (model X.prog X.w) X.A (subscriptTail value slice v u) (EP X pins σ Q) X.xe s
def MtR (X:Cx)(id:String)(r:V→List V→Hp→VK→Prop):Prop:=
 ∀(pins:List (Addr×Obj))(s:wr)(σ:St)(H:Hp)(x:V)(xs:List V)(v:pv)(us:List pv)(Q:VK),Inv X pins σ H s→aJ x v→aW xs us→r x xs H Q→
  wpAny (model X.prog X.w) X.A (call (.builtin id) (v::us)) (EP X pins σ Q) X.xe s
section
variable {X:Cx}{a b:Expr}{ta tb:TE}{pos:Pos}
theorem IxR.or {r r':R2}(h:IxR X r)(h':IxR X r'):IxR X (fun x y H Q=>r x y H Q∨r' x y H Q):=by
 intro value slice pins s σ H x y v u Q I rx ry q hs
 rcases q with q|q
 ·exact h value slice pins s σ H x y v u Q I rx ry q hs
 ·exact h' value slice pins s σ H x y v u Q I rx ry q hs
theorem Gq {r:R2}(hr:IxR X r)(ha:PE X a ta)(hb:PE X b tb)(hs:re b):PE X (.Subscript a b pos) (tOp r ta tb):=by
 intro pins s σ H Q I h
 exact Subscript_ (xB ha hb I h fun v u s2 x y H2 I2 rx ry q=>hr a b pins s2 σ H2 x y v u Q I2 rx ry q (hs _ _))
def Br (K:cW):R2:=fun x y H Q=>∃p xs i v,x=.ref p∧y=.int i∧SqL K H p xs∧atI xs i=some v∧Q v H
def AZ (K:cW):R2:=fun x y H Q=>∃p xs i v,x=.ref p∧y=.int i∧SqT K H p xs∧atI xs i=some v∧Q v H
def Ce:R2:=fun x y H Q=>∃z i c,x=.str z∧y=.int i∧z.length≤sizeLine∧atI z.cps.toList i=some c∧Q (.str ⟨#[c]⟩) H
theorem zM:IxR X (Br X.K):=by
 intro value slice pins s σ H x y v u Q I rx ry h hs
 obtain⟨p,xs,i,z,rfl,rfl,hq,he,q⟩:=h
 cases rx
 obtain⟨t,rfl⟩:=ry
 obtain⟨its,r,pl,hz⟩:=I.list hq
 obtain⟨j,h1,h2,h3,h4,h5⟩:=eU he
 obtain⟨w,ew,rw'⟩:=r.get h2
 have hl:=r.length
 have hn:=gJ
 have fin:EP X pins σ Q w s:=⟨z,H,I,rw',q⟩
 by_cases h0:0≤i
 ·have hj:i.toNat=j:=by
   rw[Sr h0 h5]at h1
   exact Me h1
  exact item_listR pl.isList h0 (by omega) (by rw[hj];simpa using ew) fin hs
 ·have hj:(i+(its.toArray.size:Int)).toNat=j:=by
   rw[RT (by omega) h4]at h1
   rw[LP,←hl]
   exact Me h1
  exact RM (x:=w) pl.isList.typeIs slot_list_getitem.lookup
   (wpAny_getItem_list_neg (Q:=fun r s'=>r=w∧EP X pins σ Q r s') pl.isList (by omega) (by rw[LP]<;>omega) (by omega) (by rw[hj];simpa using ew) ⟨rfl,fin⟩) hs
theorem Ed:IxR X (AZ X.K):=by
 intro value slice pins s σ H x y v u Q I rx ry h hs
 obtain⟨p,xs,i,z,rfl,rfl,hq,he,q⟩:=h
 cases rx
 obtain⟨t,rfl⟩:=ry
 obtain⟨its,r,pl,hz⟩:=I.tuple hq
 obtain⟨j,h1,h2,h3,h4,h5⟩:=eU he
 obtain⟨w,ew,rw'⟩:=r.get h2
 have hl:=r.length
 have hn:=gJ
 have fin:EP X pins σ Q w s:=⟨z,H,I,rw',q⟩
 exact RM (x:=w) pl.typeIs slot_tuple_getitem.lookup
  (getItem_tuple (j:=j) (Q:=fun r s'=>r=w∧EP X pins σ Q r s') pl (by omega) (by omega) (by rw[LP,←hl];exact h1) (by simpa using ew) ⟨rfl,fin⟩) hs
theorem Ew:IxR X Ce:=by
 intro value slice pins s σ H x y v u Q I rx ry h hs
 obtain⟨z,i,c,rfl,rfl,hz,he,q⟩:=h
 obtain⟨t,rfl⟩:=rx
 obtain⟨t',rfl⟩:=ry
 obtain⟨j,h1,h2,h3,h4,h5⟩:=eU he
 have hl:z.cps.toList.length=z.length:=by simp[RX]
 rw[hl]at h1 h4 h5
 have hn:=gJ
 exact tail_any (SW s z t) slot_str_getitem.lookup (getItem_str (c:=c) (by
  have e1:decide (i< -(2^63:Int))=false:=decide_eq_false (by omega)
  have e2:decide (i≥2^63)=false:=decide_eq_false (by omega)
  rw[e1,e2,Bool.or_false]) (by rw[h1];simpa using h2) ⟨.str ⟨#[c]⟩,H,I.tok _,⟨_,rfl⟩,q⟩) hs
def rIx (K:cW):R2:=fun x y H Q=>Br K x y H Q∨AZ K x y H Q∨Ce x y H Q
theorem CI:IxR X (rIx X.K):=zM.or (Ed.or Ew)
theorem rq (its:List pv)(n j:Nat)(u:pv):Nz (·.setIfInBounds j u) {cls:=.type "list",data:=.seq its.toArray n}={cls:=.type "list",data:=.seq (its.set j u).toArray n}:=by
 simp[Nz]
theorem Inv.lst {pins:List (Addr×Obj)}{σ:St}{H:Hp}{s:wr}{p:Addr}{xs:List V}(I:Inv X pins σ H s)(h:H p=some (.lst xs)):
  ∃(its:List pv)(n:Nat),aW xs its∧s.heap.get? p=some {cls:=.type "list",data:=.seq its.toArray n}∧xs.length≤sizeLine:=by
 obtain⟨z,its,n,r,e⟩:=I.hok p _ h
 exact⟨its,n,r,e,z⟩
theorem Inv.lstUpd {pins:List (Addr×Obj)}{σ:St}{H:Hp}{s:wr}{p:Addr}{xs ys:List V}{its its':List pv}{n n':Nat}{f:Obj→Obj}(I:Inv X pins σ H s)(h:H p=some (.lst xs))
  (ho:s.heap.get? p=some {cls:=.type "list",data:=.seq its.toArray n})(hf:f {cls:=.type "list",data:=.seq its.toArray n}={cls:=.type "list",data:=.seq its'.toArray n'})(r:aW ys its')(hz:ys.length≤sizeLine)(t:Nat):
  Inv X pins σ (upd H p (.lst ys)) {s with heap:=s.heap.update p f,toks:=t}:=by
 have e:(s.heap.update p f).get? p=some {cls:=.type "list",data:=.seq its'.toArray n'}:=by
  rw[Od f ho (by rw[hf]<;>rfl),hf]
 refine I.write (x:=p) (e:=p) (by rw[h];trivial) (.inl rfl) (fun b u hb q=>(MX _ _ (Lt hb)).trans q) ⟨_,e⟩ ?_
 exact⟨hz,its',n',r,e⟩
def yJ:V→V→V→Hp→(Hp→Prop)→Prop:=fun o i v H Q=>∃p xs k j,o=.ref p∧i=.int k∧H p=some (.lst xs)∧ixN xs.length k=some j∧Q (upd H p (.lst (xs.set j v)))
theorem xW:sP X yJ:=by
 intro pins s σ H o i v ov iv u Q I ro ri rv h
 obtain⟨p,xs,k,j,rfl,rfl,hp,hj,q⟩:=h
 cases ro
 obtain⟨t,rfl⟩:=ri
 obtain⟨its,n,r,ho,hz⟩:=I.lst hp
 obtain⟨h1,h2,h3,h4⟩:=qF hj
 have hl:=r.length
 have hn:=gJ
 have I':Inv X pins σ (upd H p (.lst (xs.set j v))) {s with heap:=s.heap.update p (Nz (·.setIfInBounds j u))}:=
  I.lstUpd hp ho (rq its n j u) (r.set rv j) (by rw[List.length_set];exact hz) s.toks
 by_cases h0:0≤k
 ·have hk:k.toNat=j:=by
   rw[Sr h0 h4]at h1
   exact Me h1
  exact W.ki_setAt ho h0 (by omega) (by rw[LP,←hl];exact h4) (by rw[hk];exact⟨_,I',q⟩)
 ·have hk:(k+(its.toArray.size:Int)).toNat=j:=by
   rw[RT (by omega) h3]at h1
   rw[LP,←hl]
   exact Me h1
  exact W.ki_setBack ho (by omega) (by rw[LP,←hl];exact h3) (by omega) (by rw[hk];exact⟨_,I',q⟩)
theorem pF (lo hi:Option Int)(n:Nat):(sliceBounds lo hi none n).1=((HT.sIx n 0 lo:Nat):Int)∧(sliceBounds lo hi none n).2.1=((HT.sIx n n hi:Nat):Int)∧(sliceBounds lo hi none n).2.2=1:=by
 refine⟨?_,?_,rfl⟩
 ·cases lo with
  |none=>simp[sliceBounds,HT.sIx]
  |some i=>
   simp only[sliceBounds,HT.sIx,RD,show(1:Int)>0 by decide,if_true]
   by_cases h:i<0
   ·simp only[h,if_true]<;>omega
   ·simp only[h,if_false]<;>omega
 ·cases hi with
  |none=>simp[sliceBounds,HT.sIx]
  |some i=>
   simp only[sliceBounds,HT.sIx,RD,show(1:Int)>0 by decide,if_true]
   by_cases h:i<0
   ·simp only[h,if_true]<;>omega
   ·simp only[h,if_false]<;>omega
theorem mY (its:List pv)(lo hi:Option Int):slicePick its.toArray lo hi none=((its.drop (HT.sIx its.length 0 lo)).take (HT.sIx its.length its.length hi- HT.sIx its.length 0 lo)).toArray:=by
 obtain⟨h1,h2,h3⟩:=pF lo hi its.toArray.size
 unfold slicePick
 rw[h1,h2,h3]
 simp only[sliceRange_one,pick_run,LP]<;>rfl
def Bh (K:cW):V→Option Int→Option Int→Hp→VK→Prop:=fun x lo hi H Q=>∃a xs,x=.ref a∧SqL K H a xs∧∀p,H p=none→Q (.ref p) (upd H p (.lst (gj xs lo hi)))
theorem zW:SlR X (Bh X.K):=by
 intro pins s σ H x v vl vu lo hi sl Q I rx hs pl pu h
 obtain⟨a,xs,rfl,hx,q⟩:=h
 cases rx
 obtain⟨its,r,ht,hz⟩:=I.list hx
 have hlen:=r.length
 refine⟨"list",_,slot_list_getitem.lookup,ht.isList.typeIs,?_⟩
 refine wpAny_getItem_list_slice ht.isList hs pl pu .none (by simp) ?_ (by rw[LP]<;>omega)
 rw[mY,←hlen]
 refine⟨.ref s.heap.objs.size,_,I.laid (t':=s.toks) (o:=.lst (gj xs lo hi)) (fun b ob q=>If _ q) (ah _) ?_,rfl,q _ (I.hok.fresh (ah _))⟩
 exact⟨Mh (jI xs lo hi) hz,_,0,(r.drop (HT.sIx xs.length 0 lo)).take (HT.sIx xs.length xs.length hi- HT.sIx xs.length 0 lo),Mb _ rfl⟩
theorem bI.or {f:pv}{r r':List V→Hp→VK→Prop}(h:bI X f r)(h':bI X f r'):bI X f (fun xs H Q=>r xs H Q∨r' xs H Q):=by
 intro pins s σ H xs us Q I rs q
 rcases q with q|q
 ·exact h pins s σ H xs us Q I rs q
 ·exact h' pins s σ H xs us Q I rs q
theorem pw:bI X (.type "list") (fun xs H Q=>∃p ys,xs=[.ref p]∧(SqL X.K H p ys∨SqT X.K H p ys)∧∀l,H l=none→Q (.ref l) (upd H l (.lst ys))):=by
 intro pins s σ H xs us Q I r h
 obtain⟨p,ys,rfl,hq,q⟩:=h
 obtain⟨u,rfl,rx⟩:=ej r
 cases rx
 have fin:∀(its:List pv),aW ys its→ys.length≤sizeLine→∀(h':Heap)(c':Nat),(∀b o',s.heap.get? b=some o'→h'.get? b=some o')→
   h'.get? s.heap.objs.size=some {cls:=.type "list",dict:=none,data:=.seq its.toArray c',slots:=#[]}→EP X pins σ Q (.ref s.heap.objs.size) {s with heap:=h'}:=fun its r' hz h' c' kp e=>
  ⟨.ref s.heap.objs.size,_,I.laid (t':=s.toks) kp (ah _) (show bh X.prog X.w _ h' _ (.lst ys)from⟨hz,its,c',r',e⟩),rfl,q _ (I.hok.fresh (ah _))⟩
 rcases hq with hq|hq
 ·obtain⟨its,r',pl,hz⟩:=I.list hq
  have hlen:=r'.length
  obtain⟨o,ho,hc,n,hd⟩:=pl.isList
  exact call_list_seq p (.inl rfl) ho hc hd (fun h' c' kp e=>fin its r' hz h' c' kp e) (by simp only[LP]<;>omega)
 ·obtain⟨its,r',pl,hz⟩:=I.tuple hq
  have hlen:=r'.length
  obtain⟨o,ho,hc,n,hd⟩:=pl
  exact call_list_seq p (.inr rfl) ho hc hd (fun h' c' kp e=>fin its r' hz h' c' kp e) (by simp only[LP]<;>omega)
def tyV (K:cW)(T:String)(x:V)(H:Hp):Prop:=match x with
 |.str _=>T="str"
 |.int _=>T="int"
 |.ref p=>(T="list"∧∃xs,SqL K H p xs)∨(T="tuple"∧∃o,K.lookup p=some o∧o.cls=.type "tuple"∧o.dict=none)∨
  (T="dict"∧((∃kvs,H p=some (.dK kvs))∨∃kvs,H p=some (.dT kvs)))∨(T="set"∧∃S n,H p=some (.set S n))
 |_=>False
theorem uR {pins:List (Addr×Obj)}{σ:St}{H:Hp}{s:wr}{T:String}{x:V}{v:pv}(I:Inv X pins σ H s)(r:aJ x v)(ty:tyV X.K T x H):
  s.TypeIs v T∧∀a,v=.ref a→∃ob,s.heap.get? a=some ob∧ob.dict=none:=by
 cases x with
 |str z=>
  obtain⟨t,rfl⟩:=r
  cases (show T="str" from ty)
  exact⟨SW s z t,fun _ e=>nomatch e⟩
 |int i=>
  obtain⟨t,rfl⟩:=r
  cases (show T="int" from ty)
  exact⟨typeIs_int s i t,fun _ e=>nomatch e⟩
 |ref p=>
  cases r
  rcases ty with⟨rfl,xs,hq⟩|⟨rfl,o,hk,hc,hd⟩|⟨rfl,hk⟩|⟨rfl,S,n,hk⟩
  ·obtain⟨its,_,pl,_⟩:=I.list hq
   refine⟨pl.isList.typeIs,fun a e=>?_⟩
   cases e
   obtain⟨o,n,e,c,hd,_⟩:=pl
   exact⟨o,e,hd⟩
  ·refine⟨⟨o,I.kIn p o hk,hc⟩,fun a e=>?_⟩
   cases e
   exact⟨o,I.kIn _ o hk,hd⟩
  ·have z:∃o,s.heap.get? p=some o∧o.ExactDict:=by
    rcases hk with⟨kvs,hk⟩|⟨kvs,hk⟩
    ·obtain⟨_,_,_,_,o,_,_,e,ex,_⟩:=I.hok p _ hk
     exact⟨o,e,ex⟩
    ·obtain⟨_,_,_,_,o,_,_,e,ex,_⟩:=I.hok p _ hk
     exact⟨o,e,ex⟩
   obtain⟨o,e,ex⟩:=z
   refine⟨⟨o,e,ex.1⟩,fun a e2=>?_⟩
   cases e2
   exact⟨o,e,ex.2.1⟩
  ·obtain⟨o,_,_,_,e,ex,_⟩:=I.hok p _ hk
   refine⟨⟨o,e,ex.1⟩,fun a e2=>?_⟩
   cases e2
   exact⟨o,e,ex.2.1⟩
 |_=>exact Mq ty
def rP (K:cW)(T:String)(r:V→List V→Hp→VK→Prop)(to:TE):TE:=fun σ H Q=>to σ H fun x H1=>tyV K T x H1∧r x [] H1 Q
def tBM (K:cW)(T:String)(r:V→List V→Hp→VK→Prop)(to:TE)(t:TA):TE:=fun σ H Q=>to σ H fun x H1=>tyV K T x H1∧t σ H1 fun xs H2=>r x xs H2 Q
variable {o e:Expr}{es:List Expr}{to:TE}{t:TA}{name:Str}{apos cpos:Pos}{T id:String}{r:V→List V→Hp→VK→Prop}
theorem Cs (pa:Ql T)(slot:Slot T name id)(hty:typeOf (.builtin id)=pure (.type "method_descriptor"))(hm:MtR X id r)(ho:PE X o to)
  (hbase:attributeBase o name X.env (eval o X.env)=eval o X.env:=by rfl)(hline:(apos.endLine==cpos.line)=true:=by rfl):PE X (.Call (.Attribute o name apos) [] [] cpos) (rP X.K T r to):=by
 intro pins s σ H Q I h
 refine wpAny_Call_method0_late hbase hline (thn (ho pins s σ H _ I h) fun v s1 ⟨x,H1,I1,r1,ty,q1⟩=>?_)
 obtain⟨h1,h2⟩:=uR I1 r1 ty
 exact⟨T,id,pa,slot,hty,h1,h2,QF rfl (PySem.evalArgs_none (hm pins s1 σ H1 x [] v [] Q I1 r1 .nil q1))⟩
theorem FD (pa:Ql T)(slot:Slot T name id)(hty:typeOf (.builtin id)=pure (.type "method_descriptor"))(hm:MtR X id r)(ho:PE X o to)(ha:PA X (e::es) t)
  (hbase:attributeBase o name X.env (eval o X.env)=eval o X.env:=by rfl)
  (hfew:((backTo cpos (starEach (e::es) X.env)).all (fun x=> !x.1)&&(backToKw cpos (keywordEach [] X.env)).all (fun x=>x.1.isSome)
   &&decide ((e::es).length+([]:List Keyword).length+(if ([]:List Keyword).isEmpty then 0 else 1)<30))=true:=by rfl)
  (hline:(apos.endLine==cpos.line)=true:=by rfl)(hs:starEach (e::es) X.env=(false,eval e X.env)::starEach es X.env:=by rfl)(hplain:(backTo cpos (starEach es X.env)).any (·.1)=false:=by rfl):
  PE X (.Call (.Attribute o name apos) (e::es) [] cpos) (tBM X.K T r to t):=by
 intro pins s σ H Q I h
 refine wpAny_Call_method_late hbase hfew hline rfl (thn (ho pins s σ H _ I h) fun v s1 ⟨x,H1,I1,r1,ty,q1⟩=>?_)
 obtain⟨h1,h2⟩:=uR I1 r1 ty
 refine⟨T,id,pa,slot,hty,h1,h2,?_⟩
 have hA:=ha cpos pins s1 σ H1 _ I1 q1
 rw[hs]at hA⊢
 refine QF (by show(false||(backTo cpos (starEach es X.env)).any (·.1))=false;rw[hplain]<;>rfl) (Calls.evalArgs_plain ?_)
 exact thn hA fun us s2 ⟨vs,H2,I2,r2,q2⟩=>hm pins s2 σ H2 x vs v us Q I2 r1 r2 q2
end
def MtM (X:Cx)(id:String)(r:V→List V→Hp→VK→Prop):Prop:=
 ∀(pins:List (Addr×Obj))(s:wr)(σ:St)(H:Hp)(x:V)(xs:List V)(v:pv)(us:List pv)(Q:VK),Inv X pins σ H s→aJ x v→aW xs us→r x xs H Q→
  wpAny (model X.prog X.w) X.A (call (.builtin id) (v::us)) (EP X pins σ Q) X.xe s
theorem aW.one:∀{x:V}{us:List pv},aW [x] us→∃u,us=[u]∧aJ x u
 |_,_,.cons r .nil=>⟨_,rfl,r⟩
section
variable {X:Cx}{pins:List (Addr×Obj)}{σ:St}{H:Hp}{s:wr}{l b:Addr}{xs ys zs:List V}
theorem Inv.lset {its its':List pv}{n:Nat}{f:Array pv→Array pv}{t':Nat}(I:Inv X pins σ H s)(hH:H l=some (.lst xs))
  (e:s.heap.get? l=some {cls:=.type "list",data:=.seq its.toArray n})(hf:f its.toArray=its'.toArray)(hv:aW ys its')(hz:ys.length≤sizeLine):
  Inv X pins σ (upd H l (.lst ys)) {s with heap:=s.heap.update l (Nz f),toks:=t'}:=by
 have q:=PySem.IsL.update e f
 rw[hf]at q
 refine I.write (x:=l) (e:=l) (by rw[hH];exact trivial) (.inl rfl) (fun b' u hb hu=>(MX s.heap (Nz f) (Lt hb)).trans hu) ⟨_,q⟩ ?_
 exact⟨hz,its',_,hv,q⟩
theorem Inv.lnew {its:List pv}{t':Nat}(I:Inv X pins σ H s)(hv:aW ys its)(hz:ys.length≤sizeLine):
  Inv X pins σ (upd H s.heap.objs.size (.lst ys)) {s with heap:=s.heap.push {cls:=.type "list",data:=.seq its.toArray},toks:=t'}:=
 I.laid (fun _ _ q=>If _ q) (ah _) ⟨hz,its,0,hv,Mb _ rfl⟩
theorem Inv.fresh (I:Inv X pins σ H s):H s.heap.objs.size=none:=I.hok.fresh (ah _)
theorem Inv.lstM (I:Inv X pins σ H s)(hH:H l=some (.lst xs)):xs.length≤sizeLine∧∃(its:List pv)(n:Nat),aW xs its∧xs.length=its.length∧s.heap.get? l=some {cls:=.type "list",data:=.seq its.toArray n}:=by
 obtain⟨z,its,n,r,e⟩:=I.hok l _ hH
 exact⟨z,its,n,r,r.length,e⟩
end
section
variable {X:Cx}
def jo:V→List V→Hp→VK→Prop:=fun x vs H Q=>∃l xs y,x=.ref l∧vs=[y]∧H l=some (.lst xs)∧xs.length<sizeLine∧Q .non (upd H l (.lst (xs++[y])))
theorem gu:MtM X "list.append" jo:=by
 intro pins s σ H x vs v us Q I rx rv h
 obtain⟨l,xs,y,rfl,rfl,hH,hz,q⟩:=h
 cases rx
 obtain⟨u,rfl,ru⟩:=rv.one
 obtain⟨z,its,n,r,hl,e⟩:=I.lstM hH
 refine SX NU ⟨_,e,rfl⟩ F.entry_list_append (F.args_list_append_2 _ _) (PySem.list_append l its.toArray n u (by rw[LP];omega)) ⟨e,?_⟩
 refine⟨.non,_,I.lset (its':=its++[u]) hH e (by simp) (r.append (.cons ru .nil)) ?_,rfl,q⟩
 rw[Mi,List.length_singleton]
 omega
def Ef:R2:=fun x y H Q=>∃l b xs zs,x=.ref l∧y=.ref b∧H l=some (.lst xs)∧H b=some (.lst zs)∧xs.length+zs.length≤sizeLine∧∀p,H p=none→Q (.ref p) (upd H p (.lst (xs++zs)))
theorem EJ:OpR X (binaryOp .Add) Ef:=by
 intro pins s σ H x y v u Q I rx ry h
 obtain⟨l,b,xs,zs,rfl,rfl,hH,hB,hz,q⟩:=h
 cases rx
 cases ry
 obtain⟨z,its,n,r,hl,e⟩:=I.lstM hH
 obtain⟨z2,its2,n2,r2,hl2,e2⟩:=I.lstM hB
 refine PySem.P.add_list e e2 ?_ (by rw[LP,LP];omega)
 have ea:its.toArray++its2.toArray=(its++its2).toArray:=by simp
 rw[ea]
 exact⟨.ref _,_,I.lnew (t':=s.toks) (r.append r2) (by rw[Mi];omega),rfl,q _ I.fresh⟩
end
section
variable {prog:Mf}{w:Mx}{A:Mn}{E:pv→wr→Prop}{s:wr}
set_option maxRecDepth 100000 in
end
section
variable {κ:Type}[DecidableEq κ]
def bY (kvs:List (κ×V))(k:κ):Option V:=(kvs.find? fun kv=>decide (kv.1=k)).map (·.2)
def bX (kvs:List (κ×V))(k:κ)(v:V):List (κ×V):=
 if (kvs.any fun kv=>decide (kv.1=k))=true then kvs.map (fun kv=>if kv.1=k then(kv.1,v)else kv)else kvs++[(k,v)]
def iu (kvs:List (κ×V))(k:κ):List (κ×V):=kvs.filter fun kv=>decide (kv.1≠k)
theorem cU {p:κ×V}{r:List (κ×V)}{k:κ}(e:p.1=k):bY (p::r) k=some p.2:=by simp[bY,NH,e]
theorem cT {p:κ×V}{r:List (κ×V)}{k:κ}(e:¬p.1=k):bY (p::r) k=bY r k:=by simp[bY,NH,e]
theorem gb (k:κ):∀kvs:List (κ×V),(kvs.any fun kv=>decide (kv.1=k))=(bY kvs k).isSome
 |[]=>rfl
 |p::r=>by
  rw[PD]
  by_cases e:p.1=k
  ·simp only[cU e,decide_eq_true e,Bool.true_or,Option.isSome_some]
  ·rw[cT e,decide_eq_false e,SK];exact gb k r
theorem qk (k j:κ)(y:V):∀kvs:List (κ×V),bY (kvs.map fun kv=>if kv.1=k then(kv.1,y)else kv) j=(bY kvs j).map fun x=>if j=k then y else x
 |[]=>rfl
 |p::r=>by
  have ih:=qk k j y r
  rw[Mo]
  by_cases h:p.1=k
  ·rw[if_pos h]
   by_cases e:p.1=j
   ·rw[cU (p:=(p.1,y)) e,cU e,Ot,if_pos (e.symm.trans h)]
   ·rw[cT (p:=(p.1,y)) e,cT e,ih]
  ·rw[if_neg h]
   by_cases e:p.1=j
   ·rw[cU (p:=p) e,cU e,Ot,if_neg (fun z=>h (e.trans z))]
   ·rw[cT (p:=p) e,cT e,ih]
theorem mL (k j:κ)(y:V):∀kvs:List (κ×V),bY kvs k=none→bY (kvs++[(k,y)]) j=if j=k then some y else bY kvs j
 |[],_=>by
  by_cases e:k=j
  ·rw[if_pos e.symm];exact cU (p:=(k,y)) e
  ·rw[if_neg (fun z=>e z.symm)];exact cT (p:=(k,y)) e
 |p::r,hn=>by
  rw[List.cons_append]
  have hk:¬p.1=k:=fun z=>by rw[cU z]at hn;cases hn
  rw[cT hk]at hn
  have ih:=mL k j y r hn
  by_cases e:p.1=j
  ·rw[cU e,cU e,if_neg (fun z=>hk (e.trans z))]
  ·rw[cT e,cT e,ih]
theorem kh (kvs:List (κ×V))(k j:κ)(y:V):bY (bX kvs k y) j=if j=k then some y else bY kvs j:=by
 unfold bX
 by_cases a:(kvs.any fun kv=>decide (kv.1=k))=true
 ·rw[if_pos a,qk]
  rw[gb]at a
  by_cases e:j=k
  ·obtain⟨x,hx⟩:=Mr.mp a
   rw[if_pos e,e,hx,Ot,if_pos rfl]
  ·rw[if_neg e]
   cases bY kvs j with
   |none=>rfl
   |some x=>rw[Ot,if_neg e]
 ·rw[if_neg a]
  refine mL k j y kvs ?_
  rw[gb]at a
  cases q:bY kvs k with
  |none=>rfl
  |some x=>rw[q]at a;exact(a rfl).elim
theorem eh (kvs:List (κ×V))(k:κ)(v:V):(bX kvs k v).length≤kvs.length+1:=by
 unfold bX
 split
 ·rw[LJ];omega
 ·rw[Mi,MR,List.length_nil];omega
theorem vj {kvs:List (κ×V)}{k:κ}(v:V)(h:bY kvs k=none):bX kvs k v=kvs++[(k,v)]:=by
 unfold bX
 rw[gb,h]
 exact if_neg (by decide)
theorem cX.isSome_eq {o:Option V}{u:Option pv}(r:cX o u):o.isSome=u.isSome:=by
 cases o with
 |none=>cases u with
  |none=>rfl
  |some _=>exact(show False from r).elim
 |some _=>cases u with
  |none=>exact(show False from r).elim
  |some _=>rfl
theorem cX.getD {o:Option V}{u:Option pv}{d:V}{d':pv}(r:cX o u)(rd:aJ d d'):aJ (o.getD d) (u.getD d'):=by
 cases o with
 |none=>cases u with
  |none=>exact rd
  |some _=>exact(show False from r).elim
 |some _=>cases u with
  |none=>exact(show False from r).elim
  |some _=>exact r
theorem KV.val {kvs:List (κ×V)}{vs:List (κ×pv)}(r:KV kvs vs)(k:κ):cX (bY kvs k) (valueAt vs k):=by
 unfold KV at r
 induction r with
 |nil=>exact MY
 | @cons p q ps qs h t ih=>
   obtain⟨h1,h2⟩:=h
   by_cases e:p.1=k
   ·have e':q.1=k:=h1.symm.trans e
    have b:valueAt (q::qs) k=some q.2:=by simp[valueAt,NH,e']
    rw[cU e,b];exact h2
   ·have e':¬q.1=k:=fun z=>e (h1.trans z)
    have b:valueAt (q::qs) k=valueAt qs k:=by simp[valueAt,NH,e']
    rw[cT e,b];exact ih
theorem KV.any {kvs:List (κ×V)}{vs:List (κ×pv)}(r:KV kvs vs)(k:κ):(kvs.any fun kv=>decide (kv.1=k))=vs.any fun kv=>decide (kv.1=k):=by
 unfold KV at r
 induction r with
 |nil=>rfl
 |cons h t ih=>rw[PD,PD,ih,h.1]
theorem KV.repl {kvs:List (κ×V)}{vs:List (κ×pv)}(r:KV kvs vs)(k:κ){y:V}{u:pv}(ry:aJ y u):
  KV (kvs.map fun kv=>if kv.1=k then(kv.1,y)else kv) (vs.map fun kv=>if kv.1=k then(kv.1,u)else kv):=by
 unfold KV at r⊢
 induction r with
 |nil=>exact .nil
 | @cons p q ps qs h t ih=>
   rw[Mo,Mo]
   refine .cons ?_ ih
   obtain⟨h1,h2⟩:=h
   by_cases e:p.1=k
   ·rw[if_pos e,if_pos (h1.symm.trans e)];exact⟨h1,ry⟩
   ·rw[if_neg e,if_neg (fun z=>e (h1.trans z))];exact⟨h1,h2⟩
theorem KV.put {kvs:List (κ×V)}{vs:List (κ×pv)}(r:KV kvs vs)(k:κ){y:V}{u:pv}(ry:aJ y u):KV (bX kvs k y) (stored vs k u):=by
 unfold bX stored
 rw[r.any k]
 by_cases e:(vs.any fun kv=>decide (kv.1=k))=true
 ·rw[if_pos e,if_pos e];exact r.repl k ry
 ·rw[if_neg e,if_neg e];exact Paired.snoc r ⟨rfl,ry⟩
theorem KV.drop {kvs:List (κ×V)}{vs:List (κ×pv)}(r:KV kvs vs)(k:κ):KV (iu kvs k) (without vs k):=by
 unfold KV at r⊢
 unfold iu without
 induction r with
 |nil=>exact .nil
 | @cons p q ps qs h t ih=>
   obtain⟨h1,h2⟩:=h
   rw[Qa,Qa]
   by_cases e:p.1=k
   ·have a:¬decide (p.1≠k)=true:=by simp[e]
    have b:¬decide (q.1≠k)=true:=by simp[h1.symm.trans e]
    rw[if_neg a,if_neg b];exact ih
   ·have e':¬q.1=k:=fun z=>e (h1.trans z)
    have a:decide (p.1≠k)=true:=by simp[e]
    have b:decide (q.1≠k)=true:=by simp[e']
    rw[if_pos a,if_pos b];exact .cons ⟨h1,h2⟩ ih
theorem KV.length {kvs:List (κ×V)}{vs:List (κ×pv)}(r:KV kvs vs):kvs.length=vs.length:=Paired.length r
theorem vB (kvs:List (κ×V))(k:κ):(iu kvs k).length≤kvs.length:=Rc _ _
end
theorem gq {P:Mf}{w:Mx}{k:Key}{u:pv}(r:aJ (kV k) u):(bK P w).is k u=true:=by
 cases k with
 |inl i=>obtain⟨t,e⟩:=(show ∃t,u=OP i t from r);subst e;exact qy P w i t
 |inr x=>obtain⟨t,e⟩:=(show ∃t,u=Ow x t from r);subst e;exact qm P w x t
theorem pN {a b:Key}(e:kV a=kV b):a=b:=by
 cases a with
 |inl i=>cases b with
  |inl j=>have e':V.int i=V.int j:=e;injection e' with e';rw[e']
  |inr y=>exact nomatch (show V.int i=V.str y from e)
 |inr x=>cases b with
  |inl j=>exact nomatch (show V.str x=V.int j from e)
  |inr y=>have e':V.str x=V.str y:=e;injection e' with e';rw[e']
theorem qZ:∀{a b:List Key},a.map kV=b.map kV→a=b
 |[],[],_=>rfl
 |[],_::_,e=>by simp at e
 |_::_,[],e=>by simp at e
 |x::xs,y::ys,e=>by
  rw[Mo,Mo]at e
  injection e with e1 e2
  rw[pN e1,qZ e2]
theorem mF {P:Mf}{w:Mx}:∀{ks:List Key}{us:List pv},aW (ks.map kV) us→ItemsAre (bK P w) ks us
 |[],_,r=>by rw[PX]at r;cases r;exact .nil
 |k::ks,_,r=>by
  rw[Mo]at r
  cases r with
  |cons h t=>exact .cons (gq h) (mF t)
abbrev KT (H:Hp):List (List Key×V)→List (List Key×Addr×pv)→Prop:=Paired fun p q=>p.1=q.1∧H q.2.1=some (.tup (p.1.map kV))∧aJ p.2 q.2.2
theorem KT.val {H:Hp}{kvs:List (List Key×V)}{xs:List (List Key×Addr×pv)}(r:KT H kvs xs)(k:List Key):cX (bY kvs k) ((atKey xs k).map (·.2)):=by
 induction r with
 |nil=>exact MY
 | @cons p q ps qs h t ih=>
   obtain⟨h1,_,h2⟩:=h
   by_cases e:p.1=k
   ·have e':q.1=k:=h1.symm.trans e
    have b:atKey (q::qs) k=some q.2:=by simp[atKey,NH,e']
    rw[cU e,b];exact h2
   ·have e':¬q.1=k:=fun z=>e (h1.trans z)
    have b:atKey (q::qs) k=atKey qs k:=by simp[atKey,NH,e']
    rw[cT e,b];exact ih
theorem KT.repl {H:Hp}{kvs:List (List Key×V)}{xs:List (List Key×Addr×pv)}(r:KT H kvs xs)(k:List Key){y:V}{u:pv}(ry:aJ y u):
  KT H (kvs.map fun kv=>if kv.1=k then(kv.1,y)else kv) (xs.map (putAt k u)):=by
 induction r with
 |nil=>exact .nil
 | @cons p q ps qs h t ih=>
   rw[Mo,Mo]
   refine .cons ?_ ih
   obtain⟨h1,h2,h3⟩:=h
   unfold putAt
   by_cases e:p.1=k
   ·rw[if_pos e,if_pos (h1.symm.trans e)];exact⟨h1,h2,ry⟩
   ·rw[if_neg e,if_neg (fun z=>e (h1.trans z))];exact⟨h1,h2,h3⟩
theorem KT.put {H:Hp}{kvs:List (List Key×V)}{xs:List (List Key×Addr×pv)}(r:KT H kvs xs)(k:List Key){b:Addr}{y:V}{u:pv}(hb:H b=some (.tup (k.map kV)))(ry:aJ y u):
  KT H (bX kvs k y) (storedH xs k b u):=by
 have e:(kvs.any fun kv=>decide (kv.1=k))=(atKey xs k).isSome:=by
  rw[gb,(r.val k).isSome_eq,Ru]
 unfold bX storedH
 rw[e]
 by_cases q:(atKey xs k).isSome=true
 ·rw[if_pos q,if_pos q];exact r.repl k ry
 ·rw[if_neg q,if_neg q];exact Paired.snoc r ⟨rfl,hb,ry⟩
theorem KT.keeps {H H':Hp}{kvs:List (List Key×V)}{xs:List (List Key×Addr×pv)}(r:KT H kvs xs)(ht:∀b ys,H b=some (.tup ys)→H' b=some (.tup ys)):KT H' kvs xs:=
 Paired.mapP r fun _ _ z=>⟨z.1,ht _ _ z.2.1,z.2.2⟩
section
variable {P:Mf}{w:Mx}{H:Hp}{h:Heap}{a:Addr}
theorem yN {u:HO}(ok:HOk P w H h)(e:Rd H a u):bh P w H h a u:=e.ok ok
theorem gw {kvs:List (Key×V)}(ok:HOk P w H h)(e:Rd H a (.dK kvs)):kvs.length≤sizeLine∧(a==sysModules)=false∧∃vs,KV kvs vs∧h.DictOf (bK P w) a vs:=
 show bh P w H h a (.dK kvs)from yN ok e
theorem kS {kvs:List (Key×V)}(ok:HOk P w H h)(e:H a=some (.dK kvs)):kvs.length≤sizeLine∧(a==sysModules)=false∧∃vs,KV kvs vs∧h.DictOf (bK P w) a vs:=gw ok (.inl e)
theorem fZ {ks:List Key}(ok:HOk P w H h)(e:H a=some (.tup (ks.map kV))):(tupleKind (bK P w)).is h ks a:=by
 obtain⟨_,its,r,o,h1,h2,n,h3⟩:=(show bh P w H h a (.tup (ks.map kV))from ok a _ e)
 exact⟨o,its.toArray,n,h1,h2,h3,by simpa using mF r⟩
theorem ju {kvs:List (List Key×V)}(ok:HOk P w H h)(e:Rd H a (.dT kvs)):kvs.length≤sizeLine∧(a==sysModules)=false∧
  ∃xs,KT H kvs xs∧h.DictOfH (tupleKind (bK P w)) a xs:=by
 obtain⟨z,y,xs,r,o,es,ep,h1,h2,h3,h4,h5⟩:=(show bh P w H h a (.dT kvs)from yN ok e)
 refine⟨z,y,xs,r,o,es,ep,h1,h2,h3,h4,fun x hx=>?_,h5⟩
 have all:∀{l:List (List Key×V)}{m:List (List Key×Addr×pv)},KT H l m→∀x∈m,(tupleKind (bK P w)).is h x.1 x.2.1:=by
  intro l m q
  induction q with
  |nil=>intro x hx;exact nomatch hx
  | @cons p q ps qs hq t ih=>
    intro x hx
    rcases gV.mp hx with e|hx
    ·subst e
     exact fZ ok (by rw[←hq.1];exact hq.2.1)
    ·exact ih x hx
 exact all r x hx
theorem sE {kvs:List (List Key×V)}(ok:HOk P w H h)(e:H a=some (.dT kvs)):kvs.length≤sizeLine∧(a==sysModules)=false∧
 ∃xs,KT H kvs xs∧h.DictOfH (tupleKind (bK P w)) a xs:=ju ok (.inl e)
end
def cF (H:Hp)(a:Addr)(y:V)(r:Option V):Prop:=
 (∃kvs k,Rd H a (.dK kvs)∧y=kV k∧r=bY kvs k)∨∃kvs k b,Rd H a (.dT kvs)∧y=.ref b∧H b=some (.tup (k.map kV))∧r=bY kvs k
def ir (H:Hp)(a:Addr)(y v:V)(H':Hp):Prop:=
 (∃kvs k,H a=some (.dK kvs)∧y=kV k∧kvs.length<sizeLine∧H'=upd H a (.dK (bX kvs k v)))∨
 ∃kvs k b,H a=some (.dT kvs)∧y=.ref b∧H b=some (.tup (k.map kV))∧kvs.length<sizeLine∧H'=upd H a (.dT (bX kvs k v))
theorem cF.k {H:Hp}{a:Addr}{kvs:List (Key×V)}{k:Key}(e:H a=some (.dK kvs)):cF H a (kV k) (bY kvs k):=.inl ⟨kvs,k,.inl e,rfl,rfl⟩
theorem cF.t {H:Hp}{a b:Addr}{kvs:List (List Key×V)}{k:List Key}(e:H a=some (.dT kvs))(eb:H b=some (.tup (k.map kV))):cF H a (.ref b) (bY kvs k):=.inr ⟨kvs,k,b,.inl e,rfl,eb,rfl⟩
theorem ir.k {H:Hp}{a:Addr}{kvs:List (Key×V)}{k:Key}{v:V}(e:H a=some (.dK kvs))(hl:kvs.length<sizeLine):ir H a (kV k) v (upd H a (.dK (bX kvs k v))):=.inl ⟨kvs,k,e,rfl,hl,rfl⟩
theorem ir.t {H:Hp}{a b:Addr}{kvs:List (List Key×V)}{k:List Key}{v:V}(e:H a=some (.dT kvs))(eb:H b=some (.tup (k.map kV)))(hl:kvs.length<sizeLine):
 ir H a (.ref b) v (upd H a (.dT (bX kvs k v))):=.inr ⟨kvs,k,b,e,rfl,eb,hl,rfl⟩
section
variable {X:Cx}{pins:List (Addr×Obj)}{σ:St}{H:Hp}{s:wr}{a:Addr}{y v:V}{u r:pv}{o:Option V}{A:Mn}{E:pv→wr→Prop}
theorem Inv.big (I:Inv X pins σ H s):sysModules<s.heap.objs.size:=by
 have h:mainGlobals<s.heap.objs.size:=(I.mod.glob.keeps I.bk).lt
 exact Nat.lt_trans (by decide) h
theorem tI {Q:pv→wr→Prop}(hu:A.units+1<cLine)(I:Inv X pins σ H s)(g:cF H a y (some v))(ry:aJ y u)(h:∀w' s',Inv X pins σ H s'→aJ v w'→Q w' s'):
  wpAny (model X.prog X.w) A (getItem (.ref a) u) Q E s:=by
 rcases g with⟨kvs,k,e,ey,l⟩|⟨kvs,k,b,e,ey,eb,l⟩
 ·subst ey
  obtain⟨z,hd,vs,rel,dd⟩:=gw I.hok e
  obtain⟨w',hw,rw'⟩:=cX.some_of (v:=v) (o:=valueAt vs k) (by rw[l];exact rel.val k)
  exact wpAny_getItem_of (gq ry) dd.mapOf hw (h w' _ (I.tok _) rw')
 ·subst ey
  cases (show u=LK b from ry)
  obtain⟨z,hd,xs,rel,dd⟩:=ju I.hok e
  obtain⟨w',hw,rw'⟩:=cX.some_of (v:=v) (o:=(atKey xs k).map (·.2)) (by rw[l];exact rel.val k)
  obtain⟨p,hp,hp2⟩:=OZ.mp hw
  refine wpAny_getItem_heap (NK hu) (fZ I.hok eb) dd hp ?_
  rw[hp2]
  exact h w' _ (I.tok _) rw'
theorem As {Q:pv→wr→Prop}(hu:A.units+1<cLine)(I:Inv X pins σ H s)(g:cF H a y o)(ry:aJ y u)(h:∀s',Inv X pins σ H s'→Q (.bool (!o.isSome)) s'):
  wpAny (model X.prog X.w) A (compareOp .NotIn u (.ref a)) Q E s:=by
 rcases g with⟨kvs,k,e,ey,l⟩|⟨kvs,k,b,e,ey,eb,l⟩
 ·subst ey
  obtain⟨z,hd,vs,rel,dd⟩:=gw I.hok e
  refine wpAny_notIn_of (gq ry) hd dd.mapOf ?_
  rw[←(rel.val k).isSome_eq,←l]
  exact h _ (I.tok _)
 ·subst ey
  cases (show u=LK b from ry)
  obtain⟨z,hd,xs,rel,dd⟩:=ju I.hok e
  refine wpAny_notIn_heap (NK hu) (fZ I.hok eb) hd dd ?_
  have q:=(rel.val k).isSome_eq
  rw[Ru]at q
  rw[←q,←l]
  exact h _ (I.tok _)
theorem gH {h':Heap}{t':Nat}{ob:HO}(I:Inv X pins σ H s)(mu:Mut (H a))(hs:Oe a s.heap h')(he:∃q,h'.get? a=some q)(new:bh X.prog X.w (upd H a ob) h' a ob):
  Inv X pins σ (upd H a ob) {s with heap:=h',toks:=t'}:=
 I.write (x:=a) (e:=a) mu (.inl rfl) (fun b q hb z=>(hs.2 b hb).trans z) he new
theorem lG {P:Mf}{w:Mx}{H':Hp}{h':Heap}{kvs:List (Key×V)}{vs:List (Key×pv)}(z:kvs.length≤sizeLine)(hd:(a==sysModules)=false)(rel:KV kvs vs)(dd:h'.DictOf (bK P w) a vs):
 bh P w H' h' a (.dK kvs):=⟨z,hd,vs,rel,dd⟩
theorem uX {H':Hp}{Q:Unit→wr→Prop}(hu:A.units+1<cLine)(I:Inv X pins σ H s)(g:ir H a y v H')(ry:aJ y u)(rv:aJ v r)(h:∀s',Inv X pins σ H' s'→Q () s'):
  wpAny (model X.prog X.w) A (setItem (.ref a) u r) Q E s:=by
 rcases g with⟨kvs,k,e,ey,l,eH⟩|⟨kvs,k,b,e,ey,eb,l,eH⟩
 ·subst ey eH
  obtain⟨z,hd,vs,rel,dd⟩:=kS I.hok e
  have hz:vs.length≤sizeLine:=by rw[←rel.length];exact z
  have hl:(bX kvs k v).length≤sizeLine:=by have:=eh kvs k v;omega
  refine wpAny_setItem_pairs (hsz:=hz) (gq ry) dd fun h' dd' hs=>h _ ?_
  have he:∃q,h'.get? a=some q:=let ⟨q,_,_,hq,_⟩:=dd';⟨q,hq⟩
  exact gH I (by rw[e];exact MY) hs he (lG hl hd (rel.put k rv) dd')
 ·subst ey eH
  cases (show u=LK b from ry)
  obtain⟨z,hd,xs,rel,dd⟩:=sE I.hok e
  have hz:xs.length≤sizeLine:=by rw[←Paired.length rel];exact z
  have hl:(bX kvs k v).length≤sizeLine:=by have:=eh kvs k v;omega
  refine wpAny_setItem_heap (hsz:=hz) (NK hu) (fZ I.hok eb) dd fun h' dd' hs=>h _ ?_
  obtain⟨q,es,ep,hq,h2,h3,h4,_,h5⟩:=dd'
  refine gH I (by rw[e];exact MY) hs ⟨q,hq⟩ ⟨hl,hd,_,(rel.put k eb rv).keeps fun c ys ec=>?_,q,es,ep,hq,h2,h3,h4,h5⟩
  rw[ao (bA ec e (fun z=>nomatch z))]
  exact ec
end
section
variable {X:Cx}{pins:List (Addr×Obj)}{σ:St}{H:Hp}{s:wr}{a:Addr}{kvs:List (Key×V)}{k:Key}{u:pv}{A:Mn}{E:pv→wr→Prop}
theorem GT {v:V}{more:List pv}{Q:pv→wr→Prop}(I:Inv X pins σ H s)(e:H a=some (.dK kvs))(ry:aJ (kV k) u)(l:bY kvs k=some v)(hm:more=[]∨∃x,more=[x])
  (h:∀w' s',Inv X pins σ (upd H a (.dK (iu kvs k))) s'→aJ v w'→Q w' s'):wpAny (model X.prog X.w) A (call (.builtin "dict.pop") (.ref a::u::more)) Q E s:=by
 obtain⟨z,hd,vs,rel,dd⟩:=kS I.hok e
 obtain⟨w',hw,rw'⟩:=cX.some_of (v:=v) (o:=valueAt vs k) (by rw[←l];exact rel.val k)
 have hp:(keyPart u).isSome=true:=by
  cases k with
  |inl i=>obtain⟨t,q⟩:=(show ∃t,u=OP i t from ry);subst q;rfl
  |inr x=>obtain⟨t,q⟩:=(show ∃t,u=Ow x t from ry);subst q;rfl
 have ha:argsOk "dict.pop" ⟨.ref a::u::more,[]⟩:=by
  rcases hm with q|⟨x,q⟩
  ·subst q;exact PySem.F.args_dict_pop_2 _ _
  ·subst q;exact PySem.F.args_dict_pop_3 _ _ _
 refine OX QB dd.typeIs PySem.F.entry_dict_pop ha (meets_dict_pop_there (bK X.prog X.w) a (gq ry) more hm hp)
  ⟨vs,w',dd,by rw[←rel.length];exact z,hw,fun h' dd' hs=>h w' _ ?_ rw'⟩
 have he:∃q,h'.get? a=some q:=let ⟨q,_,_,hq,_⟩:=dd';⟨q,hq⟩
 exact gH I (by rw[e];exact MY) hs he (lG (Mh (vB kvs k) z) hd (rel.drop k) dd')
theorem Fi {Q:pv→wr→Prop}(I:Inv X pins σ H s)(e:Rd H a (.dK kvs))(h:∀t s',Inv X pins σ H s'→Q (.int kvs.length t) s'):wpAny (model X.prog X.w) A (call (.builtin "len") [.ref a]) Q E s:=by
 obtain⟨z,hd,vs,rel,dd⟩:=gw I.hok e
 refine call_len_dict hd dd (by rw[←rel.length];rw[MF]at z;omega) ?_
 rw[←rel.length]
 exact h _ _ (I.tok _)
end
theorem qp {X:Cx}{pins:List (Addr×Obj)}{σ:St}{H:Hp}{s:wr}{a:Addr}{y:V}{o:Option V}(I:Inv X pins σ H s)(g:cF H a y o):s.TypeIs (.ref a) "dict":=by
 rcases g with⟨kvs,k,e,_,_⟩|⟨kvs,k,b,e,_,_,_⟩
 ·obtain⟨_,_,vs,_,dd⟩:=gw I.hok e
  exact dd.typeIs
 ·obtain⟨_,_,xs,_,dd⟩:=ju I.hok e
  exact dd.typeIs
theorem wa {P:Mf}{w:Mx}{H:Hp}(h:Heap)(hb:sysModules<h.objs.size):bh P w H (h.push {cls:=.type "dict",data:=.dict #[]}) h.objs.size (.dK []):=
 ⟨Md _,beq_eq_false_iff_ne.mpr (Lt (LY hb)),[],.nil,Heap.DictOf.new h⟩
theorem vf {P:Mf}{w:Mx}{H:Hp}(h:Heap)(hb:sysModules<h.objs.size):bh P w H (h.push {cls:=.type "dict",data:=.dict #[]}) h.objs.size (.dT []):=
 ⟨Md _,beq_eq_false_iff_ne.mpr (Lt (LY hb)),[],.nil,_,#[],0,Mb _ rfl,⟨rfl,rfl,rfl⟩,rfl,rfl,MN⟩
def uH:TE:=fun _ H Q=>∀p,H p=none→Q (.ref p) (upd H p (.dK []))
def tU:TE:=fun _ H Q=>∀p,H p=none→Q (.ref p) (upd H p (.dT []))
section
variable {X:Cx}{pos:Pos}
theorem xt:PE X (.Dict [] [] pos) uH:=fun pins s σ H Q I h=>
 wpAny_Dict_empty ⟨.ref s.heap.objs.size,_,I.laid (a:=s.heap.objs.size) (o:=.dK []) (t':=s.toks) (fun _ _ q=>If _ q) (ah _) (wa s.heap I.big),rfl,h _ (I.hok.fresh (ah _))⟩
theorem xn:PE X (.Dict [] [] pos) tU:=fun pins s σ H Q I h=>
 wpAny_Dict_empty ⟨.ref s.heap.objs.size,_,I.laid (a:=s.heap.objs.size) (o:=.dT []) (t':=s.toks) (fun _ _ q=>If _ q) (ah _) (vf s.heap I.big),rfl,h _ (I.hok.fresh (ah _))⟩
end
section
variable {X:Cx}{pins:List (Addr×Obj)}{σ:St}{H:Hp}{s:wr}{a:Addr}{y d:V}{u r:pv}{o:Option V}{A:Mn}{E:pv→wr→Prop}
theorem Dt {Q:pv→wr→Prop}(hu:A.units+1<cLine)(I:Inv X pins σ H s)(g:cF H a y o)(ry:aJ y u)(h:∀w' s',Inv X pins σ H s'→aJ (o.getD .non) w'→Q w' s'):
  wpAny (model X.prog X.w) A (call (.builtin "dict.get") [.ref a,u]) Q E s:=by
 rcases g with⟨kvs,k,e,ey,l⟩|⟨kvs,k,b,e,ey,eb,l⟩
 ·subst ey
  obtain⟨z,hd,vs,rel,dd⟩:=gw I.hok e
  refine OX NA dd.typeIs Qq (Qm _ _) (meets_dict_get (bK X.prog X.w) a (gq ry) hd) ⟨_,dd.mapOf,h _ _ (I.tok _) ?_⟩
  rw[l]
  exact(rel.val k).getD rfl
 ·subst ey
  cases (show u=LK b from ry)
  obtain⟨z,hd,xs,rel,dd⟩:=ju I.hok e
  refine OX NA dd.typeIs Qq (Qm _ _) (meetsH_dict_get (tupleKind (bK X.prog X.w)) a b hd) ⟨NK hu,k,xs,fZ I.hok eb,dd,h _ _ (I.tok _) ?_⟩
  rw[l]
  exact(rel.val k).getD rfl
end
section
variable {X:Cx}{pins:List (Addr×Obj)}{σ:St}{H:Hp}{s:wr}{a:Addr}{kvs:List (Key×V)}{A:Mn}{E:pv→wr→Prop}
theorem xv {Q:pv→wr→Prop}(I:Inv X pins σ H s)(e:Rd H a (.dK kvs))(h:∀p s',H p=none→Inv X pins σ (upd H p (.dK kvs)) s'→Q (.ref p) s'):wpAny (model X.prog X.w) A (call (.type "dict") [.ref a]) Q E s:=by
 obtain⟨z,hd,vs,rel,dd⟩:=gw I.hok e
 refine kt_call_dict hd dd (by rw[←rel.length];exact z) fun h' dd' hs=>?_
 refine h _ _ (I.hok.fresh (ah _)) (I.laid (a:=s.heap.objs.size) (o:=.dK kvs) (t':=s.toks) (fun b q hq=>?_) (ah _) (lG z (beq_eq_false_iff_ne.mpr (Lt (LY I.big))) rel dd'))
 exact(hs.2 b (LY (LR hq))).trans (If _ hq)
end
end L2
namespace Att
open PySem PySem.W PySem.Calls PyProof.Rows
theorem ints_of_wellAll {P:Params}{h:Heap}:∀(ns:List Int)(vs:List pv),WellAll P h vs (ns.map WData.int)→QR vs ns:=by
 intro ns
 induction ns with
 |nil=>
  intro vs w
  rw[PX]at w
  cases w
  exact .nil
 |cons n ns ih=>
  intro vs w
  rw[Mo]at w
  cases w with
  |cons a b=>
   cases a
   exact .cons _ _ (ih _ b)
theorem script_of {l:OpenLaw}{n:Nat}(hn:l.most=some n){P:Params}{h:Heap}{args:List WData}{vals:List pv}
  (hpre:l.row.toRowW.claim.pre args=true)(hwl:WellAll P h vals args):
  ∃a vs ns,vals=[LK a]∧args=[WData.list (ns.map WData.int)]∧h.get? a=some {cls:=.type "list",data:=.seq vs.toArray}∧QR vs ns∧ns.length≤n:=by
 have hsh:WShape.hasAll [] args [.list .int]=true:=(pre_splitW hpre).1
 have hc:l.pre.holds [] {args:=args}=true:=(pre_splitW hpre).2
 obtain⟨d,r,rfl,h1,h2⟩:=hasAllW_cons hsh
 obtain rfl:=hasAllW_nil h2
 obtain⟨xs,rfl,h3⟩:=hasW_list h1
 obtain⟨ns,rfl⟩:=items_int h3
 have hlen:ns.length≤n:=by
  unfold OpenLaw.pre at hc
  have h4:(WTm.not (.lt (.lit (.int (n:Int))) (.len (.arg 0)))).holds [] {args:=[.list (ns.map .int)]}=true:=by
   have h4:=(holds_andW hc).1
   rw[hn]at h4
   exact h4
  have h5:=condW_of h4 (w_not (w_lt w_lit (w_len_list (w_arg rfl))))
  rw[LJ]at h5
  refine Nat.le_of_not_lt fun q=>?_
  have q':(n:Int)<((ns.length:Nat):Int):=by omega
  first
   |(rw[decide_eq_true q']at h5;exact absurd h5 (by decide))
   |(simp at h5;omega)
 cases hwl with
 |cons w1 w2=>
  cases w2
  cases w1 with
  |list ho hall=>exact⟨_,_,ns,rfl,rfl,ho,ints_of_wellAll ns _ hall,hlen⟩
theorem post_true (l:OpenLaw)(args:List WData):l.row.toRowW.claim.post args (.bool true) args=true:=
 postW_of (r:=l.row.toRowW) (X:=(true==true))
  (show WShape.has [] (.bool true) .bool=true by first|rfl|decide|simp[WShape.has,WShape.arms,WShape.armsAll])
  (show(WTm.eq .res (.lit (.bool true))).value [] {args:=args,res:=some (.bool true),after:=args}=some (.bool (true==true))from w_eq_bool (w_res rfl) w_lit) rfl
theorem attach_call {l:OpenLaw}{n:Nat}{q:Mf}{loose:List Str}{XP:(Str→Option pv)→Heap→Prop}{YP:Mx→Heap→Prop}{d:DefRec}
  (hn:l.most=some n)(hdf:d.params.defaults=[])
  (call:∀(w:Mx)(s₀ s₁:wr)(mg mb:Str→Option pv)(fa:Addr)(o:Obj)(pm cd doc:pv)(a:Addr)(vs:List pv)(ns:List Int),
   Ground q loose [] XP w s₀ mg mb s₁.heap→YP w s₁.heap→
   s₁.heap.get? fa=some o→o.data=.func (docDef d.name d.params d.body d.scope pm cd doc)→s₁.heap.CodeRec cd d.name→mg d.name=some (.ref fa)→
   s₁.heap.get? a=some {cls:=.type "list",data:=.seq vs.toArray}→QR vs ns→ns.length≤n→s₁.gens=#[]→
   codeAny (model l.prog w) callerA (.call (.ref fa) ⟨[.ref a],[]⟩) (fun r s'=>r=.ok (.ret (.bool true))∧OldK s₁.heap s'.heap∧s'.os=s₁.os∧Po s'.gens) s₁):
  WalkO q loose XP YP l.row.toRowW d [] (fun f vs=>Ry f vs):=by
 intro w s₀ s₁ mg mb G Y fa o pm cd doc dV kV ho hd hcd hD hmg hg args vals as hpre hlay hrd hwl hlo
 obtain rfl:dV=.none:=Dflts.none hD hdf
 obtain rfl:kV=.none:=Dflts.noKw hD
 obtain⟨a,vs,ns,rfl,rfl,hobj,hints,hlen⟩:=script_of hn hpre hwl
 refine enter_call (Ov (call w s₀ s₁ mg mb fa o pm cd doc a vs ns G Y ho (fd_plain hd) hcd hmg hobj hints hlen hg) fun r s' hq=>?_)
 obtain⟨rfl,h2,h3,h4⟩:=hq
 exact⟨.inl ⟨.bool true,.bool true,[],rfl,fun _=>rfl,.bool true,post_true l _,fun _=>⟨Tt,fun _ hm=>(nomatch hm)⟩⟩,h2,h3,h4⟩
end Att
namespace L2
open PySem PySem.Spec PyProof.Rows
theorem iR:∀{vs:List pv}{ns:List Int},QR vs ns→aW (ns.map V.int) vs
 |_,_,.nil=>.nil
 |_,_,.cons n t h=>.cons ⟨t,rfl⟩ (iR h)
def bT (s:Stmt):Arguments:=match s with
 |.FunctionDef _ a _ _ _ _ _ _ _ _=>a
 |_=>{posonlyargs:=[],args:=[],vararg:=none,kwonlyargs:=[],kw_defaults:=[],kwarg:=none,defaults:=[]}
def aO (s:Stmt):List Stmt:=match s with
 |.FunctionDef _ _ b _ _ _ _ _ _ _=>b
 |_=>[]
def ai (s:Stmt):Scope:=match s with
 |.FunctionDef _ _ _ _ _ _ sc _ _ _=>sc
 |_=>{kind:=.function,names:=[],isGenerator:=false,isCoroutine:=false}
abbrev E0:XK:=fun _ _ _=>False
structure Fun (K:cW)(x qual:Str)(st:Stmt)(f:Addr)(fd:LM):Prop where
 ex:∃(oc:pv)(od:Option Addr)(kV doc pm:pv)(an:Option Addr)(cdv ct:pv)(osl:Array (Option pv)),
  fd=NR x qual (bT st) (aO st) (ai st) .none kV doc pm an cdv ct∧K.lookup f=some ⟨oc,od,.func fd,osl⟩∧Si K cdv qual=true
 kp:NF K (.ref f)=true
section
variable {P:Mf}{w:Mx}{K:cW}{mg:Str→Option pv}{base:Heap}
theorem Fun.binds {x qual:Str}{st:Stmt}{f:Addr}{fd:LM}{ps:List Str}(F:Fun K x qual st f fd)
  (h:∀(kV doc pm:pv)(an:Option Addr)(cdv ct:pv)(us:List pv),us.length=ps.length→bindArgs (NR x qual (bT st) (aO st) (ai st) .none kV doc pm an cdv ct) ⟨us,[]⟩=pure (ps.zip us)):aH K fd ps []:=by
 obtain⟨oc,od,kV,doc,pm,an,cdv,ct,osl,rfl,lk,hcd⟩:=F.ex
 exact .all (h kV doc pm an cdv ct)
theorem aS {x qual:Str}{st:Stmt}{f:Addr}{oc:pv}{od an:Option Addr}{osl:Array (Option pv)}{kV doc pm cdv ct:pv}(l:K.lookup f=some ⟨oc,od,.func (NR x qual (bT st) (aO st) (ai st) .none kV doc pm an cdv ct),osl⟩)
 (c:Si K cdv qual=true)(k:NF K (.ref f)=true):Fun K x qual st f (NR x qual (bT st) (aO st) (ai st) .none kV doc pm an cdv ct):=⟨⟨oc,od,kV,doc,pm,an,cdv,ct,osl,rfl,l,c⟩,k⟩
end
theorem ft {n:Nat}(h:n≤1000):n<sizeLine:=MJ h (by decide)
section
variable {X:Cx}
theorem uG:bI X (.builtin "len") (fun xs H Q=>∃a kvs,xs=[V.ref a]∧H a=some (.dK kvs)∧Q (.int kvs.length) H):=by
 intro pins s σ H xs us Q I r h
 obtain⟨a,kvs,rfl,ha,q⟩:=h
 obtain⟨u,rfl,ru⟩:=ej r
 cases ru
 exact Fi I (.inl ha) fun t s' I'=>⟨.int kvs.length,H,I',⟨t,rfl⟩,q⟩
end
theorem Cz {A B:Prop}(h:A):if true=true then A else B:=by
 rw[if_pos rfl]
 exact h
def ax (H H':Hp):Prop:=∀b o,H b=some o→H' b=some o
theorem ax.refl (H:Hp):ax H H:=fun _ _ h=>h
theorem ax.trans {H H1 H2:Hp}(a:ax H H1)(b:ax H1 H2):ax H H2:=fun c o h=>b c o (a c o h)
theorem ax.free {H H':Hp}(e:ax H H'){l:Addr}(h:H' l=SJ):H l=SJ:=by
 cases q:H l with
 |none=>rfl
 |some o=>
  rw[e l o q]at h
  cases h
theorem ax.seq {K:cW}{H H':Hp}{a:Addr}{xs:List V}(e:ax H H')(h:SqL K H a xs):SqL K H' a xs:=by
 rcases h with(h|⟨o,h⟩)|h
 ·exact .inl (.inl (e _ _ h))
 ·exact .inl (.inr ⟨o,e _ _ h⟩)
 ·exact .inr h
def dC:List (Str×Nt)→List (Str×Addr)→List (Str×Addr)→List (Str×Addr)
 |[],_,cs=>cs
 |(n,k)::r,cells,cs=>dC r cells (if k==.free then(match cells.lookup n with|some a=>(n,a)::cs|none=>cs)else cs)
theorem pf {scope:Scope}{env:Env}(h:∀y∈scope.names,y.2=.free→(env.cells.lookup y.1).isSome=true):closureFor scope env=pure (dC scope.names env.cells []):=by
 have key:∀(l:List (Str×Nt))(cs:List (Str×Addr)),(∀y∈l,y.2=.free→(env.cells.lookup y.1).isSome=true)→
   (forIn l cs (fun(x:Str×Nt)(cs:List (Str×Addr))=>(if (x.2==Nk)=true then(do let a←cellOf env x.1;pure (Rq ((x.1,a)::cs)))else(pure (Rq cs):Sem _))):Sem (List (Str×Addr)))=pure (dC l env.cells cs):=by
  intro l
  induction l with
  |nil=>intro cs _;rfl
  |cons y r ih=>
   intro cs hy
   obtain⟨n,k⟩:=y
   rw[Sn]
   by_cases hk:k=.free
   ·subst hk
    have hs:=hy (n,.free) Mg rfl
    cases e:env.cells.lookup n with
    |none=>rw[e]at hs;cases hs
    |some a=>
     have:=ih ((n,a)::cs) (fun z hz=>hy z (LS _ hz))
     simp only[dC,beq_self_eq_true,if_true,e,cellOf,Se]
     exact this
   ·have hb:(k==Nk)=false:=by simpa using hk
    have:=ih cs (fun z hz=>hy z (LS _ hz))
    simp only[dC,hb,NW,if_false,Se]
    exact this
 have:=key scope.names [] h
 unfold closureFor
 simpa using this
theorem mX:∀{l:List (Str×Nt)}{cells cs:List (Str×Addr)}{x:Str}{c:Addr},(∀x c,cs.lookup x=some c→cells.lookup x=some c)→(dC l cells cs).lookup x=some c→cells.lookup x=some c
 |[],_,_,_,_,h,e=>h _ _ e
 |(n,k)::r,cells,cs,x,c,h,e=>by
  refine mX (l:=r) (fun y d hy=>?_) e
  split at hy
  ·split at hy
   ·rename_i a ha
    by_cases hyn:y=n
    ·subst hyn
     rw[Rb]at hy
     rw[←hy];exact ha
    ·rw[Nw]at hy
     have:(y==n)=false:=by simpa using hyn
     rw[this]at hy
     exact h _ _ hy
   ·exact h _ _ hy
  ·exact h _ _ hy
theorem kO:∀{l:List (Str×Nt)}{cells cs:List (Str×Addr)}{x:Str},(cs.lookup x).isSome=true→((dC l cells cs).lookup x).isSome=true
 |[],_,_,_,h=>h
 |(n,k)::r,cells,cs,x,h=>by
  refine kO (l:=r) ?_
  split
  ·split
   ·rw[Nw]
    split
    ·rfl
    ·exact h
   ·exact h
  ·exact h
theorem iS:∀{l:List (Str×Nt)}{cells cs:List (Str×Addr)}{x:Str},(x,Nk)∈l→(cells.lookup x).isSome=true→((dC l cells cs).lookup x).isSome=true
 |[],_,_,_,h,_=>by cases h
 |(n,k)::r,cells,cs,x,h,hs=>by
  rcases gV.mp h with e|h
  ·cases e
   refine kO (l:=r) ?_
   simp only[beq_self_eq_true,if_true]
   cases e:cells.lookup n with
   |none=>rw[e]at hs;cases hs
   |some a=>simp only[Rb];rfl
  ·exact iS (l:=r) h hs
theorem kB {x:Str}{k:Nt}:∀{l:List (Str×Nt)},l.lookup x=some k→(x,k)∈l:=fun h=>ML h
inductive gB (X:Cx)(scope:Scope):List Str→List Nat→Prop where
 |nil:gB X scope [] []
 |cons {y:Str} {i:Nat} {ys:List Str} {is:List Nat} (h1:X.N[i]?=some y) (h2:X.env.kindOf y=some .cell∨X.env.kindOf y=some .free) (h3:scope.names.lookup y=some .free) (h:gB X scope ys is):gB X scope (y::ys) (i::is)
structure gl (scope:Scope)(x:Str)(ys:List Str):Prop where
 kind:scope.kind=.function
 nocell:∀y∈scope.names,y.2≠.cell
 names:∀y∈scope.names,y.2=.local→scope.names.lookup y.1=some .local
 own:scope.names.lookup x=some .local
 all:∀y∈scope.names,y.2=.free→y.1∈ys
 nd:(x::ys).Nodup
def bS (X:Cx)(scope:Scope)(C:Addr)(N:List Str)(s:wr)(H:Hp)(fp:List Addr):Cx:=
 {X with N:=N,s₀:=s,H₀:=H,env:=compEnvC scope (dC scope.names X.env.cells []) C X.env,outer:=X.stack,ex:=fp,fn:=fun _=>false,pn:=[],xe:=fun _ _=>False}
def bV (σ:St)(is:List Nat):St:=is.map fun i=>(σ[i]?).getD none
theorem gD {f:Str×Nt→Str×Nt}(hf:∀p,(f p).1=p.1){x:Str}:∀(l:List (Str×Nt)),(l.map f).lookup x=(l.lookup x).map fun k=>(f (x,k)).2
 |[]=>rfl
 |(n,k)::r=>by
  have ih:=gD hf (x:=x) r
  have e:f (n,k)=(n,(f (n,k)).2):=SI (hf (n,k)) rfl
  rw[Mo,e,Nw,Nw]
  cases hx:x==n with
  |true=>
   have e':x=n:=by simpa using hx
   subst e';rfl
  |false=>exact ih
theorem iA (scope:Scope)(env:Env)(x:Str):(relabel scope env).names.lookup x=(scope.names.lookup x).map fun k=>if (k==Nk&&env.scope.kind==.function&&env.kindOf x==some .cell)then OI else k:=by
 have hf:∀p:Str×Nt,((fun(n,k)=>if (k==Nk&&env.scope.kind==.function&&env.kindOf n==some .cell)then(n,OI)else(n,k)) p:Str×Nt).1=p.1:=by
  intro p
  obtain⟨n,k⟩:=p
  show(if _ then(n,OI)else(n,k)).1=n
  split<;>rfl
 have:=gD hf (x:=x) scope.names
 show Ng x (List.map _ scope.names)=_
 rw[this]
 congr 1
 funext k
 show(if _ then(x,OI)else(x,k)).2=_
 split<;>rfl
theorem gE {scope:Scope}{env:Env}{x:Str}{k:Nt}(nc:∀y∈scope.names,y.2≠.cell)(h:(relabel scope env).names.lookup x=some k)(hk:k=.cell∨k=.free):(x,Nk)∈scope.names:=by
 rw[iA]at h
 cases q:scope.names.lookup x with
 |none=>rw[q]at h;cases h
 |some k'=>
  have hm:=kB q
  rw[q]at h
  have h:(if (k'==Nk&&env.scope.kind== .function&&env.kindOf x==some .cell)then OI else k')=k:=Me h
  by_cases hc:k'=.free
  ·subst hc;exact hm
  ·have hb:(k'==Nk)=false:=by simpa using hc
   rw[hb]at h
   have h:k'=k:=h
   subst h
   rcases hk with z|z
   ·exact absurd z (nc _ hm)
   ·exact absurd z hc
theorem pZ {scope:Scope}{env:Env}{x:Str}(h:scope.names.lookup x=some .free):(relabel scope env).names.lookup x=some .cell∨(relabel scope env).names.lookup x=some .free:=by
 rw[iA,h]
 show some (if _ then _ else _)=_∨some (if _ then _ else _)=_
 split
 ·exact .inl rfl
 ·exact .inr rfl
theorem mZ {scope:Scope}{env:Env}{x:Str}(h:scope.names.lookup x=some .local):(relabel scope env).names.lookup x=some .local:=by
 rw[iA,h];rfl
theorem uk {X:Cx}{scope:Scope}{ys:List Str}{is:List Nat}{m:Str→Option pv}{h:Heap}{σ:St}(hc:gB X scope ys is)
  (hl:∀(i:Nat)(x:Str)(v:V),X.N[i]? =some x→σ[i]? =some (some v)→Vis X.env.scope x→∃u,aJ v u∧Bt X.env h m x u)(nd:True):
  ∀(j:Nat)(y:Str)(v:V),ys[j]? =some y→(bV σ is)[j]? =some (some v)→∃u,aJ v u∧scope.names.lookup y=some .free∧∃c,X.env.cells.lookup y=some c∧h.IsCell c (some u):=by
 induction hc with
 |nil=>intro j y v e;simp at e
 | @cons z i zs js h1 h2 h3 hr ih=>
   intro j y v e1 e2
   cases j with
   |zero=>
    simp at e1;subst e1
    have e2:(σ[i]?).getD none=some v:=by simpa[bV]using e2
    have e3:σ[i]? =some (some v):=by
     cases q:σ[i]? with
     |none=>rw[q]at e2;simp at e2
     |some o=>rw[q]at e2;simp at e2;rw[e2]
    have hv:Vis X.env.scope z:=by
     rcases h2 with q|q
     ·exact .inr (.inl q)
     ·exact .inr (.inr q)
    obtain⟨u,r,l⟩:=hl i z v h1 e3 hv
    refine⟨u,r,h3,?_⟩
    rcases l with⟨k,_⟩|⟨_,c,e,ic⟩
    ·rcases h2 with q|q
     ·rw[q]at k;cases k
     ·rw[q]at k;cases k
    ·exact⟨c,e,ic⟩
   |succ j=>
    exact ih j y v (by simpa using e1) (by simpa[bV]using e2)
def yZ (is:List Nat)(tc:TT)(te:TE)(σ:St)(D:Addr)(J:It)(H1:Hp)(Q:VK):Prop:=∃W:Nat→Nat→List V→Hp→Prop,(∃m,W 0 m [] (upd H1 D (.lst [])))∧
 ∀i m ys H2,W i m ys H2→(J.stop i H2∧Q (.ref D) H2)∨(J.go i H2∧∀x H3,J.yld i H2 x H3→tc (some x::bV σ is) H3 fun b H4=>if b=true then
  te (some x::bV σ is) H4 fun y H5=>H5 D=some (.lst ys)∧ys.length<sizeLine∧∃m',m'<m∧W (i+1) m' (ys++[y]) (upd H5 D (.lst (ys++[y])))
  else ∃m',m'<m∧W (i+1) m' ys H4)
def oM (is:List Nat)(wi:TI)(tc:TT)(te:TE):TE:=fun σ H Q=>wi σ H fun J H1=>∀D,H1 D=none→yZ is tc te σ D J H1 Q
theorem qw (elt target iter c:Expr)(scope:Scope)(pos:Pos)(it acc:pv)(env:Env):
  compTurn (.ListComp elt [⟨target,iter,[c],0⟩] scope pos) 0 it acc env=(standAt iter.pos >>= fun _=>pyNext it >>= fun r=>match r with
   |none=>pure (.done .next)
   |some v=>letOwnedTupleGo target it v >>= fun _=>assign target env v >>= fun _=>isTrue c env (eval c env) >>= fun ok=>
    (if ok=true then(eval elt env >>= fun x=>call (.builtin "list.append") [acc,x] >>= fun _=>pure ())else pure ()) >>= fun _=>
     again (.compLoop (.ListComp elt [⟨target,iter,[c],0⟩] scope pos) 0 it acc env)):=by
 unfold compTurn
 simp only[Sn,List.forIn_nil,List.getElem?_cons_zero,List.getElem?_cons_succ,List.getElem?_nil,bind_assoc,Se,bne_self_eq_false,NW,if_false,if_true]
 congr 1
 funext _
 congr 1
 funext r
 cases r with
 |none=>rfl
 |some v=>
  simp only[bind_assoc,Se,if_true]
  congr 1;funext _
  congr 1;funext _
  congr 1;funext b
  cases b<;>simp
section
variable {prog:Mf}{w:Mx}{A:Mn}{R:Result→wr→Prop}{s:wr}
theorem iD {elt target iter c:Expr}{scope:Scope}{pos:Pos}{it acc:pv}{env:Env}(I:Nat→wr→Prop)
  (turn:∀n s,I n s→wpAny (model prog w) A (pyNext it) (fun r s₁=>match r with
   |none=>R (.ok .next) s₁
   |some v=>wpAny (model prog w) A (letOwnedTupleGo target it v) (fun _ s₁=>wpAny (model prog w) A (assign target env v) (fun _ s₂=>wpAny (model prog w) A (isTrue c env (eval c env)) (fun ok s₂=>if ok=true then wpAny (model prog w) A (eval elt env) (fun x s₃=>
    wpAny (model prog w) A (call (.builtin "list.append") [acc,x]) (fun _ s₄=>∃m,m<n∧I m s₄) (notedBy (model prog w) A env fun e s'=>R (.error e) s') s₃)
    (notedBy (model prog w) A env fun e s'=>R (.error e) s') s₂ else ∃m,m<n∧I m s₂) (notedBy (model prog w) A env fun e s'=>R (.error e) s') s₂) (notedBy (model prog w) A env fun e s'=>R (.error e) s') s₁) (notedBy (model prog w) A env fun e s'=>R (.error e) s') s₁) (notedBy (model prog w) A env fun e s'=>R (.error e) s') s)
  (n:Nat)(h:I n s):
  codeAny (model prog w) A (.compLoop (.ListComp elt [⟨target,iter,[c],0⟩] scope pos) 0 it acc env) R s:=by
 refine codeAny_loop rfl I (fun n s hI=>?_) n h
 show wpAny _ _ ((compTurn (.ListComp elt [⟨target,iter,[c],0⟩] scope pos) 0 it acc env).onRaise (fun x=>do noteFrame x env;theTreesLotGoes x)) _ _ s
 refine wpAny_noted ?_
 rw[qw]
 refine tx (Rv (tx (Mj (turn n s hI) (fun r s₁ h₁=>?_) fun _ _ h'=>h')))
 cases r with
 |none=>exact LU h₁
 |some v=>
  refine tx (Mj h₁ (fun _ s₁ h₁=>tx (Mj h₁ (fun _ s₂ h₂=>tx (Mj h₂ (fun ok s₃ h₃=>?_) fun _ _ h'=>h')) fun _ _ h'=>h')) fun _ _ h'=>h')
  cases ok with
  |true=>
   rw[if_pos rfl]at h₃
   simp only[if_true]
   exact tx (tx (Mj h₃ (fun x s₃ h₃=>tx (Mj h₃ (fun _ s₄ h₄=>LU (LU ⟨rfl,h₄⟩)) fun _ _ h'=>h')) fun _ _ h'=>h'))
  |false=>
   rw[if_neg Mm]at h₃
   simp only[NW,if_false]
   exact tx (LU (LU ⟨rfl,h₃⟩))
theorem iC {elt target iter:Expr}{scope:Scope}{pos:Pos}{it acc:pv}{env:Env}(I:Nat→wr→Prop)
  (turn:∀n s,I n s→wpAny (model prog w) A (pyNext it) (fun r s₁=>match r with
   |none=>R (.ok .next) s₁
   |some v=>wpAny (model prog w) A (letOwnedTupleGo target it v) (fun _ s₁=>wpAny (model prog w) A (assign target env v) (fun _ s₂=>wpAny (model prog w) A (eval elt env) (fun x s₃=>
    wpAny (model prog w) A (call (.builtin "list.append") [acc,x]) (fun _ s₄=>∃m,m<n∧I m s₄) (notedBy (model prog w) A env fun e s'=>R (.error e) s') s₃)
    (notedBy (model prog w) A env fun e s'=>R (.error e) s') s₂) (notedBy (model prog w) A env fun e s'=>R (.error e) s') s₁) (notedBy (model prog w) A env fun e s'=>R (.error e) s') s₁) (notedBy (model prog w) A env fun e s'=>R (.error e) s') s)
  (n:Nat)(h:I n s):
  codeAny (model prog w) A (.compLoop (.ListComp elt [⟨target,iter,[],0⟩] scope pos) 0 it acc env) R s:=by
 refine codeAny_loop rfl I (fun n s hI=>?_) n h
 show wpAny _ _ ((compTurn (.ListComp elt [⟨target,iter,[],0⟩] scope pos) 0 it acc env).onRaise (fun x=>do noteFrame x env;theTreesLotGoes x)) _ _ s
 refine wpAny_noted ?_
 rw[compTurn_list1]
 refine tx (Rv (tx (Mj (turn n s hI) (fun r s₁ h₁=>?_) fun _ _ h'=>h')))
 cases r with
 |none=>exact LU h₁
 |some v=>
  exact tx (Mj h₁ (fun _ s₁ h₁=>tx (Mj h₁ (fun _ s₂ h₂=>tx (tx (Mj h₂ (fun x s₃ h₃=>tx (Mj h₃
   (fun _ s₄ h₄=>LU (LU ⟨rfl,h₄⟩)) fun _ _ h'=>h')) fun _ _ h'=>h'))) fun _ _ h'=>h')) fun _ _ h'=>h')
end
def vy (X:Cx)(ifs:List Expr)(tc:TT):Prop:=match ifs with
 |[]=>tc=fun _ H Q=>Q true H
 |[c]=>PT X c tc
 |_=>False
section
variable {X:Cx}
theorem yc {scope:Scope}{ys:List Str}{is:List Nat}(h:gB X scope ys is):is.length=ys.length:=by
 induction h with
 |nil=>rfl
 |cons _ _ _ _ ih=>simp[ih]
theorem mK {scope:Scope}{ys:List Str}{is:List Nat}(h:gB X scope ys is){y:Str}(hy:y∈ys):X.env.kindOf y=some .cell∨X.env.kindOf y=some .free:=by
 induction h with
 |nil=>cases hy
 |cons _ h2 _ _ ih=>
  rcases gV.mp hy with e|e
  ·rw[e];exact h2
  ·exact ih e
theorem uw {elt iter:Expr}{ifs:List Expr}{x:Str}{px pos:Pos}{scope:Scope}{ys:List Str}{is:List Nat}{tc:TT}{te:TE}{pins:List (Addr×Obj)}{σ:St}{H2:Hp}{s2:wr}{it:Addr}{fp:List Addr}{tn:Nat→Heap→Prop}{J:It}{E:pv→wr→Prop}{Q:VK}{RR:pv→Addr→Result→wr→Prop}
  (hc:X.calm=true)(S:gl scope x ys)(hcap:gB X scope ys is)
  (hif:∀C s H fp,vy (bS X scope C (x::ys) s H fp) ifs tc)(he:∀C s H fp,PE (bS X scope C (x::ys) s H fp) elt te)
  (I2:Inv X pins σ H2 s2)(T:mt X.prog X.w X.K (.Name x px) J fp it tn)(st2:tn 0 s2.heap)(f2:∀b∈fp,iJ X pins H2 b)
  (hW:∀D,H2 D=none→∃W:Nat→Nat→List V→Hp→Prop,(∃m,W 0 m [] (upd H2 D (.lst [])))∧
   ∀i m ys H2,W i m ys H2→(J.stop i H2∧Q (.ref D) H2)∨(J.go i H2∧∀x H3,J.yld i H2 x H3→tc (some x::bV σ is) H3 fun b H4=>if b=true then
    te (some x::bV σ is) H4 fun y H5=>H5 D=some (.lst ys)∧ys.length<sizeLine∧∃m',m'<m∧W (i+1) m' (ys++[y]) (upd H5 D (.lst (ys++[y])))
    else ∃m',m'<m∧W (i+1) m' ys H4))
  (hRR:∀D C H' s',(X.s₀.heap.objs.size≤C∧∀p∈X.pn++pins,p.1≠C)→(∃m,s'.heap.Ns C m)→C≠X.env.locals→H' C=none→Inv X pins σ H' s'→(∀h',Oe C s'.heap h'→Inv X pins σ H' {s' with heap:=h'})→Q (.ref D) H'→RR (.ref D) C (.ok .next) s'):
  wpAny (model X.prog X.w) X.A (newList []) (fun acc s₃=>wpAny (model X.prog X.w) X.A (newFunctionEnv scope X.env.globals (dC scope.names X.env.cells []) [] X.env.qual none .none (some X.env)) (fun cenv s₄=>
   codeAny (model X.prog X.w) X.A (.compStart (.ListComp elt [⟨.Name x px,iter,ifs,0⟩] scope pos) 0 (.ref it) acc {cenv with scope:=relabel scope X.env}) (RR acc cenv.locals) s₄) E s₃) E s2:=by
 have hf2:H2 s2.heap.objs.size=none:=I2.fresh
 refine NL (Sg S.nocell (by intro y hy;simp at hy) (fun h₁ hns₁ hsb₁=>?_) S.kind)
 dsimp only at hns₁ hsb₁⊢
 have I3:Inv X pins σ (upd H2 s2.heap.objs.size (.lst [])) {s2 with heap:=s2.heap.push {cls:=.type "list",data:=.seq ([]:List pv).toArray}}:=I2.lnew (t':=s2.toks) (ys:=[]) .nil (Md _)
 obtain⟨W,⟨m0,w0⟩,turn⟩:=hW _ hf2
 generalize hD:s2.heap.objs.size=D at I3 w0 turn hf2⊢
 generalize hs3:({s2 with heap:=s2.heap.push {cls:=.type "list",data:=.seq ([]:List pv).toArray}}:wr)=s3 at I3
 have hp3:s2.heap.push {cls:=.type "list",dict:=none,data:=.seq ([]:List pv).toArray}=s3.heap:=by rw[←hs3]
 rw[hp3]at hns₁ hsb₁⊢
 have tk3:s2.toks=s3.toks:=by rw[←hs3]
 generalize hH3:upd H2 D (.lst [])=H3 at I3 w0
 generalize hC:s3.heap.objs.size=C at hns₁ hsb₁⊢
 have keep2:∀b o,s2.heap.get? b=some o→s3.heap.get? b=some o:=fun b o e=>by rw[←hp3];exact If _ e
 have keep3:∀b o,s3.heap.get? b=some o→h₁.get? b=some o:=fun b o e=>hsb₁.extBut b o (by rw[←hC];exact LY (LR e)) (If _ e)
 have st3:tn 0 s3.heap:=T.keep _ _ _ st2 fun b _ o e=>keep2 b o e
 have st4:tn 0 h₁:=T.keep _ _ _ st3 fun b _ o e=>keep3 b o e
 have fp3:∀b∈fp,H3 b=none∧b<C:=fun b hb=>by
  obtain⟨o,e,_⟩:=T.obj _ _ st2 b hb
  refine⟨?_,by rw[←hC];exact LR (keep2 b o e)⟩
  rw[←hH3,ao (by rw[←hD];exact LY (LR e))]
  exact(f2 b hb).1
 have hcells:∀{z:Str}{c:Addr},(dC scope.names X.env.cells []).lookup z=some c→X.env.cells.lookup z=some c:=fun h=>mX (fun _ _ q=>by cases q) h
 have hX:(bS X scope C (x::ys) s3 H3 fp).Ok:=by
  refine⟨I3.ok.mod,S.kind,I3.ok.glob,I3.ok.blt,Oj hC,fun y z c h1 h2=>I3.ok.inj y z c (hcells h1) (hcells h2),fun y hy=>?_,fun y c h _=>absurd (show false=true from h) Mm,I3.ok.hd,I3.ok.frames,.inl rfl,fun b hb=>⟨LY (fp3 b hb).2,fun y c h=>(f2 b hb).2.2.2.2.1 y c (hcells h)⟩,fun b o e=>I3.bs b o e,Mh I3.ok.bsz I3.sz,fun b o e hb=>?_,fun b hb z=>?_,I3.stack,I3.stkFree⟩
  ·have hy:(relabel scope X.env).names.lookup y=some .cell∨(relabel scope X.env).names.lookup y=some .free:=hy
   have hm:(y,Nk)∈scope.names:=by
    rcases hy with q|q
    ·exact gE S.nocell q (.inl rfl)
    ·exact gE S.nocell q (.inr rfl)
   have hs:∃c,X.env.cells.lookup y=some c:=by
    by_cases hk:X.env.kindOf y=some .cell∨X.env.kindOf y=some .free
    ·exact I3.ok.has y hk
    ·exact absurd (mK hcap (S.all _ hm rfl)) hk
   exact Mr.mp (iS hm (Mr.mpr hs))
  ·rcases(f2 b hb).2.2.2.1 with z|z
   ·exact I3.ok.noex b o e z
   ·exact absurd (LV (LR e) (Mh I3.ok.bsz z)) (MV _)
  ·rcases gV.mp (I3.stkSub b z)with q|q
   ·exact(f2 b hb).2.1 q
   ·exact(f2 b hb).2.2.1 q
 have I4:Inv (bS X scope C (x::ys) s3 H3 fp) [] (none::bV σ is) H3 {s2 with heap:=h₁,toks:=s2.toks+([]:List (Str×pv)).length}:=by
  obtain⟨m3,hm3,hl3⟩:=id I3.loc
  refine⟨hX,?_,?_,Un.kept keep3,⟨_,hns₁,fun i y v e1 e2 e3=>?_⟩,fun y c e=>?_,?_,fun y c e=>I3.freeC y c (hcells e),fun p hp=>absurd (show p∈([]:List (Addr×Obj))from hp) (by simp),I3.hok.kept keep3,?_⟩
  ·show s2.os=s3.os
   rw[←hs3]
  ·have:=I2.bare;exact this
  ·cases i with
   |zero=>simp at e2
   |succ j=>
    obtain⟨u,r,hfr,c,ec,ic⟩:=uk hcap hl3 trivial j y v (by have e1':(x::ys)[j+1]? =some y:=e1;simpa using e1') (by simpa using e2)
    have hk:=pZ (env:=X.env) hfr
    obtain⟨c',ec'⟩:=Mr.mp (iS (cs:=[]) (kB hfr) (by rw[ec];rfl) (cells:=X.env.cells))
    have:c'=c:=by have:=hcells ec';rw[ec]at this;exact(Me this).symm
    subst this
    obtain⟨o,ho,hd⟩:=ic
    exact⟨u,r,.inr ⟨hk,c',ec',o,keep3 _ _ ho,hd⟩⟩
  ·obtain⟨v,o,ho,hd⟩:=I3.cell y c (hcells e)
   exact⟨v,o,keep3 _ _ ho,hd⟩
  ·have:=I3.hok.fresh (a:=C) (Oj hC)
   exact this
  ·have:=yc hcap
   show(none::bV σ is).length=(x::ys).length
   simp[bV,this]
 have lenσ:∀v:Option V,(v::bV σ is).set 0=fun w=>w::bV σ is:=fun v=>rfl
 have hown:(relabel scope X.env).names.lookup x=some .local:=mZ S.own
 have loop:codeAny (model X.prog X.w) X.A (.compLoop (.ListComp elt [⟨.Name x px,iter,ifs,0⟩] scope pos) 0 (.ref it) (.ref D) (compEnvC scope (dC scope.names X.env.cells []) C X.env)) (RR (.ref D) C)
   {s2 with heap:=h₁,toks:=s2.toks+([]:List (Str×pv)).length}:=by
  have fin:∀{H':Hp}{v:Option V}{s':wr},Inv (bS X scope C (x::ys) s3 H3 fp) [] (v::bV σ is) H' s'→Q (.ref D) H'→RR (.ref D) C (.ok .next) s':=fun{H' v s'} J q=>by
   obtain⟨m',hm',_⟩:=J.loc
   have hCL:C≠X.env.locals:=Lt (by rw[←hC];exact LY I3.lt)
   have back:∀h',Oe C s'.heap h'→Inv X pins σ H' {s' with heap:=h'}:=fun h' hs'=>by
    have os':s'.os=s3.os:=J.os
    refine I3.call' (s':={s' with heap:=h'}) (ch:=fp) os' ⟨fun b o e n hb hx=>?_,fun b o e n hb hx=>?_,fun b o e n hx=>J.base.free b o e n hx,fun b o e hx=>?_,J.base.tups,J.base.frzs,J.base.tbls⟩ (fun b o e=>?_) J.bare fun b hb=>?_
    ·exact hs'.extBut b o (by rw[←hC];exact LY (LR e)) (J.base.keep b o e n hb hx)
    ·obtain⟨sl,e1⟩:=J.base.slot b o e n hb hx
     exact⟨sl,hs'.extBut b _ (by rw[←hC];exact LY (LR e)) e1⟩
    ·obtain⟨o',e1⟩:=J.base.there b o e hx
     exact⟨o',hs'.extBut b _ (by rw[←hC];exact LY (LR e)) e1⟩
    ·refine(J.hok b o e).stay (fun c w' hc q=>(hs'.2 c ?_).trans q) (fun _ q=>q) fun _ _ q=>q
     have fC:H' C=none:=J.free
     rintro rfl
     rcases hc with rfl|hc
     ·rw[fC]at e;cases e
     ·rw[fC]at hc;cases hc
    ·obtain⟨_,a1,_,a2,a3,a4⟩:=f2 b hb
     exact⟨a2,a1,a3,a4⟩
   refine hRR D C H' s' ⟨by rw[←hC];exact I3.sz,fun p hp=>by rw[←hC];exact LY (LR (I3.pin p hp).1)⟩ ⟨m',hm'⟩ hCL J.free ?_ back q
   have:=back s'.heap (.refl ..)
   exact this
  have stat:∀{H':Hp},(∀b∈fp,H' b=none)→∀b∈fp,iJ (bS X scope C (x::ys) s3 H3 fp) [] H' b:=fun hn b hb=>by
   obtain⟨_,a1,a5,a2,a3,a4⟩:=f2 b hb
   refine⟨hn b hb,LY (fp3 b hb).2,fun z=>?_,.inl hb,fun y c e=>a3 y c (hcells e),fun p hp=>absurd (show p∈([]:List (Addr×Obj))from hp) (by simp)⟩
   rcases gV.mp (I3.stkSub b z)with q|q
   ·exact a1 q
   ·exact a5 q
  have turnAt:∀n s,(∃i v ys' H',Inv (bS X scope C (x::ys) s3 H3 fp) [] (v::bV σ is) H' s∧tn i s.heap∧(∀b∈fp,H' b=none)∧W i n ys' H')→
    wpAny (model X.prog X.w) X.A (pyNext (.ref it)) (fun r s₁=>match r with
     |none=>RR (.ref D) C (.ok .next) s₁
     |some u=>wpAny (model X.prog X.w) X.A (letOwnedTupleGo (.Name x px) (.ref it) u) (fun _ s₁=>wpAny (model X.prog X.w) X.A (assign (.Name x px) (compEnvC scope (dC scope.names X.env.cells []) C X.env) u) (fun _ s₂=>
      ∃(xx:V)(i:Nat)(ys':List V)(H3' H6:Hp)(pl:List (Addr×Obj)),Inv (bS X scope C (x::ys) s3 H3 fp) ([]++pl) (some xx::bV σ is) H6 s₂∧
       (∀s7 v7 H7,Inv (bS X scope C (x::ys) s3 H3 fp) ([]++pl) (v7::bV σ is) H7 s7→Inv (bS X scope C (x::ys) s3 H3 fp) [] (v7::bV σ is) H7 s7∧tn (i+1) s7.heap∧∀b∈fp,H7 b=none)∧
       (tc (some xx::bV σ is) H6 fun b H4=>if b=true then te (some xx::bV σ is) H4 fun y H5=>H5 D=some (.lst ys')∧ys'.length<sizeLine∧∃m',m'<n∧W (i+1) m' (ys'++[y]) (upd H5 D (.lst (ys'++[y])))
        else ∃m',m'<n∧W (i+1) m' ys' H4)) (fun _ _=>False) s₁) (fun _ _=>False) s₁) (fun _ _=>False) s:=by
   rintro n s ⟨i,v,ys',H',J,st,fr,w'⟩
   rcases turn i n ys' H' w' with⟨stop,qn⟩|⟨go,step⟩
   ·refine thn (T.done (bS X scope C (x::ys) s3 H3 fp) rfl rfl rfl hc i [] s _ H' (fun _ _=>False) J (stat fr) st stop) fun r s4 ⟨hr,J4⟩=>?_
    subst hr
    exact fin J4 qn
   ·refine thn (T.item (bS X scope C (x::ys) s3 H3 fp) rfl rfl rfl hc i [] s _ H' (fun _ _=>False) J (stat fr) st go) fun r s4 ⟨u,hr,h4⟩=>?_
    subst hr
    refine thn h4 fun _ s5 ⟨xx,H5,J5,r5,y5,st5,fr5⟩=>?_
    have J5':=J5.pinned (stat fr5) (T.obj _ _ st5)
    refine SR (jQ (i:=0) J5' S.nd rfl (.inl hown) r5 (fun s6 J6=>?_) (.inr hown))
    refine⟨xx,i,ys',H5,H5,iO fp s5.heap,J6,fun s7 v7 H7 J7=>⟨J7.unpinned,T.keep _ _ _ st5 fun b hb o e=>(J7.pin (b,o) (Mp _ (Mp _ (fJ hb e)))).1,fun b hb=>?_⟩,step xx H5 y5⟩
    obtain⟨o,e,d⟩:=T.obj _ _ st5 b hb
    exact(J7.pin (b,o) (Mp _ (Mp _ (fJ hb e)))).2.1
  have start0:∃i v ys' H',Inv (bS X scope C (x::ys) s3 H3 fp) [] (v::bV σ is) H' {s2 with heap:=h₁,toks:=s2.toks+([]:List (Str×pv)).length}∧tn i h₁∧(∀b∈fp,H' b=none)∧W i m0 ys' H':=
   ⟨0,none,[],H3,I4,st4,fun b hb=>(fp3 b hb).1,w0⟩
  have emit:∀(n:Nat)(xx:V)(i:Nat)(ys':List V)(H4:Hp)(pl:List (Addr×Obj))(s₂:wr),Inv (bS X scope C (x::ys) s3 H3 fp) ([]++pl) (some xx::bV σ is) H4 s₂→
    (∀s7 v7 H7,Inv (bS X scope C (x::ys) s3 H3 fp) ([]++pl) (v7::bV σ is) H7 s7→Inv (bS X scope C (x::ys) s3 H3 fp) [] (v7::bV σ is) H7 s7∧tn (i+1) s7.heap∧∀b∈fp,H7 b=none)→
    (te (some xx::bV σ is) H4 fun y H5=>H5 D=some (.lst ys')∧ys'.length<sizeLine∧∃m',m'<n∧W (i+1) m' (ys'++[y]) (upd H5 D (.lst (ys'++[y]))))→
    wpAny (model X.prog X.w) X.A (eval elt (compEnvC scope (dC scope.names X.env.cells []) C X.env)) (fun y s₃=>wpAny (model X.prog X.w) X.A (call (.builtin "list.append") [.ref D,y]) (fun _ s₄=>
     ∃m,m<n∧∃i v ys' H',Inv (bS X scope C (x::ys) s3 H3 fp) [] (v::bV σ is) H' s₄∧tn i s₄.heap∧(∀b∈fp,H' b=none)∧W i m ys' H') (fun _ _=>False) s₃) (fun _ _=>False) s₂:=by
   intro n xx i ys' H4 pl s₂ J2 back q
   refine thn (he C s3 H3 fp ([]++pl) s₂ _ H4 _ J2 q) fun y s₃ ⟨yv,H5,J3,r3,q1,q2,q3⟩=>?_
   refine thn (gu (X:=bS X scope C (x::ys) s3 H3 fp) ([]++pl) s₃ _ H5 (.ref D) [yv] (.ref D) [y] (fun v H7=>v=.non∧H7=upd H5 D (.lst (ys'++[yv]))) J3 rfl (.cons r3 .nil) ⟨D,ys',yv,rfl,rfl,q1,q2,rfl,rfl⟩) fun _ s₄ ⟨_,H7,J4,_,_,e7⟩=>?_
   subst e7
   obtain⟨m',hm',w'⟩:=q3
   obtain⟨b1,b2,b3⟩:=back s₄ _ _ J4
   exact⟨m',hm',i+1,some xx,ys'++[yv],_,b1,b2,b3,w'⟩
  have ex0:∀{α:Type}{t:Sem α}{Q':α→wr→Prop}{E':pv→wr→Prop}{s:wr},wpAny (model X.prog X.w) X.A t Q' (fun _ _=>False) s→wpAny (model X.prog X.w) X.A t Q' E' s:=fun h=>Mj h (fun _ _ q=>q) fun _ _ q=>q.elim
  cases ifs with
  |nil=>
   have htc:tc=fun _ H Q=>Q true H:=hif C s3 H3 fp
   subst htc
   refine iC (fun n s=>∃i v ys' H',Inv (bS X scope C (x::ys) s3 H3 fp) [] (v::bV σ is) H' s∧tn i s.heap∧(∀b∈fp,H' b=none)∧W i n ys' H') (fun n s hI=>?_) m0 start0
   refine Mj (turnAt n s hI) (fun r s₁ h₁=>?_) fun _ _ q=>q.elim
   cases r with
   |none=>exact h₁
   |some u=>
    refine Mj h₁ (fun _ s₁ h₁=>Mj h₁ (fun _ s₂ h₂=>?_) fun _ _ q=>q.elim) fun _ _ q=>q.elim
    obtain⟨xx,i,ys',_,H6,pl,J2,back,q⟩:=h₂
    dsimp only at q
    rw[if_pos rfl]at q
    exact Mj (emit n xx i ys' H6 pl s₂ J2 back q) (fun y s₃ h₃=>ex0 h₃) fun _ _ q=>q.elim
  |cons c r0=>
   cases r0 with
   |cons _ _=>exact(hif C s3 H3 fp).elim
   |nil=>
    have hpt:PT (bS X scope C (x::ys) s3 H3 fp) c tc:=hif C s3 H3 fp
    refine iD (fun n s=>∃i v ys' H',Inv (bS X scope C (x::ys) s3 H3 fp) [] (v::bV σ is) H' s∧tn i s.heap∧(∀b∈fp,H' b=none)∧W i n ys' H') (fun n s hI=>?_) m0 start0
    refine Mj (turnAt n s hI) (fun r s₁ h₁=>?_) fun _ _ q=>q.elim
    cases r with
    |none=>exact h₁
    |some u=>
     refine Mj h₁ (fun _ s₁ h₁=>Mj h₁ (fun _ s₂ h₂=>?_) fun _ _ q=>q.elim) fun _ _ q=>q.elim
     obtain⟨xx,i,ys',_,H6,pl,J2,back,q⟩:=h₂
     refine Mj (hpt ([]++pl) s₂ _ H6 _ J2 q) (fun b s₃ h₃=>?_) fun _ _ q=>q.elim
     obtain⟨H4,J4,q4⟩:=h₃
     cases b with
     |true=>
      rw[if_pos rfl]at q4⊢
      exact Mj (emit n xx i ys' H4 pl s₃ J4 back q4) (fun y s₃ h₃=>ex0 h₃) fun _ _ q=>q.elim
     |false=>
      rw[if_neg Mm]at q4⊢
      obtain⟨m',hm',w'⟩:=q4
      obtain⟨b1,b2,b3⟩:=back s₃ _ _ J4
      exact⟨m',hm',i+1,some xx,ys',_,b1,b2,b3,w'⟩
 exact codeAny_compStart_list loop (T.self X.A 0 _ _ _ st4 loop)
end
section
variable {X:Cx}
theorem Ay {scope:Scope}{x:Str}{ys:List Str}{is:List Nat}(ok:X.Ok)(S:gl scope x ys)(hcap:gB X scope ys is):closureFor scope X.env=pure (dC scope.names X.env.cells []):=
 pf fun y hy hk=>by
  obtain⟨c,e⟩:=ok.has y.1 (mK hcap (S.all y hy hk))
  rw[e];rfl
theorem AB {elt iter:Expr}{ifs:List Expr}{x:Str}{px pos:Pos}{scope:Scope}{ys:List Str}{is:List Nat}{wi:TI}{tc:TT}{te:TE}
  (hc:X.calm=true)(S:gl scope x ys)(hcap:gB X scope ys is)(hi:PI X (.Name x px) iter wi)
  (hif:∀C s H fp,vy (bS X scope C (x::ys) s H fp) ifs tc)(he:∀C s H fp,PE (bS X scope C (x::ys) s H fp) elt te)
  (hs:∀x,foldedSetIterable iter X.env x=pure x:=by intro _;rfl):PE X (.ListComp elt [⟨.Name x px,iter,ifs,0⟩] scope pos) (oM is wi tc te):=by
 intro pins s σ H Q I h
 rw[eval_ListComp]
 refine wpAny_comprehension_free (use:=none) rfl hs (Ay I.ok S hcap) S.kind S.names (thn (hi pins s σ H _ I h) fun v s1 h1=>thn h1 fun itv s2 h2=>?_)
 obtain⟨it,fp,tn,J,H2,rfl,I2,T,st2,f2,hW⟩:=h2
 refine uw (RR:=fun acc C=>compPost (model X.prog X.w) X.A X.xe none (EP X pins σ Q) acc C) hc S hcap hif he I2 T st2 f2 hW ?_
 intro D C H' s' hlt hns hne hfr I' back q
 obtain⟨m,hm⟩:=hns
 exact⟨m,hm,fun h' hs'=>⟨.ref D,H',back h' hs',rfl,q⟩⟩
end
def tyN (H:Hp):V→Option String
 |.non=>some "NoneType"
 |.bl _=>some "bool"
 |.int _=>some "int"
 |.str _=>some "str"
 |.ref a=>match H a with
  |some (.lst _)=>some "list"
  |some (.frz _ (.lst _))=>some "list"
  |some (.tup _)=>some "tuple"
  |some (.dK _)=>some "dict"
  |some (.dT _)=>some "dict"
  |_=>none
 |_=>none
theorem CP {K:cW}{H:Hp}{x:V}{t:String}(h:tyN H x=some t):eX K H x (.type t):=by
 cases x with
 |non=>cases h;exact .non
 |bl b=>cases h;exact .bl b
 |int i=>cases h;exact .int i
 |str x=>cases h;exact .str x
 |byt _=>cases h
 |flt _=>cases h
 |ty _=>cases h
 |ref a=>
  unfold tyN at h
  dsimp only at h
  split at h
  ·rename_i e;cases h;exact .lst e
  ·rename_i e;cases h;exact .frz e
  ·rename_i e;cases h;exact .tup e
  ·rename_i e;cases h;exact .dK e
  ·rename_i e;cases h;exact .dT e
  ·cases h
def tyL:List String:=["NoneType","bool","int","str","list","tuple","dict"]
theorem CB {H:Hp}{x:V}{t:String}(h:tyN H x=some t):t∈tyL:=by
 cases x with
 |non=>cases h;decide
 |bl b=>cases h;decide
 |int i=>cases h;decide
 |str x=>cases h;decide
 |byt _=>cases h
 |flt _=>cases h
 |ty _=>cases h
 |ref a=>
  unfold tyN at h
  dsimp only at h
  split at h<;>first|(cases h;decide)|cases h
def isI (t T:String):Bool:=t==T||(T=="int"&&t=="bool")
theorem BG (K:cW):∀t∈tyL,∀T∈["int","bool","str","tuple","list","dict"],Oy K (.type t) (.type T)=some (isI t T):=by
 intro t ht T hT
 simp only[tyL,gV,pz,or_false]at ht hT
 rcases ht with rfl|rfl|rfl|rfl|rfl|rfl|rfl<;>rcases hT with rfl|rfl|rfl|rfl|rfl|rfl<;>(unfold Oy;first|rfl|decide+kernel|(simp only[W.kitCls];rfl))
section
variable {X:Cx}
theorem xu:bI X (.builtin "isinstance") (fun xs H Q=>∃x T t,xs=[x,.ty T]∧T∈["int","bool","str","tuple","list","dict"]∧tyN H x=some t∧Q (.bl (isI t T)) H):=by
 intro pins s σ H xs us Q I r h
 obtain⟨x,T,t,rfl,hT,ht,q⟩:=h
 obtain⟨u,w',rfl,r1,r2⟩:=oR r
 cases r2
 exact tQ I r1 (CP ht) (BG X.K t (CB ht) T hT) fun tk=>⟨.bl _,H,I.tok tk,rfl,q⟩
end
section
variable {X:Cx}
theorem qT:∀{bs:List Bool}{us:List pv},aW (bs.map V.bl) us→us=bs.map NI
 |[],_,.nil=>rfl
 |b::bs,_,.cons r t=>by
  have e:_=NI b:=r
  rw[qT t,Mo,e]
theorem uT (bs:List Bool):(Ny bs.length).all (fun i=>bs.getD i false)=bs.all id:=by
 rw[Ox,Na,Na]
 constructor
 ·intro h b hb
  obtain⟨i,hi,e⟩:=Ro.mp hb
  have:=h i (Oc.mpr hi)
  simp only[LQ,LN hi,RC]at this
  rw[←e];exact this
 ·intro h i hi
  have hi:=Oc.mp hi
  simp only[LQ,LN hi,RC]
  exact h _ (PY hi)
theorem qu {prog:Mf}{w:Mx}{A:Mn}{bs:List Bool}:TruthOf prog w A (fun i v=>(bs.map NI).toArray[i]? =some v) (fun i=>bs.getD i false):=by
 intro i v s Q E hP hQ
 have hP:(bs.map NI)[i]? =some v:=by simpa using hP
 rw[Ml]at hP
 cases e:bs[i]? with
 |none=>rw[e]at hP;cases hP
 |some b=>
  rw[e]at hP
  cases hP
  have hQ':Q b s:=by
   have e2:bs.getD i false=b:=by rw[LQ,e];rfl
   have hQ2:Q (bs.getD i false) s:=hQ
   rw[e2]at hQ2;exact hQ2
  exact wpAny_of_eq (a:=b) rfl hQ'
theorem vx (hc:X.calm=true):bI X (.builtin "all") (fun xs H Q=>∃(a:Addr)(bs:List Bool),xs=[.ref a]∧H a=some (.lst (bs.map V.bl))∧Q (.bl (bs.all id)) H):=by
 intro pins s σ H xs us Q I r h
 obtain⟨a,bs,rfl,hH,q⟩:=h
 obtain⟨u,rfl,ru⟩:=ej r
 cases ru
 obtain⟨z,its,n,rv,e⟩:=I.hok a _ hH
 have ei:=qT rv
 subst ei
 have hl:s.heap.IsList a (bs.map NI).toArray:=⟨_,e,rfl,_,rfl⟩
 refine call_all_walk (SN hl ?_)
 have hne:a≠s.heap.objs.size:=LY (LR e)
 refine⟨s.heap.objs.size,_,_,_,_,_,_,rfl,Walks.list (by show X.A.handled=none;exact I.ok.hd hc) _ a hne (bs.map NI).toArray,⟨⟨_,Mb _ rfl,rfl,rfl⟩,⟨_,If _ e,rfl,_,rfl⟩⟩,qu,fun h' tk hk=>?_⟩
 have e2:((bs.map NI).toArray).size=bs.length:=by simp
 rw[e2,uT]
 refine⟨.bl _,H,I.kept (t':=tk) fun b o hb=>hk b o ?_ (If _ hb),rfl,q⟩
 intro z
 have:b=s.heap.objs.size:=by simpa using z
 rw[this]at hb
 exact absurd (LR hb) (MV _)
theorem qN:∀{xs:List Str}{us:List pv},aW (xs.map V.str) us→StrsAre us xs
 |[],_,.nil=>.nil
 |x::xs,_,.cons r t=>by
  obtain⟨tk,e⟩:=(show ∃t,_=Ow x t from r)
  rw[e]
  exact .cons _ _ (qN t)
def yG:V→List V→Hp→VK→Prop:=fun x vs H Q=>∃(z:Str)(a:Addr)(xs:List Str),x=.str z∧vs=[.ref a]∧H a=some (.lst (xs.map V.str))∧(xs.map (·.length)).sum+xs.length*z.length≤16777216∧Q (.str (Txt.join z xs)) H
theorem Ad:MtM X "str.join" yG:=by
 intro pins s σ H x vs v us Q I rx rv h
 obtain⟨z,a,xs,rfl,rfl,hH,hz,q⟩:=h
 obtain⟨t,rfl⟩:=(show ∃t,v=Ow z t from rx)
 obtain⟨u,rfl,ru⟩:=rv.one
 cases ru
 obtain⟨_,its,n,rv,e⟩:=I.hok a _ hH
 refine join_list (items:=its.toArray) ⟨_,e,rfl,_,rfl⟩ (by simpa using qN rv) hz fun t' k=>⟨.str _,H,I.tok k,⟨_,rfl⟩,q⟩
end
@[irreducible] def Sel (b:Bool)(A B:Prop):Prop:=if b=true then A else B
theorem Sel.mk {b:Bool}{A B:Prop}(h1:b=true→A)(h2:b=false→B):Sel b A B:=by
 unfold Sel
 cases b with
 |true=>exact h1 rfl
 |false=>exact h2 rfl
theorem Sel.t {A B:Prop}(h:A):Sel true A B:=.mk (fun _=>h) fun e=>by cases e
theorem Sel.f {A B:Prop}(h:B):Sel false A B:=.mk (fun e=>by cases e) fun _=>h
theorem Sel.dec {p A B:Prop}[Decidable p](h1:p→A)(h2:¬p→B):Sel (decide p) A B:=.mk (fun e=>h1 (of_decide_eq_true e)) fun e=>h2 (of_decide_eq_false e)
theorem Sel.ndec {p A B:Prop}[Decidable p](h1:¬p→A)(h2:p→B):Sel (!decide p) A B:=.mk (fun e=>h1 (by simpa using e)) fun e=>h2 (by simpa using e)
theorem Sel.yes {b:Bool}{A B:Prop}(e:b=true)(h:A):Sel b A B:=by rw[e];exact .t h
theorem Sel.no {b:Bool}{A B:Prop}(e:b=false)(h:B):Sel b A B:=by rw[e];exact .f h
theorem eG {b:Bool}{A B:Prop}(h:Sel b A B):if b=true then A else B:=by unfold Sel at h;exact h
def ae (i:Nat):TE:=fun σ H Q=>match σ[i]? with|some (some v)=>Q v H|_=>False
section
variable {X:Cx}
theorem PE.imp {e:Expr}{t t':TE}(h:PE X e t)(i:∀σ H Q,t' σ H Q→t σ H Q):PE X e t':=fun pins s σ H Q I q=>h pins s σ H Q I (i _ _ _ q)
theorem OpR.imp {f:pv→pv→Sem pv}{r r':R2}(h:OpR X f r)(i:∀x y H Q,r' x y H Q→r x y H Q):OpR X f r':=fun pins s σ H x y v u Q I rx ry q=>h pins s σ H x y v u Q I rx ry (i _ _ _ _ q)
theorem qv (i:Nat){x:Str}{pos:Pos}(hN:X.N[i]?=some x:=by rfl)(hv:Vis X.env.scope x:=by first|exact Or.inl rfl|exact Sa (Or.inl rfl)|exact Sa (Sa rfl))(hd:(x==("__debug__":Str))=false:=by decide)
  (hcd:(x==("__classdict__":Str))=false:=by decide):PE X (.Name x pos) (ae i):=(Df hN hv hd hcd).imp fun σ H Q q=>by
 unfold ae at q
 split at q
 ·rename_i v e;exact⟨v,e,q⟩
 ·exact q.elim
theorem qgi {x:Str}{i:Int}{pos:Pos}(hm:∃t,X.mg x=some (.int i t))(hg:Gl X x:=by rfl)(hd:(x==("__debug__":Str))=false:=by decide):PE X (.Name x pos) (tC (.int i)):=by
 obtain⟨t,e⟩:=hm
 exact mj hg e ⟨t,rfl⟩ hd
def eC:R2:=fun x y H Q=>match x,y with|.int i,.int j=>Q (.int (i- j)) H|_,_=>False
theorem fc:OpR X (binaryOp .Sub) eC:=BK.imp fun x y H Q q=>by
 unfold eC at q
 split at q
 ·exact⟨_,_,rfl,rfl,q⟩
 ·exact q.elim
theorem AJ:OpR X (binaryOp .Mult) (rI IntMulOk fun i j=>.int (i*j)):=opI fun _ _ _ _ _ _ _ hc q=>mul_int q hc
def xE:R2:=fun x y H Q=>match x,y with
 |.int i,.int j=>IntMulOk i j∧Q (.int (i*j)) H
 |_,_=>False
theorem Lu:OpR X (binaryOp .Mult) xE:=AJ.imp fun x y H Q q=>by
 unfold xE at q
 split at q
 ·exact⟨_,_,rfl,rfl,q.1,q.2⟩
 ·exact q.elim
def cq:R2:=fun x y H Q=>match x,y with|.int i,.int j=>0<j∧Q (.int (i%j)) H|_,_=>False
theorem cB:OpR X (binaryOp .Mod) cq:=Dp.imp fun x y H Q q=>by
 unfold cq at q
 split at q
 ·exact⟨_,_,rfl,rfl,q.1,q.2⟩
 ·exact q.elim
def vX:R2:=fun x y H Q=>match x,y with|.int i,.int j=>(0≤j∧j≤1000000∧i.natAbs<2^64)∧Q (.int (i^j.toNat)) H|_,_=>False
theorem Li:OpR X (binaryOp .Pow) vX:=DP.imp fun x y H Q q=>by
 unfold vX at q
 split at q
 ·exact⟨_,_,rfl,rfl,q.1,q.2⟩
 ·exact q.elim
def iF:R2:=fun x y H Q=>match x,y with|.int i,.int j=>(0≤j∧j≤1000000∧i.natAbs<2^64)∧Q (.int (i*2^j.toNat)) H|_,_=>False
theorem mv:OpR X (binaryOp .LShift) iF:=DN.imp fun x y H Q q=>by
 unfold iF at q
 split at q
 ·exact⟨_,_,rfl,rfl,q.1,q.2⟩
 ·exact q.elim
def sK:R2:=fun x y H Q=>match x,y with|.int i,.int j=>0≤j∧Q (.int (i/2^j.toNat)) H|_,_=>False
theorem Ek:OpR X (binaryOp .RShift) sK:=Er.imp fun x y H Q q=>by
 unfold sK at q
 split at q
 ·exact⟨_,_,rfl,rfl,q.1,q.2⟩
 ·exact q.elim
def rL:R2:=fun x y H Q=>match x,y with|.int i,.int j=>Q (.int (NZ i j)) H|_,_=>False
theorem CL:OpR X (binaryOp .BitXor) rL:=Dw.imp fun x y H Q q=>by
 unfold rL at q
 split at q
 ·exact⟨_,_,rfl,rfl,q⟩
 ·exact q.elim
def tz:R2:=fun x y H Q=>match x,y with|.int i,.int j=>Q (.int (MZ i j)) H|_,_=>False
theorem GW:OpR X (binaryOp .BitAnd) tz:=Di.imp fun x y H Q q=>by
 unfold tz at q
 split at q
 ·exact⟨_,_,rfl,rfl,q⟩
 ·exact q.elim
def mLt:R2:=fun x y H Q=>match x,y with|.int i,.int j=>Q (.bl (decide (i<j))) H|_,_=>False
theorem oLt:OpR X (compareOp .Lt) mLt:=HI.imp fun x y H Q q=>by
 unfold mLt at q
 split at q
 ·exact⟨_,_,rfl,rfl,q⟩
 ·exact q.elim
def mLe:R2:=fun x y H Q=>match x,y with|.int i,.int j=>Q (.bl (decide (i≤j))) H|_,_=>False
theorem oLe:OpR X (compareOp .LtE) mLe:=FM.imp fun x y H Q q=>by
 unfold mLe at q
 split at q
 ·exact⟨_,_,rfl,rfl,q⟩
 ·exact q.elim
def mEq:R2:=fun x y H Q=>match x,y with
 |.int i,.int j=>Q (.bl (decide (i=j))) H
 |.str i,.str j=>Q (.bl (decide (i=j))) H
 |.bl i,.bl j=>Q (.bl (decide (i=j))) H
 |.non,.non=>Q (.bl true) H
 |.non,.int _=>Q (.bl false) H|.int _,.non=>Q (.bl false) H|.non,.bl _=>Q (.bl false) H|.bl _,.non=>Q (.bl false) H|.non,.str _=>Q (.bl false) H|.str _,.non=>Q (.bl false) H
 |.int _,.str _=>Q (.bl false) H|.str _,.int _=>Q (.bl false) H|.bl _,.str _=>Q (.bl false) H|.str _,.bl _=>Q (.bl false) H
 |_,_=>False
theorem pH {α:Type}[DecidableEq α]{f:α→V}(hf:∀a b,f a=f b→a=b)(a b:α):decide (f a=f b)=decide (a=b):=by
 by_cases h:a=b
 ·subst h;simp
 ·rw[decide_eq_false h,decide_eq_false fun e=>h (hf a b e)]
theorem oEq:OpR X (compareOp .Eq) mEq:=GU.imp fun x y H Q q=>by
 unfold mEq at q
 split at q
 ·exact⟨rfl,by rw[pH (f:=V.int) fun _ _ e=>V.int.inj e];exact q⟩
 ·exact⟨rfl,by rw[pH (f:=V.str) fun _ _ e=>V.str.inj e];exact q⟩
 ·exact⟨rfl,by rw[pH (f:=V.bl) fun _ _ e=>V.bl.inj e];exact q⟩
 ·exact⟨rfl,by simpa using q⟩
 all_goals first|exact q.elim|exact⟨rfl,q⟩
def vT:R2:=fun x y H Q=>match y with|.non=>Q (.bl (match x with|.non=>true|_=>false)) H|_=>False
theorem oIs:OpR X (compareOp .Is) vT:=Bq.imp fun x y H Q q=>by
 unfold vT at q
 split at q
 ·refine⟨rfl,?_⟩
  cases x<;>simpa using q
 ·exact q.elim
def bF (t:TE):TT:=fun σ H Q=>t σ H fun x H'=>match x with|.bl k=>Q k H'|_=>False
theorem qtc {op:RZ}{r:R2}{a b:Expr}{ta tb:TE}{pos:Pos}(ho:OpR X (compareOp op) r)(ha:PE X a ta)(hb:PE X b tb)(hm:behindInMarks op b=false:=by first|exact lu _|rfl):PT X (.Compare a [op] [b] pos) (bF (tOp r ta tb)):=by
 intro pins s σ H Q I h
 refine wpAny_isTrue_Compare1 (thn (ha pins s σ H _ I h) fun v s1 ⟨x,H1,I1,r1,q1⟩=>thn (hb pins s1 σ H1 _ I1 q1) fun u s2 ⟨y,H2,I2,r2,q2⟩=>
  thn (ho pins s2 σ H2 x y v u _ I2 r1 r2 q2) fun c s3 ⟨z,H3,I3,r3,q3⟩=>?_) hm
 cases z<;>first|exact q3.elim|(cases r3;exact Nv ⟨H3,I3,q3⟩)
theorem qc {op:RZ}{r:R2}{a b:Expr}{ta tb:TE}{pos:Pos}(ho:OpR X (compareOp op) r)(ha:PE X a ta)(hb:PE X b tb)(hm:behindInMarks op b=false:=by first|exact lu _|rfl):PE X (.Compare a [op] [b] pos) (tOp r ta tb):=zY ho ha hb hm
def dM (r r':R2)(ta tb tc:TE):TE:=fun σ H Q=>ta σ H fun x H1=>tb σ H1 fun y H2=>r x y H2 fun z H3=>match z with
 |.bl k=>Sel k (tc σ H3 fun w' H4=>r' y w' H4 Q) (Q (.bl false) H3)
 |_=>False
theorem qch {op op':RZ}{r r':R2}{a b c:Expr}{ta tb tc:TE}{pos:Pos}(ho:OpR X (compareOp op) r)(ho':OpR X (compareOp op') r')(ha:PE X a ta)(hb:PE X b tb)(hc:PE X c tc)
  (hm:lastMarks [op,op'] [b,c]=false:=by with_unfolding_all rfl):PE X (.Compare a [op,op'] [b,c] pos) (dM r r' ta tb tc):=by
 intro pins s σ H Q I h
 refine Compare_chain (thn (ha pins s σ H _ I h) fun v s1 ⟨x,H1,I1,r1,q1⟩=>chain_link (thn (hb pins s1 σ H1 _ I1 q1) fun u s2 ⟨y,H2,I2,r2,q2⟩=>
  thn (ho pins s2 σ H2 x y v u _ I2 r1 r2 q2) fun d s3 ⟨z,H3,I3,r3,q3⟩=>?_)) hm
 cases z<;>first|exact q3.elim|skip
 rename_i k
 cases r3
 refine Nv ?_
 have q3:=eG q3
 cases k with
 |false=>exact ite_ff ⟨.bl false,H3,I3,rfl,q3⟩
 |true=>exact ite_tt (chain_last (thn (hc pins s3 σ H3 _ I3 q3) fun w' s4 ⟨z',H4,I4,r4,q4⟩=>ho' pins s4 σ H4 y z' u w' Q I4 r2 r4 q4))
theorem Kc {op op':RZ}{r r':R2}{a b c:Expr}{ta tb tc:TE}{pos:Pos}(ho:OpR X (compareOp op) r)(ho':OpR X (compareOp op') r')(ha:PE X a ta)(hb:PE X b tb)(hc:PE X c tc)
  (hm:lastMarks [op,op'] [b,c]=false:=by with_unfolding_all rfl):PT X (.Compare a [op,op'] [b,c] pos) (bF (dM r r' ta tb tc)):=by
 intro pins s σ H Q I h
 refine isTrue_chain (thn (ha pins s σ H _ I h) fun v s1 ⟨x,H1,I1,r1,q1⟩=>test_link (thn (hb pins s1 σ H1 _ I1 q1) fun u s2 ⟨y,H2,I2,r2,q2⟩=>
  thn (ho pins s2 σ H2 x y v u _ I2 r1 r2 q2) fun d s3 ⟨z,H3,I3,r3,q3⟩=>?_)) hm
 cases z<;>first|exact q3.elim|skip
 rename_i k
 cases r3
 refine Nv ?_
 have q3:=eG q3
 cases k with
 |false=>exact ite_ff ⟨H3,I3,q3⟩
 |true=>
  refine ite_tt (test_last (thn (hc pins s3 σ H3 _ I3 q3) fun w' s4 ⟨z',H4,I4,r4,q4⟩=>thn (ho' pins s4 σ H4 y z' u w' _ I4 r2 r4 q4) fun d' s5 ⟨z2,H5,I5,r5,q5⟩=>?_))
  cases z2<;>first|exact q5.elim|(cases r5;exact Nv ⟨H5,I5,q5⟩)
def cZ (K:cW)(t:TE):TT:=fun σ H Q=>t σ H fun x H'=>match x with
 |.bl k=>Q k H'
 |.non=>Q false H'
 |.int i=>Q (i !=0) H'
 |x=>∃k,Bs K x H' k∧Q k H'
theorem qtb {e:Expr}{t:TE}(h:PE X e t)(he:∀whole,isTrue e X.env whole=(do let v←whole;standAt e.pos;holding [v] (truthy v)):=by intro _;rfl):PT X e (cZ X.K t):=by
 intro pins s σ H Q I q
 refine isTrue_plain (thn (h pins s σ H _ I q) fun v s1 ⟨x,H1,I1,r1,q1⟩=>BY pins s1 σ H1 x v Q I1 r1 ?_) (he _)
 cases x<;>first|exact⟨_,rfl,q1⟩|exact q1
def mOr (t u:TT):TT:=fun σ H Q=>t σ H fun c H1=>Sel c (Q true H1) (u σ H1 Q)
variable {a b c:Expr}{ta tb:TE}{tA tB':TT}{dA:List Expr}{pos:Pos}
theorem Cu (ha:PT X a tA):PW X (.BoolOp .Or [a] pos) tA:=AV ha
theorem GJ (ha:PT X a tA)(hb:PW X (.BoolOp .Or (b::dA) pos) tB'):PW X (.BoolOp .Or (a::b::dA) pos) (mOr tA tB'):=by
 intro wh pins s σ H Q I h
 refine isTrue_or (thn (ha pins s σ H _ I h) fun c s1 ⟨H1,I1,q1⟩=>?_)
 have q1:=eG q1
 cases c with
 |true=>exact⟨H1,I1,q1⟩
 |false=>exact hb wh pins s1 σ H1 Q I1 q1
def cb (ta tb:TE):TE:=fun σ H Q=>ta σ H fun x H1=>match x with|.bl c=>Sel c (tb σ H1 Q) (Q (.bl false) H1)|_=>False
def je (ta:TE):TE:=fun σ H Q=>ta σ H fun x H1=>match x with|.bl c=>Q (.bl (!c)) H1|_=>False
theorem JF (ha:PE X a ta)(hb:PE X (.BoolOp .And (b::dA) pos) tb):PE X (.BoolOp .And (a::b::dA) pos) (cb ta tb):=by
 intro pins s σ H Q I h
 refine BoolOp_and (thn (ha pins s σ H _ I h) fun v s1 ⟨x,H1,I1,r1,q1⟩=>?_)
 cases x<;>first|exact q1.elim|skip
 rename_i c
 cases r1
 refine Nv ?_
 have q1:=eG q1
 cases c with
 |true=>exact hb pins s1 σ H1 Q I1 q1
 |false=>exact⟨.bl false,H1,I1,rfl,q1⟩
theorem HN (ha:PE X a ta):PE X (.UnaryOp .Not a pos) (je ta):=by
 intro pins s σ H Q I h
 refine UnaryOp_ (thn (ha pins s σ H _ I h) fun v s1 ⟨x,H1,I1,r1,q1⟩=>?_)
 cases x<;>first|exact q1.elim|skip
 rename_i c
 cases r1
 exact not_of (Nv ⟨.bl (!c),H1,I1,rfl,q1⟩)
def mIf (t:TT)(ta tb:TE):TE:=fun σ H Q=>t σ H fun c H1=>Sel c (ta σ H1 Q) (tb σ H1 Q)
theorem JU {c:Expr}(hc:PT X c tA)(ha:PE X a ta)(hb:PE X b tb):PE X (.IfExp c a b pos) (mIf tA ta tb):=by
 intro pins s σ H Q I h
 refine wpAny_IfExp (thn (hc pins s σ H _ I h) fun d s1 ⟨H1,I1,q1⟩=>?_)
 have q1:=eG q1
 cases d with
 |true=>exact ha pins s1 σ H1 Q I1 q1
 |false=>exact hb pins s1 σ H1 Q I1 q1
def bJ (c:TT)(t u:TS):TS:=fun D σ H=>c σ H fun b H1=>Sel b (t D σ H1) (u D σ H1)
theorem qif {c:Expr}{l m:List Stmt}{tc:TT}{t u:TS}(hc:PT X c tc)(ha:PSs X l t)(hb:PSs X m u):PS X (.If c l m pos) (bJ tc t u):=by
 intro pins s σ H D I h
 refine wpAny_If (thn (hc pins s σ H _ I h) fun d s1 ⟨H1,I1,q1⟩=>?_)
 have q1:=eG q1
 cases d with
 |true=>exact ha pins s1 σ H1 D I1 q1
 |false=>exact hb pins s1 σ H1 D I1 q1
theorem Lf:bI X (.builtin "len") (fun xs H Q=>match xs with
  |[.str y]=>y.length≤sizeLine∧Q (.int y.length) H
  |[.ref p]=>(∃xs,SqL X.K H p xs∧Q (.int xs.length) H)∨(∃xs,SqT X.K H p xs∧Q (.int xs.length) H)∨∃kvs,H p=some (.dK kvs)∧Q (.int kvs.length) H
  |_=>False):=by
 intro pins s σ H xs us Q I r h
 split at h
 ·rename_i y
  exact jR pins s σ H _ us Q I r ⟨_,_,rfl,⟨h.1,rfl⟩,h.2⟩
 ·rename_i p
  rcases h with⟨ys,h1,h2⟩|⟨ys,h1,h2⟩|⟨kvs,h1,h2⟩
  ·exact jR pins s σ H _ us Q I r ⟨_,_,rfl,.inl ⟨ys,h1,rfl⟩,h2⟩
  ·exact jR pins s σ H _ us Q I r ⟨_,_,rfl,.inr ⟨ys,h1,rfl⟩,h2⟩
  ·exact uG pins s σ H _ us Q I r ⟨p,kvs,rfl,h1,h2⟩
 ·exact h.elim
end
section
variable {X:Cx}{tg:Expr}
def lY:V→Hp→VK→Prop:=fun x H Q=>match x with|.int i=>Q (.int (-i)) H|_=>False
theorem Kh:UnR X (unaryOp .USub) lY:=fun pins s σ H x v Q I rx q=>BV pins s σ H x v Q I rx (by
 unfold lY at q
 split at q
 ·exact⟨_,rfl,q⟩
 ·exact q.elim)
def CV (K:cW):List V→Hp→VK→Prop:=fun xs H Q=>match xs with
 |[.str y]=>y.length≤sizeLine∧Q (.int y.length) H
 |[.ref p]=>(∃xs,SqL K H p xs∧Q (.int xs.length) H)∨(∃xs,SqT K H p xs∧Q (.int xs.length) H)∨∃kvs,H p=some (.dK kvs)∧Q (.int kvs.length) H
 |_=>False
theorem KA:bI X (.builtin "len") (CV X.K):=Lf
def eP:List V→Hp→VK→Prop:=fun xs H Q=>match xs with
 |[x,.ty T]=>T∈["int","bool","str","tuple","list","dict"]∧∃t,tyN H x=some t∧Q (.bl (isI t T)) H
 |_=>False
theorem fw:bI X (.builtin "isinstance") eP:=fun pins s σ H xs us Q I r h=>by
 unfold eP at h
 split at h
 ·obtain⟨h1,t,h2,h3⟩:=h
  exact xu pins s σ H _ us Q I r ⟨_,_,t,rfl,h1,h2,h3⟩
 ·exact h.elim
def BI:List V→Hp→VK→Prop:=fun xs H Q=>∃(a:Addr)(bs:List Bool),xs=[.ref a]∧H a=some (.lst (bs.map V.bl))∧Q (.bl (bs.all id)) H
theorem Jz (hc:X.calm=true):bI X (.builtin "all") BI:=vx hc
def nQ (K:cW):List V→Hp→VK→Prop:=fun xs H Q=>∃p ys,xs=[.ref p]∧(SqL K H p ys∨SqT K H p ys)∧∀l,H l=none→Q (.ref l) (upd H l (.lst ys))
theorem sy:bI X (.type "list") (nQ X.K):=pw
def wL:List V→Hp→VK→Prop:=fun xs H Q=>match xs with
 |[.int i]=>i.natAbs.log2<1920∧Q (.str (toString i)) H
 |_=>False
theorem Kf:bI X (.type "str") wL:=fun pins s σ H xs us Q I r h=>by
 unfold wL at h
 split at h
 ·exact pC pins s σ H _ us Q I r ⟨_,rfl,h.1,h.2⟩
 ·exact h.elim
def wc:List V→Hp→VK→Prop:=fun xs H Q=>match xs with
 |[.str x]=>x.length=1∧Q (.int (x.cps.getD 0 0:Nat)) H
 |_=>False
theorem KI:bI X (.builtin "ord") wc:=fun pins s σ H xs us Q I r h=>by
 unfold wc at h
 split at h
 ·exact xo pins s σ H _ us Q I r ⟨_,rfl,h.1,h.2⟩
 ·exact h.elim
end
theorem BW:bootBuiltins "all"=some (.builtin "all"):=by decide+kernel
structure eK (J:It)(n:Nat)(it:Nat→V)(Pv:Hp→Prop):Prop where
 go:∀i H,i<n→Pv H→J.go i H
 yld:∀i H x H',i<n→Pv H→J.yld i H x H'→H'=H∧x=it i
 stop:∀H,Pv H→J.stop n H
theorem eK.tuple {K:cW}{a:Addr}{xs:List V}(d:V):eK (Itt K a) xs.length (fun i=>xs.getD i d) (fun H=>SqT K H a xs)where
 go:=fun i H hi h=>⟨xs,xs[i],h,by simp[hi]⟩
 yld:=fun i H x H' hi h y=>⟨y.1,by have:=y.2 xs h;rw[LQ,this];rfl⟩
 stop:=fun H h=>⟨xs,h,ah _⟩
theorem eK.range {lo:Int}{n:Nat}:eK (Itr lo n) n (fun i=>.int (lo+i)) (fun _=>True)where
 go:=fun i H hi _=>hi
 yld:=fun i H x H' hi _ y=>y
 stop:=fun H _=>ah _
def CWd (n:Nat)(Pv:Nat→List V→Hp→Prop):Nat→Nat→List V→Hp→Prop:=fun i m ys H=>i≤n∧m=n- i∧Pv i ys H
theorem CWd.next {n i:Nat}{Pv:Nat→List V→Hp→Prop}{ys:List V}{H:Hp}(hi:i<n)(h:Pv (i+1) ys H):∃m',m'<n- i∧CWd n Pv (i+1) m' ys H:=⟨n- (i+1),by omega,hi,rfl,h⟩
theorem rj {J:It}{n:Nat}{it:Nat→V}{Pk:Hp→Prop}{σ:St}{is:List Nat}{tc:TT}{te:TE}{Q:VK}{H1:Hp}{D:Addr}(T:eK J n it Pk)(Pv:Nat→List V→Hp→Prop)
  (hk:∀i ys H,i≤n→Pv i ys H→Pk H)(h0:Pv 0 [] (upd H1 D (.lst [])))
  (hs:∀i ys H2,i<n→Pv i ys H2→tc (some (it i)::bV σ is) H2 fun b H4=>if b=true then
   te (some (it i)::bV σ is) H4 fun y H5=>H5 D=some (.lst ys)∧ys.length<sizeLine∧∃m',m'<n- i∧CWd n Pv (i+1) m' (ys++[y]) (upd H5 D (.lst (ys++[y])))
   else ∃m',m'<n- i∧CWd n Pv (i+1) m' ys H4)
  (hd:∀ys H,Pv n ys H→Q (.ref D) H):yZ is tc te σ D J H1 Q:=by
 refine⟨CWd n Pv,⟨n,Md _,rfl,h0⟩,?_⟩
 rintro i m ys H2 ⟨hi,rfl,p⟩
 by_cases hlt:i<n
 ·refine .inr ⟨T.go i H2 hlt (hk i ys H2 hi p),fun x H3 y=>?_⟩
  obtain⟨rfl,rfl⟩:=T.yld i H2 x H3 hlt (hk i ys H2 hi p) y
  exact hs i ys _ hlt p
 ·have e:i=n:=by omega
  subst e
  exact .inl ⟨T.stop H2 (hk _ ys H2 hi p),hd ys H2 p⟩
theorem ax.upd {H:Hp}{p:Addr}{o:HO}(h:H p=none):ax H (upd H p o):=fun b u e=>by rw[ao (ag e h)];exact e
theorem uf {xs:List V}{i:Int}(h0:0≤i)(h1:i<xs.length):atI xs i=some (xs.getD i.toNat .non):=by
 unfold atI ixN
 rw[if_pos h0,if_pos h1]
 show xs[i.toNat]?=_
 rw[LQ]
 have:i.toNat<xs.length:=by omega
 rw[LN this];rfl
def bZ:Expr→Bool
 |.Starred _ _=>false
 |_=>true
theorem aX {e:Expr}(h:bZ e=true)(dA:List Expr)(env:Env):starEach (e::dA) env=(false,eval e env)::starEach dA env:=by
 cases e<;>first|rfl|cases h
def bn:List Expr→Bool
 |[]=>true
 |e::r=>bZ e&&bn r
theorem cg:∀{es:List Expr}{env:Env}{pos:Pos},bn es=true→(backTo pos (starEach es env)).any (·.1)=false
 |[],_,_,_=>rfl
 |e::r,env,pos,h=>by
  have h:(bZ e&&bn r)=true:=h
  rw[Mz]at h
  rw[aX h.1]
  show(false||(backTo pos (starEach r env)).any (·.1))=false
  rw[cg h.2];rfl
section
variable {X:Cx}{e:Expr}{es:List Expr}{te:TE}{t:TA}{pos:Pos}
theorem Av (ha:PE X e te)(hr:PA X es t)(hs:bZ e=true:=by rfl):PA X (e::es) (af te t):=zX ha hr (aX hs es X.env)
variable {x:Str}{p apos cpos:Pos}{id T:String}{r:List V→Hp→VK→Prop}
theorem zU (hc:bI X (.builtin id) r)(hg:Gl X x)(hm:X.mg x=none)(hv:bootBuiltins x=some (.builtin id))(ha:PA X (e::es) t)(hn:x≠"__name__":=by decide)(hdb:(x==("__debug__":Str))=false:=by decide)
  (hs:bn (e::es)=true:=by rfl):PE X (.Call (.Name x p) (e::es) [] pos) (tCB r t):=
 have h:(bZ e&&bn es)=true:=hs
 xi hc hg hm hv ha hn hdb (aX (LO.mp h).1 es X.env) (cg (LO.mp h).2)
theorem vF (hc:bI X (.type T) r)(hg:Gl X x)(hm:X.mg x=none)(hv:bootBuiltins x=some (.type T))(ha:PA X (e::es) t)(hn:x≠"__name__":=by decide)(hdb:(x==("__debug__":Str))=false:=by decide)
  (hs:bn (e::es)=true:=by rfl):PE X (.Call (.Name x p) (e::es) [] pos) (tCB r t):=
 have h:(bZ e&&bn es)=true:=hs
 uF hc hg hm hv ha hn hdb (aX (LO.mp h).1 es X.env) (cg (LO.mp h).2)
variable {CX:CXT}{k:Nat}{f C:Addr}{fd:LM}{ps:List Str}{sp:Sp}{dvs:List V}{ds:List pv}{E:XK}{m:Str}{o:Expr}{ta:TE}
theorem jJ:∀{es:List Expr}{env:Env}{pos:Pos},bn es=true→(backTo pos (starEach es env)).all (fun x=> !x.1)=true
 |[],_,_,_=>rfl
 |e::r,env,pos,h=>by
  have h:(bZ e&&bn r)=true:=h
  rw[Mz]at h
  rw[aX h.1]
  show(true&&(backTo pos (starEach r env)).all (fun x=> !x.1))=true
  rw[jJ h.2];rfl
variable {to:TE}{name:Str}{rm:V→List V→Hp→VK→Prop}
theorem JV (pa:Ql T)(slot:Slot T name id)(hty:typeOf (.builtin id)=pure (.type "method_descriptor"))(hm:MtR X id rm)(ho:PE X o to)(ha:PA X (e::es) t)
  (hbase:attributeBase o name X.env (eval o X.env)=eval o X.env:=by rfl)(hfew:decide ((e::es).length<30)=true:=by rfl)
  (hline:(apos.endLine==cpos.line)=true:=by rfl)(hs:bn (e::es)=true:=by rfl):PE X (.Call (.Attribute o name apos) (e::es) [] cpos) (tBM X.K T rm to t):=
 have h:(bZ e&&bn es)=true:=hs
 FD pa slot hty hm ho ha hbase (by rw[jJ hs];exact hfew) hline (aX (LO.mp h).1 es X.env) (cg (LO.mp h).2)
end
structure QE (X:Cx)(e:Expr)(t:TE):Prop where
 out:PE X e t
structure QT (X:Cx)(e:Expr)(t:TT):Prop where
 out:PT X e t
structure QW (X:Cx)(e:Expr)(t:TT):Prop where
 out:PW X e t
structure QA (X:Cx)(e:List Expr)(t:TA):Prop where
 out:PA X e t
structure QS (X:Cx)(e:Stmt)(t:TS):Prop where
 out:PS X e t
structure QSs (X:Cx)(e:List Stmt)(t:TS):Prop where
 out:PSs X e t
structure QI (X:Cx)(tg iter:Expr)(t:TI):Prop where
 out:PI X tg iter t
structure QO (X:Cx)(e:Option Expr)(t:TO):Prop where
 out:PO X e t
structure Eb (X:Cx)(e:List Expr)(t:TT):Prop where
 out:vy X e t
section
variable {X:Cx}{a b c e o:Expr}{es dA:List Expr}{ta tb tc te to tv:TE}{tA tB':TT}{t:TA}{pos apos cpos p:Pos}{x y:Str}
theorem aa (i:Nat)(hN:X.N[i]?=some x:=by rfl)(hv:Vis X.env.scope x:=by first|exact Or.inl rfl|exact Sa (Or.inl rfl)|exact Sa (Sa rfl))(hd:(x==("__debug__":Str))=false:=by decide)
 (hcd:(x==("__classdict__":Str))=false:=by decide):QE X (.Name x pos) (ae i):=⟨qv i hN hv hd hcd⟩
theorem vV {i:Int}(hm:∃t,X.mg x=some (.int i t))(hg:Gl X x:=by rfl)(hd:(x==("__debug__":Str))=false:=by decide):QE X (.Name x pos) (tC (.int i)):=⟨qgi hm hg hd⟩
theorem fx {T:String}(hm:X.mg x=none)(hv:bootBuiltins x=some (.type T))(hg:Gl X x:=by rfl)(hn:x≠"__name__":=by decide)(hd:(x==("__debug__":Str))=false:=by decide):QE X (.Name x pos) (tC (.ty T)):=⟨zI hg hm hv rfl hn hd⟩
theorem av {i:Int}{j}:QE X (.Constant (.int i) j pos) (tC (.int i)):=⟨Bn⟩
theorem dO {b:Bool}{j}:QE X (.Constant (.bool b) j pos) (tC (.bl b)):=⟨GC⟩
theorem ik {j}:QE X (.Constant .none j pos) (tC .non):=⟨By⟩
theorem dE {z:Str}{j}:QE X (.Constant (.str z) j pos) (tC (.str z)):=⟨DX⟩
theorem sg (ha:QE X a ta):QE X (.UnaryOp .USub a pos) (tUn lY ta):=⟨HJ Kh ha.out⟩
theorem oj (ha:QE X a ta):QE X (.UnaryOp .Not a pos) (je ta):=⟨HN ha.out⟩
theorem aG {op:Operator}{r:R2}(ho:OpR X (binaryOp op) r)(ha:QE X a ta)(hb:QE X b tb):QE X (.BinOp a op b pos) (tOp r ta tb):=⟨Ho ho ha.out hb.out⟩
theorem et {op:RZ}{r:R2}(ho:OpR X (compareOp op) r)(ha:QE X a ta)(hb:QE X b tb)(hm:behindInMarks op b=false:=by first|exact lu _|rfl):QE X (.Compare a [op] [b] pos) (tOp r ta tb):=⟨qc ho ha.out hb.out hm⟩
theorem fK {op op':RZ}{r r':R2}(ho:OpR X (compareOp op) r)(ho':OpR X (compareOp op') r')(ha:QE X a ta)(hb:QE X b tb)(hc:QE X c tc)(hm:lastMarks [op,op'] [b,c]=false:=by with_unfolding_all rfl):
 QE X (.Compare a [op,op'] [b,c] pos) (dM r r' ta tb tc):=⟨qch ho ho' ha.out hb.out hc.out hm⟩
theorem dh {op}(h:QE X a ta):QE X (.BoolOp op [a] pos) ta:=⟨Du h.out⟩
theorem ck (ha:QE X a ta)(hb:QE X (.BoolOp .And (b::dA) pos) tb):QE X (.BoolOp .And (a::b::dA) pos) (cb ta tb):=⟨JF ha.out hb.out⟩
theorem sX (hc:QT X c tA)(ha:QE X a ta)(hb:QE X b tb):QE X (.IfExp c a b pos) (mIf tA ta tb):=⟨JU hc.out ha.out hb.out⟩
theorem ak:QA X [] am:=⟨Ej⟩
theorem ac (ha:QE X e te)(hr:QA X es t)(hs:bZ e=true:=by rfl):QA X (e::es) (af te t):=⟨Av ha.out hr.out hs⟩
theorem dS (h:QA X es t):QE X (.List es pos) (dZ t):=⟨Ba h.out⟩
theorem dR {x1}(h:QA X es t):QE X (.Tuple es x1 pos) (eD t):=⟨Ci h.out⟩
theorem cm {r:R2}(hr:IxR X r)(ha:QE X a ta)(hb:QE X b tb)(hs:re b):QE X (.Subscript a b pos) (tOp r ta tb):=⟨Gq hr ha.out hb.out hs⟩
theorem qG:QO X none jk:=⟨An⟩
theorem qB (h:QE X e te):QO X (some e) (nY te):=⟨Aw h.out⟩
theorem qY {r:V→Option Int→Option Int→Hp→VK→Prop}{lo hi:Option Expr}{tl th:TO}{p2:Pos}(hr:SlR X r)(he:QE X e te)(hl:QO X lo tl)(hu:QO X hi th):QE X (.Subscript e (.Slice lo hi none p2) pos) (tSl r te tl th):=⟨vr hr he.out hl.out hu.out⟩
variable {id T:String}{r:List V→Hp→VK→Prop}
theorem aV (hc:bI X (.builtin id) r)(hm:X.mg x=none)(hv:bootBuiltins x=some (.builtin id))(ha:QA X (e::es) t)(hg:Gl X x:=by rfl)(hn:x≠"__name__":=by decide)(hdb:(x==("__debug__":Str))=false:=by decide)
 (hs:bn (e::es)=true:=by rfl):QE X (.Call (.Name x p) (e::es) [] pos) (tCB r t):=⟨zU hc hg hm hv ha.out hn hdb hs⟩
theorem dL (hc:bI X (.type T) r)(hm:X.mg x=none)(hv:bootBuiltins x=some (.type T))(ha:QA X (e::es) t)(hg:Gl X x:=by rfl)(hn:x≠"__name__":=by decide)(hdb:(x==("__debug__":Str))=false:=by decide)
 (hs:bn (e::es)=true:=by rfl):QE X (.Call (.Name x p) (e::es) [] pos) (tCB r t):=⟨vF hc hg hm hv ha.out hn hdb hs⟩
variable {CX:CXT}{k:Nat}{f C:Addr}{fd:LM}{ps:List Str}{sp:Sp}{dvs:List V}{ds:List pv}{E:XK}{m:Str}
variable {name:Str}{rm:V→List V→Hp→VK→Prop}
theorem hV (pa:Ql T)(slot:Slot T name id)(hty:typeOf (.builtin id)=pure (.type "method_descriptor"))(hm:MtR X id rm)(ho:QE X o to)(ha:QA X (e::es) t)
 (hbase:attributeBase o name X.env (eval o X.env)=eval o X.env:=by rfl)(hfew:decide ((e::es).length<30)=true:=by rfl)
 (hline:(apos.endLine==cpos.line)=true:=by rfl)(hs:bn (e::es)=true:=by rfl):QE X (.Call (.Attribute o name apos) (e::es) [] cpos) (tBM X.K T rm to t):=⟨JV pa slot hty hm ho.out ha.out hbase hfew hline hs⟩
theorem bE {op:RZ}{r:R2}(ho:OpR X (compareOp op) r)(ha:QE X a ta)(hb:QE X b tb)(hm:behindInMarks op b=false:=by first|exact lu _|rfl):QT X (.Compare a [op] [b] pos) (bF (tOp r ta tb)):=⟨qtc ho ha.out hb.out hm⟩
theorem xV {op op':RZ}{r r':R2}(ho:OpR X (compareOp op) r)(ho':OpR X (compareOp op') r')(ha:QE X a ta)(hb:QE X b tb)(hc:QE X c tc)(hm:lastMarks [op,op'] [b,c]=false:=by with_unfolding_all rfl):
 QT X (.Compare a [op,op'] [b,c] pos) (bF (dM r r' ta tb tc)):=⟨Kc ho ho' ha.out hb.out hc.out hm⟩
theorem cu (h:QE X e te)(he:∀whole,isTrue e X.env whole=(do let v←whole;standAt e.pos;holding [v] (truthy v)):=by intro _;rfl):QT X e (cZ X.K te):=⟨qtb h.out he⟩
theorem cE (ha:QT X a tA):QT X (.UnaryOp .Not a pos) (dv tA):=⟨DV ha.out⟩
theorem x_w (h:QW X e tA):QT X e tA:=⟨h.out.pt⟩
theorem lI (ha:QT X a tA):QW X (.BoolOp .Or [a] pos) tA:=⟨Cu ha.out⟩
theorem oJ (ha:QT X a tA)(hb:QW X (.BoolOp .Or (b::dA) pos) tB'):QW X (.BoolOp .Or (a::b::dA) pos) (mOr tA tB'):=⟨GJ ha.out hb.out⟩
variable {tg iter elt:Expr}{wi:TI}{ifs:List Expr}{scope:Scope}{ys:List Str}{is:List Nat}{px py spos:Pos}
theorem qa (hm:X.mg "range"=none)(ha:QA X [a] t)(hg:Gl X "range":=by rfl)(hs:bZ a=true:=by rfl):QI X tg (.Call (.Name "range" p) [a] [] pos) (oN t):=⟨uQ hg hm ha.out (aX hs [] X.env)⟩
theorem ya (hm:X.mg "range"=none)(ha:QA X [a,b] t)(hg:Gl X "range":=by rfl)(hs:bZ a=true:=by rfl)(hs2:bZ b=true:=by rfl):QI X tg (.Call (.Name "range" p) [a,b] [] pos) (rO t):=
 ⟨ub hg hm ha.out (by rw[aX hs,aX hs2];rfl) (aX hs2 [] X.env)⟩
theorem uM:Eb X [] (fun _ H Q=>Q true H):=⟨rfl⟩
theorem ut {tcn:TT}(S:gl scope x ys)(hcap:gB X scope ys is)(hi:QI X (.Name x px) iter wi)
 (hif:∀C s H fp,Eb (bS X scope C (x::ys) s H fp) ifs tcn)(he:∀C s H fp,QE (bS X scope C (x::ys) s H fp) elt te)(hc:X.calm=true:=by rfl)
 (hs:∀x,foldedSetIterable iter X.env x=pure x:=by intro _;rfl):QE X (.ListComp elt [⟨.Name x px,iter,ifs,0⟩] scope pos) (oM is wi tcn te):=⟨AB hc S hcap hi.out (fun C s H fp=>(hif C s H fp).out) (fun C s H fp=>(he C s H fp).out) hs⟩
variable {st:Stmt}{sts:List Stmt}{tS uS:TS}{i j:Nat}
theorem aT:QSs X [] aZ:=⟨Az⟩
theorem aq (h:QS X st tS):QSs X [st] tS:=⟨Aj h.out⟩
theorem au (h1:QS X st tS)(h2:QSs X sts uS):QSs X (st::sts) (ay tS uS):=⟨vk h1.out h2.out⟩
theorem az (h:QE X e te):QS X (.Return (some e) pos) (aF te):=⟨DI h.out⟩
theorem bv {l m:List Stmt}(hc:QT X c tA)(ha:QSs X l tS)(hb:QSs X m uS):QS X (.If c l m pos) (bJ tA tS uS):=⟨qif hc.out ha.out hb.out⟩
theorem aP (i:Nat)(hN:X.N.Nodup)(he:QE X e te)(hi:X.N[i]?=some x:=by rfl)(hx:Loc X.env.scope x:=by first|exact .inl rfl|exact .inr rfl)
 (hs:swapsWith e (some (.Name x p)) pos.line X.env=pure false:=by rfl)(hf:X.fn x=true∨X.env.scope.names.lookup x=some .local:=by first|exact .inl rfl|exact .inr rfl):QS X (.Assign [.Name x p] e pos) (aR te (aI i)):=⟨Bu hN hi hx he.out hs hf⟩
theorem cM (h:QE X e te)(hs:swapsWith e none pos.line X.env=pure false:=by rfl):QS X (.Expr e pos) (cY te):=⟨zT h.out hs⟩
theorem jh (i:Nat)(hN:X.N.Nodup){body:List Stmt}(hi:QI X (.Name x px) iter wi)(hb:QSs X body tS)(hp:PassesOwn (model X.prog X.w) X.A X.env X.xe)(hc:X.calm=true:=by rfl)
 (hj:X.N[i]?=some x:=by rfl)(hx:Loc X.env.scope x:=by first|exact .inl rfl|exact .inr rfl)(hf:X.fn x=true∨X.env.scope.names.lookup x=some .local:=by first|exact .inl rfl|exact .inr rfl)
 (hs:∀x,foldedSetIterable iter X.env x=pure x:=by intro _;rfl):QS X (.For (.Name x px) iter body [] pos) (iY wi (aI i) tS):=⟨CQ hp hc hi.out (AD hN hj hx hf) hb.out hs⟩
theorem iZ:QS X st gN:=⟨vW⟩
end
end L2
namespace HT
open PySem PyProof.Rows
structure Hd0 (vs:Array pv)(a0:pv):Prop where
 a:vs[0]?=some a0
 b:vs[2]?=some .none
structure TrD (h base:Heap)(e:Addr)(cls a0:pv)(d:Option Addr)(fl:pv):Prop where
 ex:∃oe vs T oT ts,h.get? e=some oe∧oe.cls=cls∧oe.dict=d∧oe.data=.fields vs∧Hd0 vs a0∧vs[1]?=some (.ref T)∧base.get? T=none∧T≠e∧h.get? T=some oT∧oT.data=.fields ts∧ts[3]?=some fl
structure jY (base:Heap)(l:List Env)(e:Addr)(cls a0:pv)(d:Option Addr)(fl:pv)(h h':Heap):Prop where
 st:base.StaysIn h'
 fr:h'.FunFrames base l
 tr:TrD h' base e cls a0 d fl
 up:h.UpToSlots h'
theorem lP (o:Obj)(f:Array pv→Array pv):(Pc f o).dict=o.dict:=by
 obtain⟨c,d,dt,sl⟩:=o
 cases dt<;>rfl
section
variable {M:Model}{A:Mn}{E:pv→wr→Prop}{s:wr}{base:Heap}{env:Env}{outer:List Env}{L e:Addr}{cls a0:pv}{d:Option Addr}{Q:Unit→wr→Prop}
theorem tB {oe:Obj}{vs:Array pv}{head:pv}{hadNext:Bool}(hfr:A.frames=some (env::outer))(hl:s.heap.FunFrames base (env::outer))(hf:env.frame=some L)(he:s.heap.get? e=some oe)(hc:oe.cls=cls)(hdc:oe.dict=d)
  (hkb:base.StaysIn s.heap)(hen:base.get? e=none)(hd:oe.data=.fields vs)(hsz:1<vs.size)(h0:Hd0 vs a0)(h:∀h',jY base (env::outer) e cls a0 d (rawInt L) s.heap h'→Q () {s with heap:=h'}):
  wpAny M A (do let a←frameOf env;let pl←entryPlaceOf L hadNext;let b←Qr head a .none (rawInt L) .none pl;setField (.ref e) 1 b) Q E s:=by
 have nfr:e∉(env::outer).filterMap (·.frame):=fun hm=>by
  obtain⟨_,o,ho,hnf⟩:=hl.mem hm
  rw[he]at ho
  cases ho
  exact hnf vs hd
 refine tx (wpAny_frameOf_fun hfr hl hf fun h1 s1=>tx (wpAny_entryPlaceOf fun pl hpl=>?_))
 unfold Qr newFields
 refine tx (NL ?_ (hpl.sizeOk5 _ _ _ _ _))
 generalize hts:([head,LK L,.none,rawInt L,.none]++(if pl.isEmpty then Qu 6 MM else pl)).toArray=ts
 have hts3:ts[3]?=some (rawInt L):=by rw[←hts];first|(simp;done)|(rcases hpl with rfl|⟨_,_,_,_,_,_,_,rfl⟩<;>simp)
 have e1:h1.get? e=some oe:=(s1.2.1 e nfr).trans he
 have kb1:base.StaysIn h1:=fun b o hbo=>(s1.2.1 b fun hm=>by rw[(hl.mem hm).1]at hbo;cases hbo).trans (hkb b o hbo)
 have e2:(h1.push {cls:=.type "traceback",dict:=none,data:=.fields ts}).get? e=some oe:=If _ e1
 have nT:h1.objs.size≠e:=Nat.ne_of_gt (LR e1)
 refine wpAny_setField e2 hd hsz (h _ ?_)
 have d3:=PJ hd (·.setIfInBounds 1 (LK h1.objs.size))
 have e3:=Od (Pc (·.setIfInBounds 1 (LK h1.objs.size))) e2 (Rk d3)
 have kp:∀b o,b≠e→h1.get? b=some o→((h1.push {cls:=.type "traceback",dict:=none,data:=.fields ts}).update e (Pc (·.setIfInBounds 1 (LK h1.objs.size)))).get? b=some o:=fun b o nb eb=>
  (MX _ _ (Lt nb)).trans (If _ eb)
 have T3:=(MX (h1.push {cls:=.type "traceback",dict:=none,data:=.fields ts}) (Pc (·.setIfInBounds 1 (LK h1.objs.size))) (Lt nT)).trans (Mb h1 rfl)
 have nr:∀b o,s.heap.get? b=some o→(∀vs,o.data≠.fields vs)→b≠e:=fun b o hb hnf q=>by
  rw[q,he]at hb
  cases hb
  exact hnf vs hd
 refine⟨fun b o hbo=>kp b o (fun q=>by rw[q,hen]at hbo;cases hbo) (kb1 b o hbo),hl.of_keeps fun b o hb hnf=>?_,⟨_,_,h1.objs.size,_,ts,e3,(Obj.cls_mapFields ..).trans hc,(lP ..).trans hdc,d3,?_,by simp[hsz],kb1.fresh,nT,T3,rfl,hts3⟩,fun b o hb hnf=>?_⟩
 ·obtain⟨sl,hs⟩:=s1.2.2 b o hb
  exact⟨_,kp b _ (nr b o hb hnf) hs,rfl⟩
 ·exact⟨by rw[PK (by decide)];exact h0.a,by rw[PK (by decide)];exact h0.b⟩
 ·obtain⟨sl,hs⟩:=s1.2.2 b o hb
  exact⟨sl,kp b _ (nr b o hb hnf) hs⟩
theorem qx {oe:Obj}{vs:Array pv}(hfr:A.frames=some (env::outer))(hl:s.heap.FunFrames base (env::outer))(hf:env.frame=some L)(he:s.heap.get? e=some oe)(hc:oe.cls=cls)(hdc:oe.dict=d)(hkb:base.StaysIn s.heap)(hen:base.get? e=none)
  (hd:oe.data=.fields vs)(h1:vs[1]?=some .none)(h0:Hd0 vs a0)(h:∀h',jY base (env::outer) e cls a0 d (rawInt L) s.heap h'→Q () {s with heap:=h'}):wpAny M A (noteFrame (.ref e) env) Q E s:=by
 unfold noteFrame
 simp only[hf]
 refine tx (OM he hd h1 ?_)
 rw[if_neg (by decide)]
 exact tB hfr hl hf he hc hdc hkb hen hd (OB.mp h1).1 h0 h
theorem setD {fl fl':pv}{T:Addr}{oT:Obj}{ts:Array pv}{l:List Env}{oe:Obj}{vs:Array pv}(hkb:base.StaysIn s.heap)(hl:s.heap.FunFrames base l)(he:s.heap.get? e=some oe)(hc:oe.cls=cls)(hdc:oe.dict=d)(hd:oe.data=.fields vs)(h0:Hd0 vs a0)
  (h1:vs[1]?=some (.ref T))(nT:base.get? T=none)(Te:T≠e)(hT:s.heap.get? T=some oT)(hdT:oT.data=.fields ts)(h3:ts[3]?=some fl)(h:∀h',jY base l e cls a0 d fl' s.heap h'→(h'.get? e=some oe)→Q () {s with heap:=h'}):wpAny M A (setField (.ref T) 3 fl') Q E s:=by
 have sz:=(OB.mp h3).1
 have ot:∀b,b≠T→(s.heap.update T (Pc (·.setIfInBounds 3 fl'))).get? b=s.heap.get? b:=fun b hb=>MX _ _ (Lt hb)
 have nr:∀b o,s.heap.get? b=some o→(∀vs,o.data≠.fields vs)→b≠T:=fun b o hb hnf q=>by
  rw[q,hT]at hb
  cases hb
  exact hnf ts hdT
 refine wpAny_setField hT hdT sz (h _ ⟨fun b o hbo=>(ot b fun q=>by rw[q,nT]at hbo;cases hbo).trans (hkb b o hbo),hl.of_keeps fun b o hb hnf=>⟨o,(ot b (nr b o hb hnf)).trans hb,rfl⟩,
  ⟨oe,vs,T,_,_,(ot e (Lt Te)).trans he,hc,hdc,hd,h0,h1,nT,Te,Od _ hT (Rk (PJ hdT _)),PJ hdT _,by simp[sz]⟩,fun b o hb hnf=>⟨o.slots,(ot b (nr b o hb hnf)).trans hb⟩⟩ ((ot e (Lt Te)).trans he))
theorem jv {fl:pv}{l:List Env}(hkb:base.StaysIn s.heap)(hl:s.heap.FunFrames base l)(ht:TrD s.heap base e cls a0 d fl)(h:∀h',jY base l e cls a0 d .none s.heap h'→Q () {s with heap:=h'}):wpAny M A (setFlight (.ref e) none) Q E s:=by
 obtain⟨oe,vs,T,oT,ts,he,hc,hdc,hd,h0,h1,nT,Te,hT,hdT,h3⟩:=ht.ex
 unfold setFlight
 refine tx (OM he hd h1 ?_)
 rw[if_pos (show(LK T !=MM)=true from by simp)]
 exact setD hkb hl he hc hdc hd h0 h1 nT Te hT hdT h3 fun h' n _=>h h' n
theorem kN (hfr:A.frames=some (env::outer))(hl:s.heap.FunFrames base (env::outer))(hf:env.frame=some L)(ht:TrD s.heap base e cls a0 d .none)(hkb:base.StaysIn s.heap)(hen:base.get? e=none)
  (h:∀h',jY base (env::outer) e cls a0 d (rawInt L) s.heap h'→Q () {s with heap:=h'}):wpAny M A (noteFrame (.ref e) env) Q E s:=by
 obtain⟨oe,vs,T,oT,ts,he,hc,hdc,hd,h0,h1,nT,Te,hT,hdT,h3⟩:=ht.ex
 unfold noteFrame
 simp only[hf]
 refine tx (OM he hd h1 ?_)
 rw[if_pos (show(LK T !=MM)=true from by simp)]
 refine tx (OM hT hdT h3 ?_)
 rw[if_neg (show ¬((MM==rawInt L)=true)from by simp[rawInt])]
 refine tx (setD (fl':=.none) hkb hl he hc hdc hd h0 h1 nT Te hT hdT h3 fun h' n he'=>?_)
 exact tB (s:={s with heap:=h'}) hfr n.fr hf he' hc hdc n.st hen hd (OB.mp h1).1 h0 fun h2 n2=>h h2 ⟨n2.st,n2.fr,n2.tr,n.up.trans n2.up⟩
theorem pW {oe:Obj}{vs:Array pv}(hfr:A.frames=some (env::outer))(hl:s.heap.FunFrames base (env::outer))(hf:env.frame=some L)(he:s.heap.get? e=some oe)(hc:oe.cls=cls)(hdc:oe.dict=d)(hkb:base.StaysIn s.heap)(hen:base.get? e=none)
  (hd:oe.data=.fields vs)(h1:vs[1]?=some .none)(h0:Hd0 vs a0)(h:∀h',jY base outer e cls a0 d .none s.heap h'→Q () {s with heap:=h'}):wpAny M A (leaving env (.ref e)) Q E s:=by
 unfold leaving
 refine tx (qx hfr hl hf he hc hdc hkb hen hd h1 h0 fun h' n=>?_)
 obtain⟨n1,⟨_,_,n2⟩,n3,n4⟩:=n
 exact jv (s:={s with heap:=h'}) n1 n2 n3 fun h2 m=>h h2 ⟨m.st,m.fr,m.tr,n4.trans m.up⟩
theorem qq (hfr:A.frames=some (env::outer))(hl:s.heap.FunFrames base (env::outer))(hf:env.frame=some L)(ht:TrD s.heap base e cls a0 d .none)(hkb:base.StaysIn s.heap)(hen:base.get? e=none)
  (h:∀h',jY base outer e cls a0 d .none s.heap h'→Q () {s with heap:=h'}):wpAny M A (leaving env (.ref e)) Q E s:=by
 unfold leaving
 refine tx (kN hfr hl hf ht hkb hen fun h' n=>?_)
 obtain⟨n1,⟨_,_,n2⟩,n3,n4⟩:=n
 exact jv (s:={s with heap:=h'}) n1 n2 n3 fun h2 m=>h h2 ⟨m.st,m.fr,m.tr,n4.trans m.up⟩
end
end HT
namespace L2
open PySem PySem.Spec PyProof.Rows
abbrev veM:List pv:=[.type "ValueError",.type "Exception",.type "BaseException",.type "object"]
def bQ (K:cW)(C D:Addr):Option Bool:=match K.lookup C with
 |some ⟨_,_,.cls cd,_⟩=>some (cd.mro.contains (.ref D))
 |_=>none
def ql (K:cW)(C:Addr):Bool:=match K.lookup C with
 |some ⟨.type "type",_,.cls cd,sl⟩=>(match cd.mro,sl.toList with
  |.ref C'::bm,[_,_,_,_,some (.builtin n),_]=>C'==C&&n=="ValueError.__new__"&& !cd.hasDel&&W.tailIn K veM bm&&W.nsOkIn K cd.ns
  |_,_=>false)
 |_=>false
def du (K:cW)(C:Addr):Prop:=ql K C=true
def cL (K:cW)(C:Addr):Prop:=Qd K C veM "ValueError.__new__"=true
theorem cL.ok {K:cW}{C:Addr}(q:cL K C):du K C:=by
 unfold cL Qd at q
 unfold du ql
 split at q
 ·rename_i dd cd sl ho
  split at q
  ·rename_i C' bm k0 k1 k2 k3 n k5 hm hs
   rw[ho]
   simp only[hm,hs]
   simp only[Mz]at q⊢
   exact q.1
  ·cases q
 ·cases q
theorem lX {K:cW}{h:Heap}{C:Addr}(X:K.In h)(q:du K C):
  ∃bm N nm qn bs hdct sn sub ab col dd k0 k1 k2 k3 k5 mN,h.get? C=some (excClassObj nm qn C N bs bm hdct sn sub ab col dd k0 k1 k2 k3 k5 "ValueError.__new__")∧h.Ns N mN∧(cL K C→mN "__init__"=none)∧OwnTail h veM bm∧
   ∀D,bQ K C D=some ((LK C::bm).contains (.ref D)):=by
 have q2:=q
 unfold du ql at q
 split at q
 ·rename_i dd cd sl ho
  split at q
  ·rename_i C' bm k0 k1 k2 k3 n k5 hm hs
   simp only[Mz,beq_iff_eq,Bool.not_eq_true']at q
   obtain⟨⟨⟨⟨rfl,rfl⟩,hdel⟩,ht⟩,hok⟩:=q
   obtain⟨nm,bs,mro,ns,qn,hd,sn,sub,ab,col,del⟩:=cd
   dsimp only at hm hdel hok
   subst hm hdel
   have hsl:sl=#[k0,k1,k2,k3,some (.builtin "ValueError.__new__"),k5]:=by
    obtain⟨l⟩:=sl
    simp only at hs
    rw[hs]
   subst hsl
   refine⟨bm,ns,nm,qn,bs,hd,sn,sub,ab,col,dd,k0,k1,k2,k3,k5,_,X _ _ ho,.of_isNs (W.isNs_of_in X hok),fun r=>?_,W.tail_of_in X ht,fun D=>?_⟩
   ·unfold cL Qd at r
    rw[ho]at r
    simp only[Mz,beq_iff_eq]at r
    exact W.nsMap_none_of_in X hok r.2
   ·unfold bQ
    rw[ho]
  ·cases q
 ·cases q
theorem lO {M:Model}{A:Mn}{E:pv→wr→Prop}{s:wr}{K:cW}{C D e:Addr}{oe:Obj}{Q:Bool→wr→Prop}{b:Bool}(X:K.In s.heap)(hC:du K C)(hD:du K D)(he:s.heap.get? e=some oe)(hcls:oe.cls=.ref C)
  (hs:bQ K C D=some b)(hq:Q b s):wpAny M A (excMatches (.ref e) (.ref D)) Q E s:=by
 obtain⟨bm,N,nm,qn,bs,hdct,sn,sub,ab,col,dd,k0,k1,k2,k3,k5,mN,oC,_,_,_,hsub⟩:=lX X hC
 obtain⟨bm',N',nm',qn',bs',hdct',sn',sub',ab',col',dd',k0',k1',k2',k3',k5',mN',oD,_,_,T',_⟩:=lX X hD
 have hb:(LK C::bm).contains (.ref D)=b:=Me ((hsub D).symm.trans hs)
 have hbase:(LK D::bm').contains (.type "BaseException")=true:=by
  rw[List.contains_cons,T'.hasType (X:="BaseException") (b:=true) (by decide+kernel),Bool.or_true]
 have f:=tc_notTuple
 obtain⟨hp,g,d,t,os⟩:=s
 unfold excMatches
 repeat (first|(with_reducible refine SO he ?_;rw[hcls])|with_reducible refine SO oD ?_ |(with_reducible refine So oC ?_;rw[hb])|(with_reducible refine So oD ?_;rw[hbase])|wp_step)
 all_goals first|exact hq|(cases b<;>first|exact hq|(repeat (first|exact hq|wp_step)))
structure Fly (P:Mf)(w:Mx)(l:List Env)(H:Hp)(s:wr)(cls fl:pv)(a:Addr)(d:Option Addr)(H':Hp)(s':wr):Prop where
 os:s'.os=s.os
 bare:Po s'.gens
 un:Un (frs l) [] H H' s.heap s'.heap
 hok:HOk P w H' s'.heap
 new:s.heap.get? a=none
 free:H' a=none
 tr:∃oe vs a0 T oT ts,s'.heap.get? a=some oe∧oe.cls=cls∧oe.dict=d∧oe.data=.fields vs∧HT.Hd0 vs a0∧vs[1]?=some (.ref T)∧T≠a∧s'.heap.get? T=some oT∧oT.data=.fields ts∧ts[3]?=some fl∧s.heap.get? T=none∧H' T=none
def CX1 (P:Mf)(w:Mx):CXT:=fun outer H s E e s'=>∃a C d H',e=.ref a∧Fly P w outer H s (.ref C) .none a d H' s'∧E (.ref C) d H'
theorem il {P:Mf}{w:Mx}{H:Hp}{h:Heap}{a:Addr}{o:HO}(x:bh P w H h a o):∃u,h.get? a=some u:=by
 cases o with
 |lst xs=>obtain⟨_,_,_,_,e⟩:=x;exact⟨_,e⟩
 |tup xs=>obtain⟨_,_,_,p⟩:=x;obtain⟨o,e,_⟩:=p;exact⟨_,e⟩
 |dK kvs=>obtain⟨_,_,_,_,o,_,_,e,_⟩:=x;exact⟨_,e⟩
 |dT kvs=>obtain⟨_,_,_,_,o,_,_,e,_⟩:=x;exact⟨_,e⟩
 |set S n=>obtain⟨o,_,_,_,e,_⟩:=x;exact⟨_,e⟩
 |ins C dx fs=>obtain⟨_,_,_,e,_⟩:=x;exact⟨_,e⟩
 |own y=>exact x
 |xd fs=>obtain⟨_,⟨_,_,_,e,_⟩,_⟩:=x;exact⟨_,e⟩
 |rng lo hi=>obtain⟨_,_,_,e⟩:=x;exact⟨_,e⟩
 |frz ob u=>obtain⟨e,_⟩:=x;exact⟨_,e⟩
 |tbl ps=>exact⟨_,(show h.get? a=some _ from x)⟩
 |met f y=>exact⟨_,(show h.get? a=some _ from x)⟩
 |ext φ=>obtain⟨_,e,_⟩:=x;exact e
section
variable {P:Mf}{w:Mx}{l:List Env}{H H':Hp}{s s':wr}{cls fl fl':pv}{a:Addr}{d:Option Addr}{base:Heap}
def eY (h:Heap)(l:List Env)(a T:Addr):Heap:=W.hideAll h (a::T::frs l)
theorem Fly.frames (F:Fly P w l H s cls fl a d H' s')(ff:s.heap.FunFrames base l)(frf:∀b∈frs l,H b=none):s'.heap.FunFrames base l:=by
 have all:∀(k:List Env),(∀b∈frs k,b∈frs l)→s.heap.FunFrames base k→s'.heap.FunFrames base k:=by
  intro k
  induction k with
  |nil=>intro _ _;trivial
  |cons env r ih=>
   intro hs hl
   obtain⟨hk,⟨L,o,hf,hn,ho,hd⟩,hr⟩:=hl
   have hL:L∈frs l:=hs L (by unfold frs;rw[MG,hf];exact Mg)
   obtain⟨sl,e⟩:=F.un.slot L o ho (frf L hL) hL (by simp)
   exact⟨hk,⟨L,_,hf,hn,e,hd⟩,ih (fun b hb=>hs b (by unfold frs;rw[MG,hf];exact LS _ hb)) hr⟩
 exact all l (fun _ hb=>hb) ff
theorem iU {h B B':Heap}:∀{k:List Env},h.FunFrames B k→(∀b∈frs k,B'.get? b=none)→h.FunFrames B' k
 |[],_,_=>trivial
 |env::r,⟨hk,⟨L,o,hf,hn,ho,hd⟩,hr⟩,hb=>⟨hk,⟨L,o,hf,hb L (by unfold frs;rw[MG,hf];exact Mg),ho,hd⟩,iU hr fun b h=>hb b (by unfold frs;rw[MG,hf];exact LS _ h)⟩
theorem Fly.moved (F:Fly P w l H s cls fl a d H' s')(ff:s.heap.FunFrames base l)(frf:∀b∈frs l,H b=none)(ffs:∀b∈frs l,H' b=none){T:Addr}{oT:Obj}(hT0:s.heap.get? T=none)(hT1:H' T=none){h':Heap}{a0:pv}
  (st:(eY s'.heap l a T).StaysIn h')(up:s'.heap.UpToSlots h')(tr:HT.TrD h' (eY s'.heap l a T) a cls a0 d fl'):Fly P w l H s cls fl' a d H' {s' with heap:=h'}:=by
 have kp:∀b o,s'.heap.get? b=some o→b≠a→b≠T→b∉frs l→h'.get? b=some o:=fun b o e h1 h2 h3=>st b o (Ph _ e (by simp[h1,h2,h3]))
 have ff':=F.frames ff frf
 have nf:∀b∈frs l,∀o,s'.heap.get? b=some o→∀vs,o.data≠.fields vs:=fun b hb o e vs z=>by
  obtain⟨_,o',ho,hd⟩:=ff'.mem hb
  rw[e]at ho;cases ho
  exact hd vs z
 have old:∀b o,s.heap.get? b=some o→b≠a∧b≠T:=fun b o e=>⟨fun z=>(by rw[z,F.new]at e;cases e),fun z=>(by rw[z,hT0]at e;cases e)⟩
 refine⟨F.os,F.bare,⟨fun b o e n hb hx=>?_,fun b o e n hb hx=>?_,F.un.free,fun b o e hx=>?_,F.un.tups,F.un.frzs,F.un.tbls⟩,fun b o e=>?_,F.new,F.free,?_⟩
 ·exact kp b o (F.un.keep b o e n hb hx) (old b o e).1 (old b o e).2 hb
 ·obtain⟨sl,e1⟩:=F.un.slot b o e n hb hx
  obtain⟨sl',e2⟩:=up b _ e1 (nf b hb _ e1)
  exact⟨sl',e2⟩
 ·obtain⟨o',e1⟩:=F.un.there b o e hx
  by_cases hb:b∈frs l
  ·obtain⟨sl',e2⟩:=up b _ e1 (nf b hb _ e1)
   exact⟨_,e2⟩
  ·exact⟨o',kp b o' e1 (old b o e).1 (old b o e).2 hb⟩
 ·refine(F.hok b o e).stay (fun c u hc q=>kp c u q ?_ ?_ ?_) (fun _ q=>q) fun _ _ q=>q
  ·rintro rfl
   rcases hc with r|r
   ·rw[←r,F.free]at e;cases e
   ·rw[F.free]at r;cases r
  ·rintro rfl
   rcases hc with r|r
   ·rw[←r,hT1]at e;cases e
   ·rw[hT1]at r;cases r
  ·intro hm
   rcases hc with r|r
   ·rw[←r,ffs _ hm]at e;cases e
   ·rw[ffs _ hm]at r;cases r
 ·obtain⟨oe,vs,T',oT',ts,he,hc,hdc,hd,h0,h1,hn,hne,hT',hdT,h3⟩:=tr.ex
  have key:s'.heap.get? T'=none∨T'=T:=by
   cases q:s'.heap.get? T' with
   |none=>exact .inl rfl
   |some o=>
    refine .inr (MB fun hz=>?_)
    by_cases hf:T'∈frs l
    ·obtain⟨sl',e2⟩:=up T' o q (nf T' hf o q)
     rw[hT']at e2;cases e2
     exact nf T' hf o q ts hdT
    ·have:(eY s'.heap l a T).get? T'=some o:=Ph _ q (by simp[hz,hne,hf])
     rw[hn]at this;cases this
  refine⟨oe,vs,a0,T',oT',ts,he,hc,hdc,hd,h0,h1,hne,hT',hdT,h3,?_,?_⟩
  ·rcases key with z|z
   ·cases q:s.heap.get? T' with
    |none=>rfl
    |some o=>
     obtain⟨o',e⟩:=F.un.there T' o q (by simp)
     rw[z]at e;cases e
   ·rw[z];exact hT0
  ·rcases key with z|z
   ·cases q:H' T' with
    |none=>rfl
    |some o=>
     obtain⟨o1,e1⟩:=il (F.hok T' o q)
     rw[z]at e1;cases e1
   ·rw[z];exact hT1
end
section
variable {X:Cx}{pins:List (Addr×Obj)}{σ:St}{H H':Hp}{s s':wr}{cls fl:pv}{a:Addr}{d:Option Addr}
theorem Fly.inv (I:Inv X pins σ H s)(F:Fly X.prog X.w X.stack H s cls fl a d H' s'):Inv X pins σ H' s':=I.call' (ch:=[]) F.os F.un F.hok F.bare fun b z=>absurd z (by simp)
theorem Fly.up (I:Inv X pins σ H s)(hex:X.ex=[])(F:Fly X.prog X.w X.stack H s cls fl a d H' s'):Fly X.prog X.w X.outer X.H₀ X.s₀ cls fl a d H' s':=by
 have I2:=F.inv I
 have back:∀b,s.heap.get? b=none→X.s₀.heap.get? b=none:=fun b e=>by
  cases q:X.s₀.heap.get? b with
  |none=>rfl
  |some o=>
   obtain⟨o',e'⟩:=I.base.there b o q (by rw[hex];simp)
   rw[e]at e';cases e'
 obtain⟨oe,vs,a0,T,oT,ts,h1,h2,hd,h3,h4,h5,h6,h7,h8,h9,h10,h11⟩:=F.tr
 have b:=I2.base
 rw[hex]at b
 exact⟨I2.os,I2.bare,b,I2.hok,back a F.new,F.free,oe,vs,a0,T,oT,ts,h1,h2,hd,h3,h4,h5,h6,h7,h8,h9,back T h10,h11⟩
theorem Fly.flying (I:Inv X pins σ H s)(F:Fly X.prog X.w X.stack H s cls .none a d H' s'):∃T a0,s.heap.get? T=none∧H' T=none∧(eY s'.heap X.stack a T).StaysIn s'.heap∧(eY s'.heap X.stack a T).get? a=none∧s'.heap.FunFrames (eY s'.heap X.stack a T) X.stack∧
  HT.TrD s'.heap (eY s'.heap X.stack a T) a cls a0 d .none:=by
 obtain⟨oe,vs,a0,T,oT,ts,h1,h2,hd,h3,h4,h5,h6,h7,h8,h9,h10,h11⟩:=F.tr
 exact⟨T,a0,h10,h11,fun b o e=>Rz _ e,Ol _ (by simp),iU (F.frames I.stack I.stkFree) fun b hb=>Ol _ (by simp[hb]),⟨oe,vs,T,oT,ts,h1,h2,hd,h3,h4,h5,Ol _ (by simp),h6,h7,h8,h9⟩⟩
end
structure rQ (P:Mf)(w:Mx)(l:List Env)(H:Hp)(s:wr)(cls:pv)(a:Addr)(d:Option Addr)(H':Hp)(s':wr):Prop where
 os:s'.os=s.os
 bare:Po s'.gens
 un:Un (frs l) [] H H' s.heap s'.heap
 hok:HOk P w H' s'.heap
 new:s.heap.get? a=none
 free:H' a=none
 tr:∃oe vs a0,s'.heap.get? a=some oe∧oe.cls=cls∧oe.dict=d∧oe.data=.fields vs∧HT.Hd0 vs a0∧vs[1]?=some .none
section
variable {P:Mf}{w:Mx}{l:List Env}{H H':Hp}{s s':wr}{cls fl':pv}{a:Addr}{d:Option Addr}{base:Heap}
theorem mI (un:Un (frs l) [] H H' s.heap s'.heap)(ff:s.heap.FunFrames base l)(frf:∀b∈frs l,H b=none):s'.heap.FunFrames base l:=by
 have all:∀(k:List Env),(∀b∈frs k,b∈frs l)→s.heap.FunFrames base k→s'.heap.FunFrames base k:=by
  intro k
  induction k with
  |nil=>intro _ _;trivial
  |cons env r ih=>
   intro hs hl
   obtain⟨hk,⟨L,o,hf,hn,ho,hd⟩,hr⟩:=hl
   have hL:L∈frs l:=hs L (by unfold frs;rw[MG,hf];exact Mg)
   obtain⟨sl,e⟩:=un.slot L o ho (frf L hL) hL (by simp)
   exact⟨hk,⟨L,_,hf,hn,e,hd⟩,ih (fun b hb=>hs b (by unfold frs;rw[MG,hf];exact LS _ hb)) hr⟩
 exact all l (fun _ hb=>hb) ff
theorem rQ.moved (F:rQ P w l H s cls a d H' s')(ff:s.heap.FunFrames base l)(frf:∀b∈frs l,H b=none)(ffs:∀b∈frs l,H' b=none){h':Heap}{a0:pv}
  (st:(eY s'.heap l a a).StaysIn h')(up:s'.heap.UpToSlots h')(tr:HT.TrD h' (eY s'.heap l a a) a cls a0 d fl'):Fly P w l H s cls fl' a d H' {s' with heap:=h'}:=by
 have kp:∀b o,s'.heap.get? b=some o→b≠a→b∉frs l→h'.get? b=some o:=fun b o e h1 h3=>st b o (Ph _ e (by simp[h1,h3]))
 have ff':=mI F.un ff frf
 have nf:∀b∈frs l,∀o,s'.heap.get? b=some o→∀vs,o.data≠.fields vs:=fun b hb o e vs z=>by
  obtain⟨_,o',ho,hd⟩:=ff'.mem hb
  rw[e]at ho;cases ho
  exact hd vs z
 have old:∀b o,s.heap.get? b=some o→b≠a:=fun b o e z=>by rw[z,F.new]at e;cases e
 refine⟨F.os,F.bare,⟨fun b o e n hb hx=>?_,fun b o e n hb hx=>?_,F.un.free,fun b o e hx=>?_,F.un.tups,F.un.frzs,F.un.tbls⟩,fun b o e=>?_,F.new,F.free,?_⟩
 ·exact kp b o (F.un.keep b o e n hb hx) (old b o e) hb
 ·obtain⟨sl,e1⟩:=F.un.slot b o e n hb hx
  obtain⟨sl',e2⟩:=up b _ e1 (nf b hb _ e1)
  exact⟨sl',e2⟩
 ·obtain⟨o',e1⟩:=F.un.there b o e hx
  by_cases hb:b∈frs l
  ·obtain⟨sl',e2⟩:=up b _ e1 (nf b hb _ e1)
   exact⟨_,e2⟩
  ·exact⟨o',kp b o' e1 (old b o e) hb⟩
 ·refine(F.hok b o e).stay (fun c u hc q=>kp c u q ?_ ?_) (fun _ q=>q) fun _ _ q=>q
  ·rintro rfl
   rcases hc with r|r
   ·rw[←r,F.free]at e;cases e
   ·rw[F.free]at r;cases r
  ·intro hm
   rcases hc with r|r
   ·rw[←r,ffs _ hm]at e;cases e
   ·rw[ffs _ hm]at r;cases r
 ·obtain⟨oe,vs,T',oT',ts,he,hc,hdc,hd,h0,h1,hn,hne,hT',hdT,h3⟩:=tr.ex
  have key:s'.heap.get? T'=none:=by
   cases q:s'.heap.get? T' with
   |none=>rfl
   |some o=>
    by_cases hf:T'∈frs l
    ·obtain⟨sl',e2⟩:=up T' o q (nf T' hf o q)
     rw[hT']at e2;cases e2
     exact(nf T' hf o q ts hdT).elim
    ·have:(eY s'.heap l a a).get? T'=some o:=Ph _ q (by simp[hne,hf])
     rw[hn]at this;cases this
  refine⟨oe,vs,a0,T',oT',ts,he,hc,hdc,hd,h0,h1,hne,hT',hdT,h3,?_,?_⟩
  ·cases q:s.heap.get? T' with
   |none=>rfl
   |some o=>
    obtain⟨o',e⟩:=F.un.there T' o q (by simp)
    rw[key]at e;cases e
  ·cases q:H' T' with
   |none=>rfl
   |some o=>
    obtain⟨o1,e1⟩:=il (F.hok T' o q)
    rw[key]at e1;cases e1
end
def de (CX:CXT)(X:Cx)(E:St→XK):Prop:=∀(pins:List (Addr×Obj))(σ:St)(H:Hp)(s:wr)(e:pv)(s':wr),Inv X pins σ H s→CX X.stack H s (E σ) e s'→X.xe e s'
def ug (X:Cx)(E:St→XK):Prop:=∀(pins:List (Addr×Obj))(σ:St)(H:Hp)(s:wr)(C a:Addr)(d:Option Addr)(H2:Hp)(s2:wr),Inv X pins σ H s→rQ X.prog X.w X.stack H s (.ref C) a d H2 s2→E σ (.ref C) d H2→X.xe (.ref a) s2
theorem aC {P:Mf}{w:Mx}{X:Cx}:de (CX1 P w) X (fun _=>E0):=fun pins σ H s e s' I ⟨_,_,_,_,_,_,h⟩=>h.elim
section
variable {P:Mf}{w:Mx}{K:cW}{mg:Str→Option pv}{base:Heap}{N:List Str}{qual:Str}{scope:Scope}{f:Addr}{cd:pv}{A:Mn}{outer:List Env}{s:wr}{H:Hp}{E:XK}
theorem eW:de (CX1 P w) (cH (CX1 P w) P w K mg base N qual scope f cd A outer s H E) (fun _=>E):=by
 intro pins σ H1 s1 e s' I hx
 obtain⟨a,C,d,H',rfl,F,hE⟩:=hx
 obtain⟨T,a0,hT0,hT1,f1,f2,f3,f4⟩:=F.flying I
 refine HT.qq (I.ok.frames) f3 rfl f4 f1 f2 fun h' n=>?_
 have F2:=F.moved (oT:={cls:=.none,data:=.dict #[]}) I.stack I.stkFree (F.inv I).stkFree hT0 hT1 n.st n.up n.tr
 exact⟨a,C,d,H',rfl,F2.up I rfl,hE⟩
theorem fu:ug (cH (CX1 P w) P w K mg base N qual scope f cd A outer s H E) (fun _=>E):=by
 intro pins σ H1 s1 C a d H2 s2 I F hE
 have I2:Inv (cH (CX1 P w) P w K mg base N qual scope f cd A outer s H E) pins σ H2 s2:=I.call' (ch:=[]) F.os F.un F.hok F.bare fun b z=>absurd z (by simp)
 obtain⟨oe,vs,a0,he,hc,hdc,hd,h0,h1⟩:=F.tr
 refine HT.pW I.ok.frames (iU (B':=eY s2.heap (cH (CX1 P w) P w K mg base N qual scope f cd A outer s H E).stack a a) (mI F.un I.stack I.stkFree) fun b hb=>Ol _ (LS _ (LS _ hb))) rfl he hc hdc (fun b o e=>Rz _ e) (Ol _ (by simp)) hd h1 h0 fun h' n=>?_
 have F2:=F.moved I.stack I.stkFree I2.stkFree n.st n.up n.tr
 exact⟨a,C,d,H2,rfl,F2.up I rfl,hE⟩
theorem Je {X:Cx}{pins:List (Addr×Obj)}{σ:St}{H:Hp}{s:wr}{C a:Addr}{h1:Heap}(I:Inv X pins σ H s)(hm:Heap.MadeExcOf s.heap h1 a (.ref C) []):rQ X.prog X.w X.stack H s (.ref C) a none H {s with heap:=h1}:=by
 obtain⟨t,ht,_,_⟩:=hm.there
 refine⟨rfl,I.bare,Un.kept hm.keeps,I.hok.kept hm.keeps,hm.new,?_,⟨_,_,.ref t,ht,rfl,rfl,rfl,⟨rfl,rfl⟩,rfl⟩⟩
 cases q:H a with
 |none=>rfl
 |some o=>
  obtain⟨u,e'⟩:=il (I.hok a o q)
  rw[hm.new]at e';cases e'
end
def aA (sp:Sp)(E:St→XK)(t:TA):TE:=fun σ H Q=>t σ H fun vs H1=>sp vs H1 Q (E σ)
section
variable {X:Cx}{CX:CXT}{k:Nat}{f:Addr}{fd:LM}{ps:List Str}{sp:Sp}{E:St→XK}{x:Str}{p pos:Pos}{e:Expr}{es:List Expr}{t:TA}
theorem fO {pins:List (Addr×Obj)}{σ:St}{H:Hp}{s:wr}{Q:VK}{us:List pv}{vs:List V}(F:aB X.prog X.w X.K X.mg X.base CX k f fd ps sp)(hr:aU k X.A)(hb:aH X.K fd ps [])(hx:de CX X E)
  (I:Inv X pins σ H s)(r:aW vs us)(h:sp vs H Q (E σ)):wpAny (model X.prog X.w) X.A (call (.ref f) us) (EP X pins σ Q) X.xe s:=by
 have hl:us.length=ps.length:=by rw[←r.length];exact F.len _ _ _ _ h
 have hb':=hb s us I.kIn (by rw[ME];exact hl)
 rw[ME]at hb'
 refine Rr (Ov (F.run X.A X.stack s H ⟨us,[]⟩ us vs Q (E σ) hr I.env0 hb' r h) fun r s' hq=>?_)
 cases r with
 |error e=>exact hx pins σ H s e s' I hq
 |ok fl=>
  cases fl with
  |ret u=>exact I.after hq
  |next=>exact Mq hq
  |brk=>exact Mq hq
  |cont=>exact Mq hq
theorem zH (F:aB X.prog X.w X.K X.mg X.base CX k f fd ps sp)(hr:aU k X.A)(hm:X.mg x=some (.ref f))(hk:NF X.K (.ref f)=true)(hb:aH X.K fd ps [])(hx:de CX X E)
  (ha:QA X (e::es) t)(hg:Gl X x:=by rfl)(hdb:(x==("__debug__":Str))=false:=by decide)(hs:bn (e::es)=true:=by rfl):QE X (.Call (.Name x p) (e::es) [] pos) (aA sp E t):=by
 refine⟨fun pins s σ H Q I h=>?_⟩
 have h':(bZ e&&bn es)=true:=hs
 refine Ni (fU I hg hm ?_ hdb)
 refine Pr (h₀:=X.base) I.ok.mod.kin hk (thn (ha.out pos pins s σ H _ I h) fun us s1 ⟨vs,H1,I1,r,q⟩=>⟨I1.kIn,?_⟩) (aX (LO.mp h').1 es X.env) (cg (LO.mp h').2)
 exact fO F hr hb hx I1 r q
theorem pV (F:aB X.prog X.w X.K X.mg X.base CX k f fd ps sp)(hr:aU k X.A)(hm:X.mg x=some (.ref f))(hk:NF X.K (.ref f)=true)(hb:aH X.K fd ps [])(hx:de CX X E)
  (hg:Gl X x:=by rfl)(hdb:(x==("__debug__":Str))=false:=by decide):QE X (.Call (.Name x p) [] [] pos) (aA sp E am):=by
 refine⟨fun pins s σ H Q I h=>?_⟩
 refine Ni (fU I hg hm ?_ hdb)
 exact Rh I.kIn hk (fO (us:=[]) F hr hb hx I .nil h)
def gM (C:Addr)(E:St→XK):TS:=fun _ σ H=>E σ (.ref C) none H
theorem gI {C:Addr}{np cpos:Pos}(hC:cL X.K C)(hm:X.mg x=some (.ref C))(hR:ug X E)(hc:X.calm=true:=by rfl)(hg:Gl X x:=by rfl)(hdb:(x==("__debug__":Str))=false:=by decide):
  QS X (.Raise (some (.Call (.Name x np) [] [] cpos)) none pos) (gM C E):=by
 refine⟨fun pins s σ H D I h=>?_⟩
 obtain⟨bm,N,nm,qn,bs,hdct,sn,sub,ab,col,dd,k0,k1,k2,k3,k5,mN,oC,hN,hni,T,_⟩:=lX I.kIn hC.ok
 refine wpAny_Raise_call_subU (C:=C) (nm:=nm) (q:=qn) (N:=N) (bs:=bs) (bm:=bm) (hdct:=hdct) (sn:=sn) (sub:=sub) (ab:=ab) (col:=col) (dd:=dd) (k0:=k0) (k1:=k1) (k2:=k2) (k3:=k3) (k5:=k5)
  Px (by decide+kernel) Px (mN:=mN) (T.hasType Px.hasBase) (I.ok.hd hc) rfl (hni hC) (fU I hg hm ⟨rfl,?_⟩ hdb)
 exact evalArgs_empty ⟨rfl,Md _,oC,hN,T,fun h' e hm'=>hR pins σ H s C e none H _ I (Je I hm') h⟩
end
theorem Fun.okX {P:Mf}{w:Mx}{K:cW}{mg:Str→Option pv}{base:Heap}{x qual:Str}{st:Stmt}{f:Addr}{fd:LM}{N ps:List Str}{k:Nat}{sp:Sp}(F:Fun K x qual st f fd)(S:aw N ps (ai st))(len:∀vs H Q E,sp vs H Q E→vs.length=ps.length)
  (hbody:∀(cdv:pv)(A:Mn)(outer:List Env)(s:wr)(H:Hp)(vs:List V)(Q:VK)(E:XK),aU k (A.deeper (envOfC qual (ai st) s.heap.objs.size f cdv))→sp vs H Q E→
   ∃t,PSs (cH (CX1 P w) P w K mg base N qual (ai st) f cdv A outer s H E) (aO st) t∧t {nx:=fun _ H'=>Q .non H',rt:=Q} (start N vs) H):aB P w K mg base (CX1 P w) (k+1) f fd ps sp:=by
 obtain⟨oc,od,kV,doc,pm,an,cdv,ct,osl,rfl,lk,hcd⟩:=F.ex
 exact yu lk hcd S len fun A outer s H vs Q E hr hsp=>hbody cdv A outer s H vs Q E hr hsp
def cxH (X:Cx)(a:Addr):Cx:={X with A:=X.A.mark (some (.ref a)),calm:=false,xe:=fun _ _=>False}
section
variable {X:Cx}{pins:List (Addr×Obj)}{σ:St}{H:Hp}{s:wr}{a:Addr}
theorem Cx.Ok.toH (ok:X.Ok):(cxH X a).Ok:=⟨ok.mod,ok.kind,ok.glob,ok.blt,ok.above,ok.inj,ok.has,ok.cab,fun h=>absurd (show false=true from h) Mm,ok.frames,ok.stk,ok.exf,ok.bs,ok.bsz,ok.noex,ok.exfs,ok.funs,ok.frf⟩
theorem Inv.toH (I:Inv X pins σ H s):Inv (cxH X a) pins σ H s:=⟨I.ok.toH,I.os,I.bare,I.base,I.loc,I.cell,I.free,I.freeC,I.pin,I.hok,I.len⟩
theorem Inv.ofH (ok:X.Ok)(I:Inv (cxH X a) pins σ H s):Inv X pins σ H s:=⟨ok,I.os,I.bare,I.base,I.loc,I.cell,I.free,I.freeC,I.pin,I.hok,I.len⟩
theorem SP.ofH {D:eN}{f:Flow}(ok:X.Ok)(h:SP (cxH X a) pins D f s):SP X pins D f s:=by
 cases f with
 |next=>obtain⟨σ',H',J,q⟩:=h;exact⟨σ',H',J.ofH ok,q⟩
 |brk=>obtain⟨σ',H',J,q⟩:=h;exact⟨σ',H',J.ofH ok,q⟩
 |cont=>obtain⟨σ',H',J,q⟩:=h;exact⟨σ',H',J.ofH ok,q⟩
 |ret u=>obtain⟨v,σ',H',J,r,q⟩:=h;exact⟨v,σ',H',J.ofH ok,r,q⟩
end
abbrev TH:=eN→St→Addr→Option Addr→Hp→Prop
def PH (X:Cx)(hs:List Pn)(t:TH):Prop:=∀(pins:List (Addr×Obj))(s0:wr)(σ:St)(H1 H':Hp)(C a:Addr)(d:Option Addr)(s3:wr)(D:eN),X.stack=X.env::X.outer→X.env.frame=some X.env.locals→X.ex=[]→
 Inv X pins σ H1 s0→Fly X.prog X.w X.stack H1 s0 (.ref C) .none a d H' s3→du X.K C→t D σ C d H'→wpAny (model X.prog X.w) X.A (handleBy (.ref a) X.env hs) (SP X pins D) X.xe s3
structure QH (X:Cx)(hs:List Pn)(t:TH):Prop where
 out:PH X hs t
def gr:TH:=fun _ _ _ _ _=>False
def gW (K:cW)(Dc:Addr)(ts:TS)(r:TH):TH:=fun D σ C d H=>∃b,bQ K C Dc=some b∧Sel b (ts D σ H) (r D σ C d H)
section
variable {X:Cx}
theorem fY:QH X [] gr:=⟨fun _ _ _ _ _ _ _ _ _ _ _ _ _ _ _ _ h=>h.elim⟩
theorem uB {pins:List (Addr×Obj)}{σ:St}{H H':Hp}{s s':wr}{cls:pv}{a:Addr}{d:Option Addr}{M:Model}{A:Mn}{E:pv→wr→Prop}{Q:Unit→wr→Prop}(I:Inv X pins σ H s)(F:Fly X.prog X.w X.stack H s cls .none a d H' s')
  (hQ:∀s'',Fly X.prog X.w X.stack H s cls .none a d H' s''→Q () s''):wpAny M A (setFlight (.ref a) none) Q E s':=by
 obtain⟨T,a0,hT0,hT1,f1,f2,f3,f4⟩:=F.flying I
 refine HT.jv f1 f3 f4 fun h' n=>?_
 exact hQ _ (F.moved (oT:={cls:=.none,data:=.dict #[]}) I.stack I.stkFree (F.inv I).stkFree hT0 hT1 n.st n.up n.tr)
variable {x n:Str}{np hp:Pos}{Dc:Addr}{b0:Stmt}{suite:List Stmt}{dA:List Pn}{ts:TS}{r:TH}{i:Nat}
theorem vK {A:Mn}{E:pv→wr→Prop}{pins:List (Addr×Obj)}{s:wr}{σ:St}{H:Hp}{u:pv}{pos:Pos}{Q:pv→wr→Prop}(I:Inv X pins σ H s)(hg:Gl X x)(hm:X.mg x=some u)(h:Q u s)
  (hd:(x==("__debug__":Str))=false:=by decide):wpAny (model X.prog X.w) A (eval (.Name x pos) X.env) Q E s:=
 Oz I.ok.kind hg (QC (by rw[I.ok.glob];exact I.mod.glob.keeps I.bk) hm h) hd
theorem fv (hD:du X.K Dc)(hm:X.mg x=some (.ref Dc))(hs:∀a,QSs (cxH X a) (b0::suite) ts)(hr:QH X dA r)(hg:Gl X x:=by rfl)(hdb:(x==("__debug__":Str))=false:=by decide):
  QH X (.ExceptHandler (some (.Name x np)) none (b0::suite) hp::dA) (gW X.K Dc ts r):=by
 refine⟨fun pins s0 σ H1 H' C a d s3 D e1 e2 hex I F hC h=>?_⟩
 obtain⟨b,hb,q⟩:=h
 have I3:=F.inv I
 obtain⟨oe,vs,_,_,_,_,he,hc,hdc,hd,_⟩:=F.tr
 refine wpAny_handleBy_cons (codeAny_handlers_test (vK I3 hg hm ?_ hdb)) (by intro q;cases q)
 refine lO I3.kIn hC hD he hc hb ?_
 have q:=eG q
 cases b with
 |false=>exact hr.out pins s0 σ H1 H' C a d s3 D e1 e2 hex I F hC q
 |true=>
  refine codeAny_handlers_suite (uB I F fun s4 F4=>?_)
  refine Mj ((hs a).out pins s4 σ H' D (F4.inv I).toH q) (fun f s5 h5=>?_) fun _ _ z=>z.elim
  exact SP.ofH I.ok h5
end
def iE (K:cW)(tb:(St→XK)→TS)(th:TH)(te:TS):TS:=fun D σ H=>
 tb (fun σ' cls d H'=>∃C,cls=.ref C∧du K C∧th D σ' C d H') {D with nx:=te D} σ H
abbrev cxT (X:Cx)(pn:List (Addr×Obj))(E':pv→wr→Prop):Cx:={X with pn:=pn,xe:=E'}
section
variable {X:Cx}{pins pn:List (Addr×Obj)}{σ:St}{H:Hp}{s:wr}{E':pv→wr→Prop}
theorem Cx.Ok.toT (ok:X.Ok):(cxT X pn E').Ok:=⟨ok.mod,ok.kind,ok.glob,ok.blt,ok.above,ok.inj,ok.has,ok.cab,ok.hd,ok.frames,ok.stk,ok.exf,ok.bs,ok.bsz,ok.noex,ok.exfs,ok.funs,ok.frf⟩
theorem Inv.toT (I:Inv X pins σ H s):Inv (cxT X (X.pn++pins) E') [] σ H s:=⟨I.ok.toT,I.os,I.bare,I.base,I.loc,I.cell,I.free,I.freeC,fun p hp=>I.pin p (by
 have hp:p∈(X.pn++pins)++[]:=hp
 rwa [ME]at hp),I.hok,I.len⟩
theorem Inv.ofT {pins':List (Addr×Obj)}(ok:X.Ok)(I:Inv (cxT X (X.pn++pins) E') pins' σ H s):Inv X pins σ H s:=⟨ok,I.os,I.bare,I.base,I.loc,I.cell,I.free,I.freeC,fun p hp=>I.pin p (MU _ hp),I.hok,I.len⟩
theorem ij {body orelse:List Stmt}{h0:Pn}{hs:List Pn}{pos:Pos}{tb:(St→XK)→TS}{te:TS}{th:TH}
  (hb:∀(pn':List (Addr×Obj))(E':pv→wr→Prop)(EH:St→XK),de (CX1 X.prog X.w) (cxT X pn' E') EH→QSs (cxT X pn' E') body (tb EH))(hh:QH X (h0::hs) th)(he:QSs X orelse te)
  (e1:X.stack=X.env::X.outer:=by rfl)(e2:X.env.frame=some X.env.locals:=by rfl)(hex:X.ex=[]:=by rfl):QS X (.Try body (h0::hs) orelse [] pos) (iE X.K tb th te):=by
 refine⟨fun pins s σ H D I h=>?_⟩
 let E':pv→wr→Prop:=fun e s1=>∃σ1 H1 s0 C a d H',e=.ref a∧Inv X pins σ1 H1 s0∧Fly X.prog X.w X.stack H1 s0 (.ref C) .none a d H' s1∧du X.K C∧th D σ1 C d H'
 have pass:de (CX1 X.prog X.w) (cxT X (X.pn++pins) E') (fun σ' cls d H'=>∃C,cls=.ref C∧du X.K C∧th D σ' C d H'):=by
  intro pins' σ1 H1 s0 e s1 I1 hx
  obtain⟨a,C,d,H',rfl,F,C',ec,hC,ht⟩:=hx
  cases ec
  exact⟨σ1,H1,s0,C,a,d,H',rfl,I1.ofT I.ok,F,hC,ht⟩
 refine wpAny_Try_except (Mj ((hb (X.pn++pins) E' _ pass).out [] s σ H _ I.toT h) (fun f s1 h1=>?_) fun e s1 h1=>?_)
 ·cases f with
  |next=>
   obtain⟨σ',H',J,q⟩:=h1
   exact he.out pins s1 σ' H' D (J.ofT I.ok) q
  |brk=>obtain⟨σ',H',J,q⟩:=h1;exact⟨σ',H',J.ofT I.ok,q⟩
  |cont=>obtain⟨σ',H',J,q⟩:=h1;exact⟨σ',H',J.ofT I.ok,q⟩
  |ret u=>obtain⟨v,σ',H',J,rv,q⟩:=h1;exact⟨v,σ',H',J.ofT I.ok,rv,q⟩
 ·obtain⟨σ1,H1,s0,C,a,d,H',rfl,I1,F,hC,ht⟩:=h1
  obtain⟨T,a0,hT0,hT1,f1,f2,f3,f4⟩:=F.flying I1
  have hfr:=I1.ok.frames
  rw[e1]at hfr
  have f3':=f3
  rw[e1]at f3'
  have f1':=f1
  have f2':=f2
  have f4':=f4
  rw[e1]at f1' f2' f4'
  refine HT.kN hfr f3' e2 f4' f1' f2' fun h' n1=>?_
  refine HT.jv (s:={s1 with heap:=h'}) n1.st n1.fr n1.tr fun h'' n2=>?_
  have st:(eY s1.heap X.stack a T).StaysIn h'':=by rw[e1];exact n2.st
  have tr:HT.TrD h'' (eY s1.heap X.stack a T) a (.ref C) a0 d .none:=by rw[e1];exact n2.tr
  have F3:=F.moved (oT:={cls:=.none,data:=.dict #[]}) I1.stack I1.stkFree (F.inv I1).stkFree hT0 hT1 st (n1.up.trans n2.up) tr
  exact hh.out pins s0 σ1 H1 H' C a d _ D e1 e2 hex I1 F3 hC ht
end
structure iV (K:cW)(C:Addr):Prop where
 ga:LL K (.ref C) "__getattribute__"=some (some (.builtin "BaseException.__getattribute__"))
 na:LL K (.ref C) "__getattr__"=some none
 cl:LL K (.ref C) "__class__"=some (some (.builtin "object.__class__"))
 mo:Ms K C (.type "object")=some true
 mb:Ms K C (.type "BaseException")=some true
section
variable {X:Cx}
theorem Kd {x:Str}{D:Addr}{pos:Pos}(hm:X.mg x=some (.ref D))(hg:Gl X x:=by rfl)(hd:(x==("__debug__":Str))=false:=by decide):QE X (.Name x pos) (tC (.ref D)):=⟨mj hg hm rfl hd⟩
end
end L2
namespace HT
open PySem PyProof.Rows
section
variable {prog:Mf}{w:Mx}{A:Mn}{E:pv→wr→Prop}{s:wr}
theorem iB {t sl:Addr}{items:Array pv}{vl vu:pv}{lo hi:Option Int}{Q:pv→wr→Prop}(ht:Tq s.heap t items)(hs:s.heap.IsSliceOf sl vl vu .none)(pl:Qo vl lo)(pu:Qo vu hi)
  (hw:sIx items.size 0 lo=0∧sIx items.size items.size hi=items.size)(h:Q (.ref t) s):wpAny (model prog w) A (getItem (.ref t) (.ref sl)) Q E s:=by
 obtain⟨os,hos,hcs,hds⟩:=id hs
 have hTs:s.TypeIs (.ref sl) "slice":=⟨os,hos,hcs⟩
 unfold getItem
 try with_reducible refine Nh ?_
 first|refine tx (LU ?_)|skip
 refine tx (SM ht.typeIs (by decide) ?_)
 refine tx (Pl (name:=NS "__getitem__") ht.typeIs My
  (NC My ht.typeIs Sy ?_ (SH _ _)))
 show wpAny _ _ (Pt (.ref t)>>=_) _ _ s
 refine tx (tupleItemsOf_ ht ?_)
 refine tx (RQ hTs ?_)
 rw[if_pos (by decide)]
 refine tx (fX hs pl pu ?_)
 have hyes:(((sIx items.size 0 lo:Nat):Int)==0&&(1:Int)==1&&(sIx items.size items.size hi- sIx items.size 0 lo)==items.size)=true:=by
  rw[hw.1,hw.2];simp
 show wpAny _ _ (if (((sIx items.size 0 lo:Nat):Int)==0&&(1:Int)==1&&(sIx items.size items.size hi- sIx items.size 0 lo)==items.size)=true then _ else _) _ _ s
 rw[if_pos hyes]
 have hte:s.TypeIs (.ref t) "tuple":=ht.typeIs
 unfold Tj
 repeat (first|exact⟨_,rfl,LU h⟩|(with_reducible refine RQ hte ?_)|wp_step)
end
section
variable {prog:Mf}{w:Mx}{A:Mn}{E:pv→wr→Prop}{s:wr}
theorem wD {t b:Addr}{ws:List pv}{Q:pv→wr→Prop}(ht:Tq s.heap t #[])(hb:Tq s.heap b ws.toArray)(h1:Q (.ref b) s):wpAny (model prog w) A (binaryOp .Add (.ref t) (.ref b)) Q E s:=by
 obtain⟨⟨cls,dd,data,sl⟩,ho,hc,n,hd⟩:=id ht
 obtain⟨⟨cls2,dd2,data2,sl2⟩,ho2,hc2,n2,hd2⟩:=id hb
 simp only at hc hd hc2 hd2
 subst hc hd hc2 hd2
 exact RU ⟨_,ho,rfl⟩ ⟨_,ho2,rfl⟩ Qz Rx OU OR (OG _ _)
  (tuple_addW0 t b #[] ws.toArray n n2 dd dd2 sl sl2 (by simp)) ⟨ho,ho2,h1⟩
end
end HT
namespace L2
open PySem PySem.Spec PyProof.Rows
theorem ax.rfl' {H:Hp}:ax H H:=fun _ _ e=>e
theorem rW {xs:List V}{lo hi:Option Int}(h:HT.sIx xs.length 0 lo=0∧HT.sIx xs.length xs.length hi=xs.length):gj xs lo hi=xs:=by
 unfold gj
 rw[h.1,h.2,List.drop_zero,Nat.sub_zero,Sb]
section
variable {X:Cx}
def yR:V→Option Int→Option Int→Hp→VK→Prop:=fun x lo hi H Q=>∃a xs,x=.ref a∧H a=some (.tup xs)∧∀p H',ax H H'→H' p=some (.tup (gj xs lo hi))→Q (.ref p) H'
theorem zL:SlR X yR:=by
 intro pins s σ H x v vl vu lo hi sl Q I rx hs pl pu h
 obtain⟨a,xs,rfl,hx,q⟩:=h
 have hq:SqT X.K H a xs:=.inl (.inl hx)
 by_cases hw:HT.sIx xs.length 0 lo=0∧HT.sIx xs.length xs.length hi=xs.length
 ·cases rx
  obtain⟨its,r,ht,hz⟩:=I.tuple hq
  have hlen:its.toArray.size=xs.length:=by rw[LP];exact r.length.symm
  refine⟨"tuple",_,My.lookup,ht.typeIs,?_⟩
  refine HT.iB ht hs pl pu (by rw[hlen];exact hw) ?_
  exact⟨.ref a,H,I,rfl,q a H ax.rfl' (by rw[rW hw];exact hx)⟩
 ·exact Bk pins s σ H _ v vl vu lo hi sl Q I rx hs pl pu ⟨a,xs,rfl,hq,hw,fun p hp=>q p _ (ax.upd hp) (aj ..)⟩
def yn:R2:=fun x y H Q=>∃a b xs ys,x=.ref a∧y=.ref b∧H a=some (.tup xs)∧H b=some (.tup ys)∧xs.length+ys.length≤sizeLine∧∀p H',ax H H'→H' p=some (.tup (xs++ys))→Q (.ref p) H'
theorem Ah:OpR X (binaryOp .Add) yn:=by
 intro pins s σ H x y v u Q I rx ry h
 obtain⟨a,b,xs,ys,rfl,rfl,ha,hb,hz,q⟩:=h
 by_cases hx:xs=[]
 ·subst hx
  cases rx
  cases ry
  obtain⟨its,r1,p1,_⟩:=I.tuple (.inl (.inl ha))
  obtain⟨its2,r2,p2,_⟩:=I.tuple (.inl (.inl hb))
  cases r1
  exact HT.wD p1 p2 ⟨.ref b,H,I,rfl,q b H ax.rfl' hb⟩
 ·refine AI pins s σ H _ _ v u Q I rx ry ⟨a,b,xs,ys,rfl,rfl,.inl (.inl ha),.inl (.inl hb),hx,hz,fun e=>?_,fun _ p hp=>q p _ (ax.upd hp) (aj ..)⟩
  subst e
  exact q a H ax.rfl' (by rw[ME];exact ha)
def cN (K:cW):R2:=fun x y H Q=>match x,y with
 |.int i,.int j=>Q (.int (i+j)) H
 |.str i,.str j=>i.length+j.length≤sizeLine∧Q (.str (i++j)) H
 |.ref a,.ref b=>Ef (.ref a) (.ref b) H Q∨yn (.ref a) (.ref b) H Q
 |_,_=>False
theorem df:OpR X (binaryOp .Add) (cN X.K):=(AO.or (sC.or (EJ.or Ah))).imp fun x y H Q q=>by
 unfold cN at q
 split at q
 ·exact .inl ⟨_,_,rfl,rfl,q⟩
 ·exact .inr (.inl ⟨_,_,rfl,rfl,q.1,q.2⟩)
 ·exact .inr (.inr q)
 ·exact q.elim
def DR (K:cW):V→Option Int→Option Int→Hp→VK→Prop:=fun x lo hi H Q=>Bh K x lo hi H Q∨yR x lo hi H Q
theorem Bw:SlR X (DR X.K):=zW.or zL
end
theorem bo {K:cW}{C D:Addr}{b:Bool}(h:Ms K C (.ref D)=some b):bQ K C D=some b:=by
 unfold Ms W.clsIn at h
 unfold bQ
 split at h
 ·rename_i cd sl e
  rw[e]
  dsimp only[Option.bind]at h⊢
  split at h
  ·cases h
  ·exact h
 ·cases h
theorem Fun.okN {P:Mf}{w:Mx}{K:cW}{mg:Str→Option pv}{base:Heap}{CX:CXT}{x qual:Str}{st:Stmt}{f:Addr}{fd:LM}{N ps:List Str}{k:Nat}{sp:Sp}(F:Fun K x qual st f fd)(S:aw N ps (ai st))(len:∀vs H Q E,sp vs H Q E→vs.length=ps.length)
  (hbody:∀(cdv:pv)(A:Mn)(outer:List Env)(s:wr)(H:Hp)(vs:List V)(Q:VK)(E:XK),aU k (A.deeper (envOfC qual (ai st) s.heap.objs.size f cdv))→sp vs H Q E→
   ∃t,PSs (cH CX P w K mg base N qual (ai st) f cdv A outer s H E).nox (aO st) t∧t {nx:=fun _ H'=>Q .non H',rt:=Q} (start N vs) H):aB P w K mg base CX (k+1) f fd ps sp:=by
 obtain⟨oc,od,kV,doc,pm,an,cdv,ct,osl,rfl,lk,hcd⟩:=F.ex
 refine yu lk hcd S len fun A outer s H vs Q E hr hsp=>?_
 obtain⟨t,h,q⟩:=hbody cdv A outer s H vs Q E hr hsp
 exact⟨t,h.nox,q⟩
section
variable {X:Cx}
def CM:V→Option Int→Option Int→Hp→VK→Prop:=fun x lo hi H Q=>∃z,x=.str z∧z.length≤sizeLine∧Q (.str (Txt.slice z lo hi)) H
theorem DB:SlR X CM:=by
 intro pins s σ H x v vl vu lo hi sl Q I rx hs pl pu h
 obtain⟨z,rfl,hz,q⟩:=h
 obtain⟨t,rfl⟩:=(show ∃t,v=Ow z t from rx)
 refine⟨"str",_,F.slot_str_getitem.lookup,SW _ _ _,?_⟩
 have fin:∀(l u:Option (Int×Tok)),l.map (·.1)=lo→u.map (·.1)=hi→s.heap.IsSlice sl l u none→wpAny (model X.prog X.w) X.A (getItem (.str z t) (.ref sl)) (EP X pins σ Q) X.xe s:=fun l u e1 e2 hs'=>by
  subst e1 e2
  refine wpAny_getItem_str_slice (l:=l) (u:=u) (st:=none) hs' rfl (post_val_or_str ⟨Mh (Txt.slice_le z _ _) hz,fun t' k=>⟨.str _,H,I.tok k,⟨_,rfl⟩,q⟩⟩)
 obtain⟨os,hos,hcs,hds⟩:=hs
 cases pl with
 |none=>cases pu with
  |none=>exact fin none none rfl rfl ⟨os,hos,hcs,hds⟩
  |int j tj=>exact fin none (some (j,tj)) rfl rfl ⟨os,hos,hcs,hds⟩
 |int i ti=>cases pu with
  |none=>exact fin (some (i,ti)) none rfl rfl ⟨os,hos,hcs,hds⟩
  |int j tj=>exact fin (some (i,ti)) (some (j,tj)) rfl rfl ⟨os,hos,hcs,hds⟩
def xc (K:cW):V→Option Int→Option Int→Hp→VK→Prop:=fun x lo hi H Q=>DR K x lo hi H Q∨CM x lo hi H Q
theorem tK:SlR X (xc X.K):=Bw.or DB
def kI:V→Bool
 |.int _=>true
 |.str _=>true
 |_=>false
theorem rJ {A:Mn}{s:wr}{x y:V}{u v:pv}(rx:aJ x u)(ry:aJ y v)(hx:kI x=true)(hy:kI y=true):PySem.SeqAt.EqAt A s u v (decide (x=y)):=by
 cases x<;>first|cases hx|skip
 all_goals (cases y<;>first|cases hy|skip)
 ·obtain⟨t,rfl⟩:=rx;obtain⟨t',rfl⟩:=ry
  have e:=Ps (A:=A) (s:=s) ‹Int› t ‹Int› t'
  rename_i i j
  have e2:decide (V.int i=V.int j)=(i==j):=by rw[pH (f:=V.int) fun _ _ e=>V.int.inj e];rfl
  rw[e2];exact Ps i t j t'
 ·obtain⟨t,rfl⟩:=rx;obtain⟨t',rfl⟩:=ry
  exact PQ _ _ _ _
 ·obtain⟨t,rfl⟩:=rx;obtain⟨t',rfl⟩:=ry
  exact PP _ _ _ _
 ·obtain⟨t,rfl⟩:=rx;obtain⟨t',rfl⟩:=ry
  rename_i i j
  have e2:decide (V.str i=V.str j)=(i==j):=by
   rw[pH (f:=V.str) fun _ _ e=>V.str.inj e]
   by_cases h:i=j
   ·rw[h];simp
   ·rw[decide_eq_false h];exact(beq_eq_false_iff_ne.mpr h).symm
  rw[e2];exact Sk i t j t'
theorem tW {xs ys:List V}:decide (xs=ys)=((Ny (min xs.length ys.length)).all (fun j=>decide (xs[j]?=ys[j]?))&&xs.length==ys.length):=by
 by_cases h:xs=ys
 ·subst h;simp
 ·rw[decide_eq_false h]
  by_cases hl:xs.length=ys.length
  ·rw[hl,Nat.min_self,beq_self_eq_true,Bool.and_true]
   symm
   rw[List.all_eq_false]
   apply MB
   intro hn
   apply h
   apply List.ext_getElem? fun i=>?_
   by_cases hi:i<ys.length
   ·apply MB
    intro hne
    exact hn ⟨i,Oc.mpr hi,by simpa using hne⟩
   ·rw[Re (by omega),Re (by omega)]
  ·have:(xs.length==ys.length)=false:=by simpa using hl
   rw[this,Qy]
def BS (K:cW):R2:=fun x y H Q=>∃a b xs ys,x=.ref a∧y=.ref b∧SqT K H a xs∧SqT K H b ys∧xs.all kI=true∧ys.all kI=true∧Q (.bl (decide (xs=ys))) H
theorem Cp (hu:X.A.units<cLine):OpR X (compareOp .Eq) (BS X.K):=by
 intro pins s σ H x y v u Q I rx ry h
 obtain⟨a,b,xs,ys,rfl,rfl,ha,hb,px,py,q⟩:=h
 cases rx
 cases ry
 obtain⟨its,r1,p1,_⟩:=I.tuple ha
 obtain⟨its2,r2,p2,_⟩:=I.tuple hb
 have l1:=r1.length
 have l2:=r2.length
 refine PySem.SeqAt.eq_tupleAt (e:=fun j=>decide (xs[j]?=ys[j]?)) p1 p2 hu (fun j h1 h2=>?_) ?_
 ·have h1:j<its.length:=by simpa using h1
  have h2:j<its2.length:=by simpa using h2
  have e1:xs[j]?=some xs[j]:=LN (by omega)
  have e2:ys[j]?=some ys[j]:=LN (by omega)
  obtain⟨u1,g1,ru1⟩:=r1.get e1
  obtain⟨u2,g2,ru2⟩:=r2.get e2
  have g1':its.toArray[j]=u1:=by
   rw[LN h1]at g1;simpa using Me g1
  have g2':its2.toArray[j]=u2:=by
   rw[LN h2]at g2;simpa using Me g2
  rw[g1',g2',e1,e2]
  have:decide (some xs[j]=some ys[j])=decide (xs[j]=ys[j]):=by simp
  rw[this]
  exact rJ ru1 ru2 (Na.mp px _ (PY _)) (Na.mp py _ (PY _))
 ·have e:=tW (xs:=xs) (ys:=ys)
  rw[l1,l2]at e
  simp only[LP]
  rw[←e]
  exact⟨.bl _,H,I,rfl,q⟩
def sA:List V→Hp→VK→Prop:=fun xs H Q=>match xs with
 |[.str z]=>∃n,PySem.intText? z=some n∧z.length≤640∧Q (.int n) H
 |[.bl b]=>Q (.int (if b then 1 else 0)) H
 |_=>False
theorem CC:bI X (.type "int") sA:=fun pins s σ H xs us Q I r h=>by
 unfold sA at h
 split at h
 ·obtain⟨n,h1,h2,q⟩:=h
  obtain⟨u,rfl,ru⟩:=ej r
  obtain⟨t,rfl⟩:=ru
  exact W.KIN.call_text h1 h2 ⟨.int n,H,I.tok _,⟨_,rfl⟩,q⟩
 ·obtain⟨u,rfl,ru⟩:=ej r
  cases ru
  exact call_int_bool ⟨.int _,H,I.tok _,⟨_,rfl⟩,h⟩
 ·exact h.elim
end
section
variable {X:Cx}{pins:List (Addr×Obj)}{σ:St}{H H1:Hp}{s s0:wr}{a:Addr}{o:HO}
theorem Inv.track2 (I0:Inv X pins σ H1 s0)(I:Inv X pins σ H s)(new:s0.heap.objs.size≤a)(hn:H a=none)(ok:bh X.prog X.w (upd H a o) s.heap a o):Inv X pins σ (upd H a o) s:=by
 have ne:∀b u,s0.heap.get? b=some u→b≠a:=fun b u e=>LY (LV (LR e) new)
 have ne0:∀b u,X.s₀.heap.get? b=some u→b≠a:=fun b u e=>LY (LV (LR e) (Mh I0.sz new))
 have nL:X.env.locals≠a:=by
  obtain⟨m,⟨o',_,_,e,_⟩,_⟩:=I0.loc
  exact ne _ _ e
 refine⟨I.ok,I.os,I.bare,⟨I.base.keep,I.base.slot,fun b u e n hx=>?_,I.base.there,fun b xs e=>?_,fun b u v e=>?_,fun b ps e=>?_⟩,I.loc,I.cell,?_,fun x c e=>?_,fun p hp=>?_,fun b u e=>?_,I.len⟩
 ·rw[ao (ne0 b u e)];exact I.base.free b u e n hx
 ·have:=I.base.tups b xs e
  rw[ao (ag this hn)];exact this
 ·have:=I.base.frzs b u v e
  rw[ao (ag this hn)];exact this
 ·obtain⟨more,this⟩:=I.base.tbls b ps e
  exact⟨more,by rw[ao (ag this hn)];exact this⟩
 ·rw[ao nL];exact I.free
 ·obtain⟨v,o',e',_⟩:=I0.cell x c e
  rw[ao (ne _ _ e')];exact I.freeC x c e
 ·obtain⟨h1,h2,h3⟩:=I.pin p hp
  exact⟨h1,by rw[ao (ne _ _ (I0.pin p hp).1)];exact h2,h3⟩
 ·by_cases hb:b=a
  ·subst hb
   rw[aj]at e;cases e
   exact ok
  ·rw[ao hb]at e
   exact(I.hok b u e).stay (fun c v _ q=>q) (fun c q=>by
    have:c≠a:=ag q hn
    rw[ao this];exact q) fun c xs q=>by
    have:c≠a:=ag q hn
    rw[ao this];exact q
end
theorem uA:bootBuiltins "int"=some (.type "int"):=by decide+kernel
def aM (C:Addr)(m:Str)(sp:Sp)(E:St→XK)(ta:TE)(t:TA):TE:=fun σ H Q=>ta σ H fun x H1=>∃a dx fs,x=.ref a∧H1 a=some (.ins C dx fs)∧fs.lookup m=none∧t σ H1 fun vs H2=>sp (x::vs) H2 Q (E σ)
def bH (C:Addr)(sp:Sp)(E:St→XK)(t:TA):TE:=fun σ H Q=>t σ H fun vs H1=>∀x dx,H1 x=none→H1 dx=none→dx≠x→
 sp (.ref x::vs) (upd (upd H1 dx (.own x)) x (.ins C dx [])) (fun v H2=>v=.non∧Q (.ref x) H2) (E σ)
section
variable {X:Cx}{CX:CXT}{k:Nat}{f C:Addr}{fd:LM}{ps:List Str}{sp:Sp}{E:St→XK}{x m fl:Str}{p pos apos pos':Pos}{e o value:Expr}{es:List Expr}{ta tv to:TE}{t:TA}
theorem aE (he:QE X e ta)(hb:attributeBase e fl X.env (eval e X.env)=eval e X.env:=by rfl):QE X (.Attribute e fl pos) (aL X.K ta fl):=⟨EI he.out hb⟩
theorem bi (ho:QE X o to)(hv:QE X value tv)(hs:swapsWith value (some (.Attribute o fl pos')) pos.line X.env=pure false:=by rfl):QS X (.Assign [.Attribute o fl pos'] value pos) (cv X.K to tv fl):=⟨Eg ho.out hv.out hs⟩
theorem be {pl:Sem Bool}(he:QE X o ta)(c:Cls X.K C)(hm:bO X.K C m f)(F:aB X.prog X.w X.K X.mg X.base CX k f fd ps sp)(hr:aU k X.A)(hb:aH X.K fd ps [])(hx:de CX X E)(ha:QA X (e::es) t)
  (hs:bn (e::es)=true:=by rfl)
  (ht:eval (.Call (.Attribute o m apos) (e::es) [] pos) X.env=(do
   let ov←eval o X.env
   standAt apos.atName
   let (f,first)←holding [ov] (getMethod ov m pl)
   callWith pos f first (backTo pos (starEach (e::es) X.env)) (backToKw pos (keywordEach [] X.env))):=by rfl):
  QE X (.Call (.Attribute o m apos) (e::es) [] pos) (aM C m sp E ta t):=⟨fun pins s σ H Q I h=>by
 have h':(bZ e&&bn es)=true:=hs
 refine OE (pl:=pl) (thn (he.out pins s σ H _ I h) fun u s1 ⟨x,H1,I1,rx,a,dx,fs,ex,ea,l,q⟩=>?_) ht
 subst ex
 obtain rfl:u=LK a:=rx
 refine io I1 ea c hm l ?_
 refine Pr (first:=[.ref a]) (h₀:=X.base) I.ok.mod.kin hm.kp (thn (ha.out pos pins s1 σ H1 _ I1 q) fun us s2 ⟨vs,H2,I2,r,q2⟩=>⟨I2.kIn,?_⟩)
  (aX (LO.mp h').1 es X.env) (cg (LO.mp h').2)
 exact fO (us:=.ref a::us) (vs:=.ref a::vs) F hr hb hx I2 (.cons rfl r) q2⟩
theorem cI {pl:Sem Bool}(he:QE X o ta)(c:Cls X.K C)(hm:bO X.K C m f)(F:aB X.prog X.w X.K X.mg X.base CX k f fd ps sp)(hr:aU k X.A)(hb:aH X.K fd ps [])(hx:de CX X E)
  (ht:eval (.Call (.Attribute o m apos) [] [] pos) X.env=(do
   let ov←eval o X.env
   standAt apos.atName
   let (f,first)←holding [ov] (getMethod ov m pl)
   callWith pos f first (backTo pos (starEach [] X.env)) (backToKw pos (keywordEach [] X.env))):=by rfl):
  QE X (.Call (.Attribute o m apos) [] [] pos) (aM C m sp E ta am):=⟨fun pins s σ H Q I h=>by
 refine OE (pl:=pl) (thn (he.out pins s σ H _ I h) fun u s1 ⟨x,H1,I1,rx,a,dx,fs,ex,ea,l,q⟩=>?_) ht
 subst ex
 obtain rfl:u=LK a:=rx
 refine io I1 ea c hm l ?_
 exact Rh (first:=[.ref a]) I1.kIn hm.kp (fO (us:=[.ref a]) (vs:=[.ref a]) F hr hb hx I1 (.cons rfl .nil) q)⟩
theorem mJ {pins:List (Addr×Obj)}{σ:St}{H:Hp}{s:wr}{Q:VK}{us:List pv}{vs:List V}(M:Mk X.K C f)(F:aB X.prog X.w X.K X.mg X.base CX k f fd ps sp)(hr:aU (k+1) X.A)(hb:aH X.K fd ps [])
  (hx:de CX X E)(I:Inv X pins σ H s)(r:aW vs us)
  (h:∀x dx,H x=none→H dx=none→dx≠x→sp (.ref x::vs) (upd (upd H dx (.own x)) x (.ins C dx [])) (fun v H2=>v=.non∧Q (.ref x) H2) (E σ)):
  wpAny (model X.prog X.w) X.A (call (.ref C) us) (EP X pins σ Q) X.xe s:=by
 have hq:=h (s.heap.objs.size+1) s.heap.objs.size (I.hok.fresh (OA _)) (I.hok.fresh (ah _)) (LY (Qe _))
 have I2:=Inv.made (C:=C) I
 have r2:aW (V.ref (s.heap.objs.size+1)::vs) (LK (s.heap.objs.size+1)::us):=.cons rfl r
 have hl:(LK (s.heap.objs.size+1)::us).length=ps.length:=by
  have e:=r2.length
  rw[F.len _ _ _ _ hq]at e
  exact e.symm
 have hb':=hb _ (LK (s.heap.objs.size+1)::us) I2.kIn (by rw[ME];exact hl)
 rw[ME]at hb'
 refine Rr (vv (f:=f) I.kIn M.makes M.init (beq_iff_eq.mp M.fn) (Ov (F.run _ X.stack _ _ ⟨LK (s.heap.objs.size+1)::us,[]⟩ (LK (s.heap.objs.size+1)::us) _ _ (E σ) (hr.make C us [])
  (I2.env0.make C us []) hb' r2 hq) fun r s' hq'=>?_))
 cases r with
 |error e=>exact hx pins σ _ _ e s' I2 hq'
 |ok fl=>
  cases fl with
  |ret u=>
   obtain⟨v,H',I3,rv,ev,q3⟩:=I2.after hq'
   subst ev
   exact⟨rv,⟨V.ref (s.heap.objs.size+1),H',I3,rfl,q3⟩⟩
  |next=>exact Mq hq'
  |brk=>exact Mq hq'
  |cont=>exact Mq hq'
theorem cj (M:Mk X.K C f)(F:aB X.prog X.w X.K X.mg X.base CX k f fd ps sp)(hr:aU (k+1) X.A)(hm:X.mg x=some (.ref C))(hb:aH X.K fd ps [])(hx:de CX X E)(ha:QA X (e::es) t)
  (hg:Gl X x:=by rfl)(hdb:(x==("__debug__":Str))=false:=by decide)(hs:bn (e::es)=true:=by rfl):QE X (.Call (.Name x p) (e::es) [] pos) (bH C sp E t):=⟨fun pins s σ H Q I h=>by
 have h':(bZ e&&bn es)=true:=hs
 refine Ni (fU I hg hm ?_ hdb)
 refine Pr (h₀:=X.base) I.ok.mod.kin M.kp (thn (ha.out pos pins s σ H _ I h) fun us s1 ⟨vs,H1,I1,r,q⟩=>⟨I1.kIn,?_⟩) (aX (LO.mp h').1 es X.env) (cg (LO.mp h').2)
 exact mJ M F hr hb hx I1 r q⟩
theorem gZ (M:Mk X.K C f)(F:aB X.prog X.w X.K X.mg X.base CX k f fd ps sp)(hr:aU (k+1) X.A)(hm:X.mg x=some (.ref C))(hb:aH X.K fd ps [])(hx:de CX X E)
  (hg:Gl X x:=by rfl)(hdb:(x==("__debug__":Str))=false:=by decide):QE X (.Call (.Name x p) [] [] pos) (bH C sp E am):=⟨fun pins s σ H Q I h=>by
 refine Ni (fU I hg hm ?_ hdb)
 exact Rh I.kIn M.kp (mJ (us:=[]) M F hr hb hx I .nil h)⟩
end
mutual
inductive eO (K:cW)(H:Hp):V→SF→Prop
 |non:eO K H .non .none
 |bl (b):eO K H (.bl b) (.bool b)
 |int (i):eO K H (.int i) (.int i)
 |str (z):eO K H (.str z) (.str z)
 |lst {a xs ds}:SqL K H a xs→DatVs K H xs ds→eO K H (.ref a) (.list ds)
 |tup {a xs ds}:SqT K H a xs→DatVs K H xs ds→eO K H (.ref a) (.tuple ds)
inductive DatVs (K:cW)(H:Hp):List V→List SF→Prop
 |nil:DatVs K H [] []
 |cons {x xs d ds}:eO K H x d→DatVs K H xs ds→DatVs K H (x::xs) (d::ds)
end
section
variable {X:Cx}
mutual
theorem dU {pins:List (Addr×Obj)}{σ:St}{H:Hp}{s:wr}(I:Inv X pins σ H s):∀{x:V}{d:SF},eO X.K H x d→∀{v:pv},aJ x v→∃as,Reads s.heap v d as
 |_,_,.non,_,r=>by cases r;exact⟨_,.none⟩
 |_,_,.bl b,_,r=>by cases r;exact⟨_,.bool b⟩
 |_,_,.int i,_,r=>by obtain⟨t,rfl⟩:=r;exact⟨_,.int i t⟩
 |_,_,.str z,_,r=>by obtain⟨t,rfl⟩:=r;exact⟨_,.str z t⟩
 |_,_,.lst h hs,_,r=>by
  cases r
  obtain⟨its,r1,⟨o,n,h1,h2,_,h3⟩,_⟩:=I.list h
  obtain⟨as,ra⟩:=datVs_reads I hs r1
  exact⟨_,.list h1 h2 h3 (by simpa using ra)⟩
 |_,_,.tup h hs,_,r=>by
  cases r
  obtain⟨its,r1,⟨o,h1,h2,n,h3⟩,_⟩:=I.tuple h
  obtain⟨as,ra⟩:=datVs_reads I hs r1
  exact⟨_,.tuple h1 h2 h3 (by simpa using ra)⟩
theorem datVs_reads {pins:List (Addr×Obj)}{σ:St}{H:Hp}{s:wr}(I:Inv X pins σ H s):∀{xs:List V}{ds:List SF},DatVs X.K H xs ds→∀{vs:List pv},aW xs vs→∃as,ReadsAll s.heap vs ds as
 |_,_,.nil,_,r=>by cases r;exact⟨_,.nil⟩
 |_,_,.cons h hs,_,r=>by
  cases r with
  |cons r1 r2=>
   obtain⟨as,a⟩:=dU I h r1
   obtain⟨bs,b⟩:=datVs_reads I hs r2
   exact⟨_,.cons a b⟩
end
def rV (K:cW):R2:=fun x y H Q=>∃d e,eO K H x d∧eO K H y e∧d.canLay0=true∧e.canLay0=true∧d.depth≤150∧Q (.bl (d.eqv e)) H
theorem DA (hu:X.A.units+150<cLine):OpR X (compareOp .Eq) (rV X.K):=by
 intro pins s σ H x y v u Q I rx ry h
 obtain⟨d,e,hd,he,cd,ce,dp,q⟩:=h
 obtain⟨as,ra⟩:=dU I hd rx
 obtain⟨bs,rb⟩:=dU I he ry
 exact PySem.SeqAt.compareEq_reads ra rb cd ce (by have:=Nat.min_le_left d.depth e.depth;omega) ⟨.bl _,H,I,rfl,q⟩
theorem aU.units150 {k:Nat}{A:Mn}(r:aU k A):A.units+150<cLine:=by have:=r.un;omega
def oO:V→List V→Hp→VK→Prop:=fun x vs H Q=>match x,vs with|.int i,[]=>Q (.int (Mw i)) H|_,_=>False
theorem qQ:MtR X "int.bit_length" oO:=by
 intro pins s σ H x xs v us Q I rx rs q
 unfold oO at q
 split at q
 ·obtain⟨t,rfl⟩:=rx
  cases rs
  exact call_int_bit_length ⟨.int _,H,I.tok _,⟨_,rfl⟩,q⟩
 ·exact q.elim
def wq:List V→Hp→VK→Prop:=fun xs H Q=>match xs with|[.int i,.int j]=>Q (.int (if j<i then j else i)) H|_=>False
theorem JM (hc:X.calm=true):bI X (.builtin "min") wq:=fun pins s σ H xs us Q I r q=>by
 unfold wq at q
 split at q
 ·exact ui hc pins s σ H _ us Q I r ⟨_,_,rfl,q⟩
 ·exact q.elim
variable {o:Expr}{to:TE}{name:Str}{apos cpos:Pos}{T id:String}{rm:V→List V→Hp→VK→Prop}
theorem zv (pa:Ql T)(slot:Slot T name id)(hty:typeOf (.builtin id)=pure (.type "method_descriptor"))(hm:MtR X id rm)(ho:QE X o to)
 (hbase:attributeBase o name X.env (eval o X.env)=eval o X.env:=by rfl)(hline:(apos.endLine==cpos.line)=true:=by rfl):QE X (.Call (.Attribute o name apos) [] [] cpos) (rP X.K T rm to):=⟨Cs pa slot hty hm ho.out hbase hline⟩
end
theorem tV:(("":String):Str)=Nd:=by decide
theorem zq:∀xs:List Str,Str.join "" xs=xs.foldr (· ++ ·) Nd
 |[]=>rfl
 |[x]=>(Sj x).symm
 |x::y::r=>by
  show x++(("":String):Str)++Str.join "" (y::r)=x++(y::r).foldr (· ++ ·) Nd
  rw[zq (y::r),tV,Sj]
theorem qP (xs:List Str):Txt.join "" xs=xs.foldr (·++·) Nd:=(Sf (join_plain_closes "" xs)).trans (zq xs)
theorem qd:∀xs:List Str,(xs.foldr (· ++ ·) Nd).length=(xs.map (·.length)).sum
 |[]=>by decide
 |x::r=>by
  show(x++r.foldr (· ++ ·) Nd).length=_
  rw[strLen_append,qd r,Mo,QL]
theorem bq {n:Nat}(h:n≤1000000):n≤sizeLine:=by rw[MF];omega
theorem fe (k:Nat):((2^k:Nat):Int)=(2:Int)^k:=by simp
theorem wI (k:Nat):(0:Int)<2^k:=by have:=NJ k;rw[←fe];omega
theorem kZ {α:Type}{xs:List α}{i:Int}(h0:0≤i)(h1:i<xs.length):∃c,atI xs i=some c:=by
 unfold atI ixN
 rw[if_pos h0,if_pos h1]
 have:i.toNat<xs.length:=by omega
 exact⟨xs[i.toNat],by show xs[i.toNat]?=_;rw[LN this]⟩
theorem jO:∀(xs:List Str),(∀x∈xs,x.length=1)→(xs.map (·.length)).sum=xs.length
 |[],_=>rfl
 |x::r,h=>by
  rw[Mo,QL,MR,jO r fun y hy=>h y (LS _ hy),h x Mg];omega
theorem xj (xs:List Str)(h:∀x∈xs,x.length=1):(Txt.join "" xs).length=xs.length:=by rw[qP,qd,jO xs h]
theorem xor_zero {x y:Nat}(h:x^^^y=0):x=y:=by
 have h2:x^^^y^^^y=0^^^y:=by rw[h]
 rwa [Nat.xor_assoc,Nat.xor_self,Nat.xor_zero,Nat.zero_xor]at h2
theorem sV (x y:Nat):x ||| y=(x &&& y)+(x^^^y):=by
 have h:∀n,∀x y:Nat,x<2^n→y<2^n→x ||| y=(x &&& y)+(x^^^y):=by
  intro n
  induction n with
  |zero=>intro x y hx hy;have:x=0:=by simpa using hx
         have:y=0:=by simpa using hy
         subst_vars;rfl
  |succ n ih=>
   intro x y hx hy
   have i:=ih (x/2) (y/2) (by omega) (by omega)
   rw[←Qn (x ||| y) 2,←Qn (x &&& y) 2,←Qn (x^^^y) 2]
   rw[Nat.or_div_two,Nat.and_div_two,Nat.xor_div_two,i]
   have hm:(x ||| y)%2=(x &&& y)%2+(x^^^y)%2:=by
    have a:=@Nat.or_mod_two_pow x y 1
    have b:=@Nat.and_mod_two_pow x y 1
    have c:=@Nat.xor_mod_two_pow x y 1
    rw[Nat.pow_one]at a b c
    rw[a,b,c]
    rcases Qt x with h|h<;>rcases Qt y with h'|h'<;>rw[h,h']<;>rfl
   omega
 have h2:max x y<2^(max x y):=Nat.lt_two_pow_self
 exact h (max x y) x y (by omega) (by omega)
theorem lw (x y:Nat):NZ x y=((x^^^y:Nat):Int):=by
 unfold NZ Builtin.bitOr
 have e1:MZ x y=((x &&& y:Nat):Int):=by
  unfold MZ
  rw[decide_eq_true (by omega:(0:Int)≤x),decide_eq_true (by omega:(0:Int)≤y)];rfl
 have n (z:Nat):Mt z<0:=by unfold Mt;omega
 have nn (z:Nat):(Mt (Mt z)).toNat=z:=by unfold Mt;omega
 have e2:MZ (Mt x) (Mt y)=Mt ((x ||| y:Nat):Int):=by
  unfold MZ
  rw[decide_eq_false (by have:=n x;omega:¬0≤Mt x),decide_eq_false (by have:=n y;omega:¬0≤Mt y)]
  show Mt (((Mt (Mt x)).toNat ||| (Mt (Mt y)).toNat:Nat):Int)=_
  rw[nn,nn]
 rw[e1,e2,sV]
 unfold Mt
 omega
theorem rE (x:Nat):MZ x 1=((x%2:Nat):Int):=by
 unfold MZ
 rw[decide_eq_true (by omega:(0:Int)≤x),decide_eq_true (by decide:(0:Int)≤1)]
 show(((x:Int).toNat &&& (1:Int).toNat:Nat):Int)=_
 rw[OW,show(1:Int).toNat=1 from rfl,Nat.and_one_is_mod]
section
variable {X:Cx}
theorem aU.units1 {k:Nat}{A:Mn}(r:aU k A):A.units+1<cLine:=by have:=r.un;omega
def BJ:R2:=fun x y H Q=>∃a v,x=.ref a∧cF H a y (some v)∧Q v H
theorem Au (hu:X.A.units+1<cLine):IxR X BJ:=by
 intro value slice pins s σ H x y v u Q I rx ry h hs
 obtain⟨a,w0,rfl,g,q⟩:=h
 obtain rfl:v=LK a:=rx
 have hT:=qp I g
 have h2:wpAny (model X.prog X.w) X.A (getItem (.ref a) u) (EP X pins σ Q) X.xe s:=tI hu I g ry fun w' s3 I3 rw'=>⟨w0,H,I3,rw',q⟩
 unfold subscriptTail
 refine tx ?_
 rw[getitemInPython_of_ne hT.not_modules]
 refine tx (wpAny_specialOf hT PySem.F.slot_dict_getitem.lookup ?_)
 have fin:wpAny (model X.prog X.w) X.A (subscripted slice false (.ref a) u) (fun r s₃=>wpAny (model X.prog X.w) X.A (letTemporaryGo value (.ref a) r>>=fun _=>pure r) (EP X pins σ Q) X.xe s₃) X.xe s:=by
  rw[hs]
  exact wpAny_operating (Mj h2 (fun r s₃ h₃=>tx (wpAny_letTemporaryGo (LU h₃))) fun _ _ x=>x)
 first
  |exact LU (tx fin)
  |exact tx (LU (tx fin))
  |exact tx fin
def bR (K:cW):R2:=fun x y H Q=>rIx K x y H Q∨BJ x y H Q
theorem bw (hu:X.A.units+1<cLine):IxR X (bR X.K):=CI.or (Au hu)
def zA:V→V→V→Hp→(Hp→Prop)→Prop:=fun o i v H Q=>∃a H',o=.ref a∧ir H a i v H'∧Q H'
theorem xY (hu:X.A.units+1<cLine):sP X zA:=by
 intro pins s σ H o i v ov iv u Q I ro ri rv h
 obtain⟨a,H',rfl,g,q⟩:=h
 obtain rfl:ov=LK a:=ro
 exact uX hu I g ri rv fun s4 I4=>⟨H',I4,q⟩
def fH:V→V→V→Hp→(Hp→Prop)→Prop:=fun o i v H Q=>yJ o i v H Q∨zA o i v H Q
theorem AE (hu:X.A.units+1<cLine):sP X fH:=by
 intro pins s σ H o i v ov iv u Q I ro ri rv h
 rcases h with h|h
 ·exact xW pins s σ H o i v ov iv u Q I ro ri rv h
 ·exact xY hu pins s σ H o i v ov iv u Q I ro ri rv h
variable {o e:Expr}{to te:TE}{p pos:Pos}
theorem eF {ti:TE}{i:Expr}(hu:X.A.units+1<cLine)(ho:QE X o to)(hi:QE X i ti)(he:QE X e te)(hs:swapsWithSole [.Subscript o i p] e pos.line X.env=pure false:=by rfl)(hw:swappedStores [.Subscript o i p] e X.env=pure none:=by rfl)(ha:∀v,assign (.Subscript o i p) X.env v=(do let ov←holding [v] (eval o X.env);let iv←holding [v,ov] (eval i X.env);standAt p;holding [v,ov,iv] (setItem ov iv v);release [v,ov,iv] []):=by intro _;rfl):QS X (.Assign [.Subscript o i p] e pos) (aR te (gX to ti fH)):=⟨Dg he.out (BO ho.out hi.out (AE hu) ha) hs hw⟩
def rf:R2:=fun y x H Q=>∃a o,x=.ref a∧cF H a y o∧Q (.bl (!o.isSome)) H
theorem tH (hu:X.A.units+1<cLine):OpR X (compareOp .NotIn) rf:=by
 intro pins s σ H x y v u Q I rx ry h
 obtain⟨a,ov,rfl,g,q⟩:=h
 obtain rfl:u=LK a:=ry
 exact As hu I g rx fun s3 I3=>⟨.bl (!ov.isSome),H,I3,rfl,q⟩
def rg (K:cW):R2:=fun y x H Q=>∃d ds,eO K H y d∧(eO K H x (.list ds)∨eO K H x (.tuple ds))∧PB ds=true∧d.canLay0=true∧d.depth≤140∧Q (.bl (!ds.any fun e=>e.eqv d)) H
theorem ur (hu:X.A.units+150<cLine):OpR X (compareOp .NotIn) (rg X.K):=by
 intro pins s σ H x y v u Q I rx ry h
 obtain⟨d,ds,hd,hx,c1,c2,dp,q⟩:=h
 obtain⟨as,ra⟩:=dU I hd rx
 have hm:X.A.units+1+min (Oq ds) d.depth<cLine:=by have:=Sl (Oq ds) d.depth;omega
 rcases hx with hx|hx
 ·obtain⟨bs,rb⟩:=dU I hx ry
  exact PySem.SeqAt.notIn_list_reads rb ra c1 c2 hm ⟨.bl _,H,I,rfl,q⟩
 ·obtain⟨bs,rb⟩:=dU I hx ry
  exact PySem.SeqAt.notIn_tuple_reads rb ra c1 c2 hm ⟨.bl _,H,I,rfl,q⟩
def jC (K:cW):R2:=fun y x H Q=>rf y x H Q∨rg K y x H Q
theorem mB (hu:X.A.units+150<cLine):OpR X (compareOp .NotIn) (jC X.K):=(tH (by omega)).or (ur hu)
def gf:TE:=fun σ H Q=>uH σ H Q∨tU σ H Q
theorem fT:QE X (.Dict [] [] pos) gf:=⟨fun pins s σ H Q I h=>h.elim (xt pins s σ H Q I) (xn pins s σ H Q I)⟩
theorem tY:bI X (.builtin "len") (fun xs H Q=>∃p kvs,xs=[.ref p]∧H p=some (.dT kvs)∧Q (.int kvs.length) H):=by
 intro pins s σ H xs us Q I r h
 obtain⟨a,kvs,rfl,e,q⟩:=h
 obtain⟨u,rfl,r1⟩:=ej r
 cases r1
 obtain⟨z,hd,ps,rel,dd⟩:=sE I.hok e
 have hl:ps.length=kvs.length:=(Paired.length rel).symm
 have hT:s.TypeIs (.ref a) "dict":=dd.typeIs
 obtain⟨o,es,ep,ho,hc,hdat,he,his,hn⟩:=dd
 have hsz:es.size=kvs.length:=by rw[←hl];have:=congrArg List.length he;simpa using this
 have M:MeetsIn X.prog X.w (PV.«dict.__len__» ⟨[.ref a],[]⟩) (fun _ R s=>s.heap.get? a=some o∧R (.ok (.ret (.int kvs.length s.toks))) {s with toks:=s.toks+1}):=
  .of_wp fun A R s ⟨ho,h⟩=>by
   show wpAny _ _ (dictSize a>>=_) _ _ s
   unfold dictSize
   refine tx (tx (SQ ho hdat (LU ?_)))
   show wpAny _ _ (Builtin.Dict.pendingCount a>>=_) _ _ s
   refine tx (wpAny_pendingCount_other hd ?_)
   refine wpAny_ret_mkInt ?_
   rw[Nat.add_zero,hsz];exact h
 refine OH kind_len plain_len entry_len (args_len1 _) ?_
 unfold PV.«len»
 refine tx (m:=oneArg "len" _) (LU ?_)
 refine tx (m:=callSpecial? (.ref a) (NS "__len__")) (Pl (name:=NS "__len__") hT Tc
  (OX Tc hT F.entry_dict_len (F.args_dict_len_1 _) M ⟨ho,?_⟩))
 show wpAny _ _ _ _ _ {s with toks:=s.toks+1}
 refine tx (Nh (LU ?_))
 refine tx (wpAny_letGo ?_)
 have zz:kvs.length≤sizeLine:=z
 rw[MF]at zz
 show wpAny _ _ (if ((kvs.length:Nat):Int)<0 then _ else _) _ _ _
 rw[if_neg (by omega)]
 show wpAny _ _ (if ((kvs.length:Nat):Int)≥2^63 then _ else _) _ _ _
 rw[if_neg (by omega)]
 exact tx (wpAny_mkInt (LU ⟨_,rfl,⟨.int kvs.length,H,I.tok _,⟨_,rfl⟩,q⟩⟩))
def dj (K:cW):List V→Hp→VK→Prop:=fun xs H Q=>CV K xs H Q∨∃p kvs,xs=[.ref p]∧H p=some (.dT kvs)∧Q (.int kvs.length) H
theorem dq:bI X (.builtin "len") (dj X.K):=KA.or tY
def BN (H:Hp)(a:Addr)(y d:V)(r:V)(H':Hp):Prop:=(cF H a y (some r)∧H'=H)∨(cF H a y none∧ir H a y d H'∧r=d)
theorem eS {A:Mn}{E:pv→wr→Prop}{s:wr}{P:Mf}{w:Mx}{K:Type}[DecidableEq K]{knd:HeapKind P w K}{d a:Addr}{xs:List (K×Addr×pv)}{k:K}{v:pv}{Q:pv→wr→Prop}(hu:knd.room A)(hkey:knd.is s.heap k a)(hm:s.heap.DictOfH knd d xs)
  (hthere:∀p,atKey xs k=some p→Q p.2 {s with toks:=s.toks+knd.draws k})
  (hQ:atKey xs k=none→∀h',h'.DictOfH knd d (storedH xs k a v)→Oe d s.heap h'→Q v {s with heap:=h',toks:=s.toks+knd.draws k})
  (hsz:xs.length≤sizeLine):
  wpAny (model P w) A (dictSetDefault d (.ref a) v) Q E s:=by
 obtain⟨o,es,ep,ho,hc,hd,he,his,hn⟩:=hm
 unfold dictSetDefault
 try with_reducible refine Nh ?_
 refine tx (knd.pyHash hu hkey ?_)
 refine tx (wpAny_dictFind_heap (s:={s with toks:=s.toks+knd.draws k}) hu hkey ho hd he his hn ?_ ?_)
 ·intro hno
  have hnot:k∉xs.map (·.1):=not_mem_keys_of_get hno
  refine tx (wpAny_rule (tx (wpAny_updateDictKeys (hz:=by have e:=size_of_entries he;omega) (s:={s with toks:=s.toks+knd.draws k}) ho hd (LU (hQ (Pf hno) _ ⟨_,_,ep+1,Od _ ho (Obj.isFreed_of_dict (Rt hd _)),
   hc.mapDictKeys _,Rt hd _,?_,?_,?_⟩ (OY ..))))))
  ·rw[Sq (Pf hno)]
   simp[he,entryOfKey]
  ·rw[Sq (Pf hno)]
   intro x hx
   rcases Mu.mp hx with hx|hx
   ·exact knd.keeps (his x hx) ho hd (OY ..)
   ·simp only[LZ]at hx
    subst hx
    exact knd.keeps hkey ho hd (OY ..)
  ·rw[Sq (Pf hno)]
   rw[MI,RO]
   refine⟨hn,by simp,?_⟩
   intro x hx y hy
   simp only[Mo,PX,LZ]at hy
   subst hy
   exact fun e=>hnot (e▸hx)
 ·intro j p hj
  refine tx (SQ (s:={s with toks:=s.toks+knd.draws k}) ho hd ?_)
  rw[entry_at he j,hj]
  exact tx (wpAny_rule (LU (hthere p (atKey_of_get hn hj))))
end
theorem vP {h:Heap}{a:Addr}{its:Array pv}(p:PlainL h a its):h.IsList a its:=let ⟨o,n,e,c,_,d⟩:=p;⟨o,e,c,n,d⟩
set_option genInjectivity false in
set_option genSizeOf false in
structure da where
 qual:Str
 body:FuncBody
 scope:Scope
 ps:List Str
 ys:List Str
def nM (t:da)(cs:List Addr)(c:Addr)(fd:LM):Prop:=
 fd.qualname=t.qual∧fd.body=t.body∧fd.scope=t.scope∧fd.globals=mainGlobals∧fd.closure=t.ys.zip cs∧fd.code=.ref c∧fd.builtins=builtinsNs∧
  (∀us:List pv,us.length=t.ps.length→bindArgs fd ⟨us,[]⟩=pure (t.ps.zip us))∧cs.Nodup∧cs.length=t.ys.length
def dH (f:Addr)(t:da)(cs:List Addr)(c:Addr):HO:=.ext fun h=>∃od fd sl,h.get? f=some ⟨.type "function",od,.func fd,sl⟩∧nM t cs c fd
def dF (c:Addr)(qual:Str):HO:=.ext fun h=>∃o vs tk,h.get? c=some o∧o.data=.fields vs∧vs[1]?=some (.str qual tk)
def cy (c:Addr)(v:V):HO:=.ext fun h=>∃u o,aJ v u∧h.get? c=some o∧o.data=.cell (some u)
abbrev cz (H:Hp):List Addr→List V→Prop:=Paired fun c v=>H c=some (cy c v)
structure dY (H:Hp)(f:Addr)(t:da)(cs:List Addr)(cvs:List V):Prop where
 ex:∃c,H f=some (dH f t cs c)∧H c=some (dF c t.qual)
 cells:cz H cs cvs
theorem cz.mem {H:Hp}{cs:List Addr}{cvs:List V}(h:cz H cs cvs):∀c∈cs,∃v,H c=some (cy c v):=by
 induction h with
 |nil=>intro c hc;cases hc
 |cons r t ih=>
  intro c hc
  rcases gV.mp hc with rfl|hc
  ·exact⟨_,r⟩
  ·exact ih c hc
theorem cz.get {H:Hp}{cs:List Addr}{cvs:List V}(h:cz H cs cvs):∀{i:Nat}{v:V},cvs[i]? =some v→∃c,cs[i]? =some c∧H c=some (cy c v):=by
 induction h with
 |nil=>intro i v e;cases e
 | @cons c w cs ws r t ih=>
   intro i v e
   cases i with
   |zero=>cases e;exact⟨c,rfl,r⟩
   |succ i=>exact ih e
def cQ (cs:List Addr)(H:Hp):Hp:=fun b=>if b∈cs then none else H b
def cO (cs:List Addr)(H H':Hp):Hp:=fun b=>if b∈cs then H b else H' b
theorem gh {cs:List Addr}{H:Hp}{b:Addr}(h:b∈cs):cQ cs H b=none:=if_pos h
theorem cS {cs:List Addr}{H:Hp}{b:Addr}(h:b∉cs):cQ cs H b=H b:=if_neg h
theorem ib {cs:List Addr}{H H':Hp}{b:Addr}(h:b∈cs):cO cs H H' b=H b:=if_pos h
theorem cx {cs:List Addr}{H H':Hp}{b:Addr}(h:b∉cs):cO cs H H' b=H' b:=if_neg h
theorem tG {cs:List Addr}{H H':Hp}{d:Addr}{o:HO}(h:d∉cs):cO cs H (upd H' d o)=upd (cO cs H H') d o:=by
 funext b
 by_cases hb:b∈cs
 ·have:b≠d:=fun e=>h (e▸hb)
  rw[ib hb,ao this,ib hb]
 ·rw[cx hb]
  by_cases e:b=d
  ·subst e;rw[aj,aj]
  ·rw[ao e,ao e,cx hb]
theorem cz.notin {H:Hp}{cs:List Addr}{cvs:List V}(h:cz H cs cvs){b:Addr}{o:HO}(e:H b=some o)(hn:∀φ,o≠.ext φ):b∉cs:=fun hb=>by
 obtain⟨v,ev⟩:=h.mem b hb
 rw[e]at ev
 exact hn _ (Me ev)
theorem cz.hide {H:Hp}{cs:List Addr}{cvs:List V}(h:cz H cs cvs){b:Addr}{o:HO}(e:H b=some o)(hn:∀φ,o≠.ext φ):cQ cs H b=some o:=by
 rw[cS (h.notin e hn)];exact e
theorem ax.hide {H H':Hp}(cs:List Addr)(s:ax (cQ cs H) H'):ax H (cO cs H H'):=fun b o e=>by
 by_cases hb:b∈cs
 ·rw[ib hb];exact e
 ·rw[cx hb];exact s _ _ (by rw[cS hb];exact e)
section
variable {P:Mf}{w:Mx}{fs:List Addr}{H H':Hp}{h h':Heap}{cs:List Addr}{cvs:List V}
theorem AG (hc:cz H cs cvs)(ok:HOk P w H h):HOk P w (cQ cs H) h:=fun b o e=>by
 by_cases hb:b∈cs
 ·rw[gh hb]at e;cases e
 ·rw[cS hb]at e
  exact(ok b o e).stay (fun c u _ q=>q) (fun c q=>hc.hide q fun φ z=>nomatch z) fun c xs q=>hc.hide q fun φ z=>nomatch z
theorem qS (hc:cz H cs cvs)(hfs:∀b∈fs,H b=none)(ok:HOk P w H h)(u:Un fs [] (cQ cs H) H' h h')(ok':HOk P w H' h'):Un fs [] H (cO cs H H') h h'∧HOk P w (cO cs H H') h':=by
 have obj:∀c∈cs,∃v o,H c=some (cy c v)∧h.get? c=some o∧h'.get? c=some o∧H' c=none:=fun c hm=>by
  obtain⟨v,ev⟩:=hc.mem c hm
  obtain⟨_,⟨o,eo⟩,_⟩:=(show bh P w H h c (cy c v)from ok c _ ev)
  refine⟨v,o,ev,eo,u.keep c o eo (gh hm) (fun z=>?_) (by simp),u.free c o eo (gh hm) (by simp)⟩
  rw[hfs c z]at ev;cases ev
 have nin:∀b,H b=none→b∉cs:=fun b e hb=>by
  obtain⟨v,ev⟩:=hc.mem b hb
  rw[e]at ev;cases ev
 have nin':∀b o,H' b=some o→b∉cs:=fun b o e hb=>by
  obtain⟨_,_,_,_,_,z⟩:=obj b hb
  rw[e]at z;cases z
 refine⟨⟨fun b o e n hb hx=>u.keep b o e (by rw[cS (nin b n)];exact n) hb hx,fun b o e n hb hx=>u.slot b o e (by rw[cS (nin b n)];exact n) hb hx,
  fun b o e n hx=>by rw[cx (nin b n)];exact u.free b o e (by rw[cS (nin b n)];exact n) hx,u.there,fun b xs e=>?_,fun b o v e=>?_,fun b ps e=>?_⟩,fun b o e=>?_⟩
 ·have hb:=hc.notin e fun φ z=>nomatch z
  rw[cx hb];exact u.tups b xs (by rw[cS hb];exact e)
 ·have hb:=hc.notin e fun φ z=>nomatch z
  rw[cx hb];exact u.frzs b o v (by rw[cS hb];exact e)
 ·have hb:=hc.notin e fun φ z=>nomatch z
  rw[cx hb];exact u.tbls b ps (by rw[cS hb];exact e)
 ·by_cases hb:b∈cs
  ·rw[ib hb]at e
   obtain⟨v,o',ev,e1,e2,_⟩:=obj b hb
   rw[e]at ev;cases ev
   obtain⟨φ1,_,φ3⟩:=(show bh P w H h b (cy b v)from ok b _ e)
   exact⟨φ3 h h' φ1 fun q hq=>by rw[e1]at hq;cases hq;exact e2,⟨o',e2⟩,φ3⟩
  ·rw[cx hb]at e
   exact(ok' b o e).stay (fun c u _ q=>q) (fun c q=>by rw[cx (nin' c _ q)];exact q) fun c xs q=>by rw[cx (nin' c _ q)];exact q
theorem CR.back {outer:List Env}{s s':wr}{Q:VK}{E:XK}{r:Result}(hc:cz H cs cvs)(hfs:∀b∈frs outer,H b=none)(ok:HOk P w H s.heap)
  (h:CR (CX1 P w) outer P w (cQ cs H) s (fun v H'=>Q v (cO cs H H')) (fun c a H'=>E c a (cO cs H H')) r s'):CR (CX1 P w) outer P w H s Q E r s':=by
 cases r with
 |error e=>
  obtain⟨a,C,d,H',rfl,F,q⟩:=h
  obtain⟨u,k⟩:=qS hc hfs ok F.un F.hok
  have na:a∉cs:=fun hb=>by
   obtain⟨v,ev⟩:=hc.mem a hb
   obtain⟨_,⟨o,eo⟩,_⟩:=(show bh P w H s.heap a (cy a v)from ok a _ ev)
   rw[F.new]at eo;cases eo
  obtain⟨oe,vs,a0,T,oT,ts,t1,t2,td,t3,t4,t5,t6,t7,t8,t9,t10,t11⟩:=F.tr
  have nT:T∉cs:=fun hb=>by
   obtain⟨v,ev⟩:=hc.mem T hb
   obtain⟨_,⟨o,eo⟩,_⟩:=(show bh P w H s.heap T (cy T v)from ok T _ ev)
   rw[t10]at eo;cases eo
  exact⟨a,C,d,_,rfl,⟨F.os,F.bare,u,k,F.new,by rw[cx na];exact F.free,⟨oe,vs,a0,T,oT,ts,t1,t2,td,t3,t4,t5,t6,t7,t8,t9,t10,by rw[cx nT];exact t11⟩⟩,q⟩
 |ok fl=>
  cases fl with
  |ret u=>
   obtain⟨v,H',os,bare,un,hok,rv,q⟩:=h
   obtain⟨u',k⟩:=qS hc hfs ok un hok
   exact⟨v,_,os,bare,u',k,rv,q⟩
  |next=>exact Mq h
  |brk=>exact Mq h
  |cont=>exact Mq h
end
structure fB (P:Mf)(w:Mx)(K:cW)(mg:Str→Option pv)(base:Heap)(k:Nat)(t:da)(sp:Sp):Prop where
 run:∀(A:Mn)(outer:List Env)(s:wr)(H:Hp)(f:Addr)(cs:List Addr)(us:List pv)(vs cvs:List V)(Q:VK)(E:XK),aU k A→gR P w K mg base A outer s H→dY H f t cs cvs→aW vs us→vs.length=t.ps.length→
  sp (vs++cvs) (cQ cs H) (fun v H'=>Q v (cO cs H H')) (fun c a H'=>E c a (cO cs H H'))→codeAny (model P w) A (.call (.ref f) ⟨us,[]⟩) (CR (CX1 P w) outer P w H s Q E) s
def eQ (N:List Str)(vs cvs:List V):St:=vs.map some++(Qu (N.length- vs.length- cvs.length) none++cvs.map some)
def gS (P:Mf)(w:Mx)(K:cW)(mg:Str→Option pv)(base:Heap)(N:List Str)(qual:Str)(scope:Scope)(f c:Addr)(cl:List (Str×Addr))(A:Mn)(outer:List Env)(s:wr)(H:Hp)(E:XK):Cx where
 prog:=P
 w:=w
 K:=K
 mg:=mg
 base:=base
 A:=A.deeper (PN qual scope s.heap.objs.size f (.ref c) cl)
 N:=N
 s₀:=s
 H₀:=H
 env:=PN qual scope s.heap.objs.size f (.ref c) cl
 outer:=outer
 stack:=PN qual scope s.heap.objs.size f (.ref c) cl::outer
 ex:=[]
 calm:=true
 fn:=fun _=>false
 pn:=[]
 xe:=fun e s'=>wpAny (model P w) (A.deeper (PN qual scope s.heap.objs.size f (.ref c) cl)) (leaving (PN qual scope s.heap.objs.size f (.ref c) cl) e) (fun _ s''=>CX1 P w outer H s E e s'') (fun e' s''=>CX1 P w outer H s E e' s'') s'
structure eZ (N ps ys:List Str)(sc:Scope):Prop where
 kind:sc.kind=.function
 co:sc.isCoroutine=false
 gen:sc.isGenerator=false
 nd:N.Nodup
 pre:N.take ps.length=ps
 suf:N.drop (N.length- ys.length)=ys
 le:ps.length+ys.length≤N.length
 par:∀x∈ps,sc.names.lookup x=some .local
 nocell:∀x∈sc.names,x.2≠.cell
 fr:∀x∈ys,sc.names.lookup x=some .free
 frs:∀y∈sc.names,y.2=.free→y.1∈ys
theorem kH {ys:List Str}{cs:List Addr}(hl:cs.length=ys.length)(nd:ys.Nodup):∀{i:Nat}{y:Str}{c:Addr},ys[i]? =some y→cs[i]? =some c→(ys.zip cs).lookup y=some c:=by
 induction ys generalizing cs with
 |nil=>intro i y c e;cases e
 |cons a r ih=>
  intro i y c e1 e2
  cases cs with
  |nil=>cases e2
  |cons b cs=>
   cases i with
   |zero=>cases e1;cases e2;show(Ng _ ((_,_)::_))=_;rw[Nw];simp
   |succ i=>
    have hne:y≠a:=fun e=>(Mc.mp nd).1 (e▸Ma (show r[i]? =some y from e1))
    show(Ng y ((a,b)::r.zip cs))=_
    rw[Nw,show(y==a)=false from by simpa using hne]
    exact ih (by simpa using hl) (Mc.mp nd).2 (show r[i]? =some y from e1) (show cs[i]? =some c from e2)
theorem fA {ys:List Str}{cs:List Addr}:∀{y:Str}{c:Addr},(ys.zip cs).lookup y=some c→∃i:Nat,ys[i]? =some y∧cs[i]? =some c:=by
 induction ys generalizing cs with
 |nil=>intro y c e;cases e
 |cons a r ih=>
  intro y c e
  cases cs with
  |nil=>cases e
  |cons b cs=>
   have e:(Ng y ((a,b)::r.zip cs))=some c:=e
   rw[Nw]at e
   by_cases hy:(y==a)=true
   ·rw[hy]at e;cases e;exact⟨0,by simpa using(Sf hy).symm,rfl⟩
   ·rw[show(y==a)=false from by simpa using hy]at e
    obtain⟨i,h1,h2⟩:=ih e
    exact⟨i+1,h1,h2⟩
theorem mE {ps:List Str}{us:List pv}(nd:ps.Nodup):∀{i:Nat}{x:Str}{u:pv},ps[i]? =some x→us[i]? =some u→(ps.zip us).reverse.lookup x=some u:=by
 induction ps generalizing us with
 |nil=>intro i x u e;cases e
 |cons a r ih=>
  intro i x u e1 e2
  cases us with
  |nil=>cases e2
  |cons b us=>
   show(Ng x ((a,b)::r.zip us).reverse)=_
   rw[List.reverse_cons,List.lookup_append]
   cases i with
   |zero=>
    cases e1;cases e2
    have:(r.zip us).reverse.lookup a=none:=by
     rw[List.lookup_eq_none_iff]
     intro p hp
     have:=(NV (List.mem_reverse.mp hp)).1
     simp only[beq_eq_false_iff_ne,ne_eq,bne_iff_ne]
     intro e
     exact(Mc.mp nd).1 (by rw[←e]at this;exact this)
    rw[this];simp
   |succ i=>
    rw[ih (Mc.mp nd).2 (show r[i]? =some x from e1) (show us[i]? =some u from e2)];rfl
section
variable {P:Mf}{w:Mx}{K:cW}{mg:Str→Option pv}{base:Heap}{N ps ys:List Str}{qual:Str}{scope:Scope}{f c:Addr}{A:Mn}{outer:List Env}{s:wr}{H:Hp}{E:XK}{us:List pv}{vs cvs:List V}{cs:List Addr}{h1:Heap}{tk:Nat}
theorem AA (S:eZ N ps ys scope)(hd:A.handled=none)(e0:gR P w K mg base A outer s H)(ca:cz H cs cvs)(hcs:cs.Nodup)(hcl:cs.length=ys.length)(hl:vs.length=ps.length)(r:aW vs us)
  (hns:h1.Ns s.heap.objs.size (fun x=>(ps.zip us).reverse.lookup x))(hk:∀b o,s.heap.get? b=some o→h1.get? b=some o):
  Inv (gS P w K mg base N qual scope f c (ys.zip cs) A outer s (cQ cs H) E) [] (eQ N vs cvs) (cQ cs H) {s with heap:=h1,toks:=tk}:=by
 have ndY:ys.Nodup:=by rw[←S.suf];exact S.nd.sublist (List.drop_sublist _ _)
 have ndP:ps.Nodup:=by rw[←S.pre];exact S.nd.sublist (RN _ _)
 have lcv:cvs.length=ys.length:=by rw[←hcl];exact(Paired.length ca).symm
 have cellOf:∀c∈cs,∃v,h1.IsCell c v:=fun c hm=>by
  obtain⟨v,ev⟩:=ca.mem c hm
  obtain⟨⟨u,o,_,eo,hd⟩,_,_⟩:=(show bh P w H s.heap c (cy c v)from e0.hok c _ ev)
  exact⟨_,o,hk _ _ eo,hd⟩
 have memC:∀x c,(ys.zip cs).lookup x=some c→c∈cs:=fun x c e=>by
  obtain⟨i,_,e2⟩:=fA e
  exact Ma e2
 have noA:∀b:Addr,b∉(gS P w K mg base N qual scope f c (ys.zip cs) A outer s (cQ cs H) E).ex:=fun b z=>absurd (show b∈([]:List Addr)from z) (by simp)
 have hid:∀b,H b=none→cQ cs H b=none:=fun b e=>by
  by_cases hb:b∈cs
  ·exact gh hb
  ·rw[cS hb];exact e
 refine⟨⟨e0.mod,S.kind,rfl,rfl,ah _,fun y z c h1 h2=>?_,fun y hy=>?_,fun y c hf _=>?_,fun _=>hd,QQ e0.frames,.inr ⟨rfl,rfl⟩,fun b z=>absurd z (noA b),fun b o e=>⟨(e0.bs b o e).1,hid b (e0.bs b o e).2⟩,e0.bsz,fun b _ _=>noA b,fun b z=>absurd z (noA b),e0.funs,fun b hb=>hid b (e0.frf b hb)⟩,
  rfl,e0.bare,Un.kept hk,⟨_,hns,fun i y v q1 q2 q3=>?_⟩,fun y c h=>cellOf c (memC y c h),hid _ (e0.hok.fresh (ah _)),fun y c h=>gh (memC y c h),fun p hp=>absurd (show p∈([]:List (Addr×Obj))from hp) (by simp),(AG ca e0.hok).kept hk,?_⟩
 ·obtain⟨i,e1,e2⟩:=fA (show(ys.zip cs).lookup y=some c from h1)
  obtain⟨j,e3,e4⟩:=fA (show(ys.zip cs).lookup z=some c from h2)
  have:i=j:=by
   obtain⟨a1,b1⟩:=LX.mp e2
   obtain⟨a2,b2⟩:=LX.mp e4
   exact(PZ hcs).mp (b1.trans b2.symm)
  subst this
  rw[e1]at e3;exact Me e3
 ·have hy:scope.names.lookup y=some .cell∨scope.names.lookup y=some .free:=hy
  rcases hy with hy|hy
  ·exact absurd rfl (S.nocell _ (ML hy))
  ·obtain⟨i,hi,e⟩:=Ro.mp (S.frs _ (ML hy) rfl)
   have hi2:i<cs.length:=by omega
   exact⟨cs[i],kH hcl ndY (LX.mpr ⟨hi,e⟩) (LN hi2)⟩
 ·exact absurd (show false=true from hf) Mm
 ·unfold eQ at q2
  by_cases hi:i<vs.length
  ·rw[OK (by simpa using hi),Ml]at q2
   have ha:vs[i]?=some v:=by
    cases e:vs[i]? with
    |none=>rw[e]at q2;cases q2
    |some a=>rw[e]at q2;cases q2;rfl
   obtain⟨u,hu,rv⟩:=r.get ha
   have hp:ps[i]?=some y:=by
    rw[←S.pre,QD (by omega)];exact q1
   exact⟨u,rv,.inl ⟨S.par y (Ma hp),mE ndP hp hu⟩⟩
  ·rw[OD (by simpa using hi),LJ]at q2
   by_cases hj:i- vs.length<N.length- vs.length- cvs.length
   ·rw[OK (by simpa using hj),QN]at q2
    split at q2<;>cases q2
   ·rw[OD (by simpa using hj),Pj,Ml]at q2
    have ha:cvs[i- vs.length- (N.length- vs.length- cvs.length)]?=some v:=by
     cases e:cvs[i- vs.length- (N.length- vs.length- cvs.length)]? with
     |none=>rw[e]at q2;cases q2
     |some a=>rw[e]at q2;cases q2;rfl
    have hle:=S.le
    have hiN:i<N.length:=(LX.mp q1).1
    have hx:i- vs.length- (N.length- vs.length- cvs.length)=i- (N.length- ys.length):=by omega
    rw[hx]at ha
    have hy:ys[i- (N.length- ys.length)]?=some y:=by
     have e1:N.drop (N.length- ys.length)=ys:=S.suf
     have e2:(N.drop (N.length- ys.length))[i- (N.length- ys.length)]?=some y:=by
      rw[List.getElem?_drop]
      rw[show N.length- ys.length+(i- (N.length- ys.length))=i by omega];exact q1
     rw[e1]at e2;exact e2
    obtain⟨c,ec,hc⟩:=ca.get ha
    obtain⟨⟨u,o,ru,eo,hdo⟩,_,_⟩:=(show bh P w H s.heap c (cy c v)from e0.hok c _ hc)
    exact⟨u,ru,.inr ⟨.inr (S.fr y (Ma hy)),c,kH hcl ndY hy ec,o,hk _ _ eo,hdo⟩⟩
 ·unfold eQ
  show _=N.length
  have:=S.le
  rw[Mi,Mi,LJ,LJ,Pj]
  omega
end
section
variable {P:Mf}{w:Mx}{K:cW}{mg:Str→Option pv}{base:Heap}{k:Nat}{t:da}{N:List Str}{sp:Sp}
theorem jn {body:Expr}(hb:t.body=.expr body)(S:eZ N t.ps t.ys t.scope)
  (hbody:∀(f c:Addr)(cl:List (Str×Addr))(A:Mn)(outer:List Env)(s:wr)(H:Hp)(vs cvs:List V)(Q:VK)(E:XK),aU k (A.deeper (PN t.qual t.scope s.heap.objs.size f (.ref c) cl))→vs.length=t.ps.length→cvs.length=t.ys.length→sp (vs++cvs) H Q E→
   ∃te,PE (gS P w K mg base N t.qual t.scope f c cl A outer s H E) body te∧te (eQ N vs cvs) H Q):fB P w K mg base (k+1) t sp:=by
 refine⟨fun A outer s H f cs us vs cvs Q E hr e0 ca r hl hsp=>?_⟩
 obtain⟨c,hf,hcc⟩:=ca.ex
 have KX:K.In s.heap:=e0.mod.kin.keeps fun b o e=>(e0.bs b o e).1
 have lim:s.heap.NoLimit:=e0.mod.nolimit.keeps fun b o e=>(e0.bs b o e).1
 obtain⟨⟨od,fd,sl,ho,h1,h2,h3,h4,h5,h6,h7,h8,h9,h10⟩,_,_⟩:=(show bh P w H s.heap f (dH f t cs c)from e0.hok f _ hf)
 obtain⟨⟨o,vs',tk,hco,hdo,hv⟩,_,_⟩:=(show bh P w H s.heap c (dF c t.qual)from e0.hok c _ hcc)
 have hcd:s.heap.CodeRec fd.code fd.qualname:=⟨c,o,vs',tk,h6,hco,hdo,by rw[h1];exact hv⟩
 refine Ov (W.kla_callFunE (R:=CR (CX1 P w) outer P w (cQ cs H) s (fun v H'=>Q v (cO cs H H')) (fun c a H'=>E c a (cO cs H H'))) hr.depth ho rfl (by rw[h3];exact S.co) (by rw[h3];exact S.gen) (h2.trans hb) hcd ?_) fun r s' h=>CR.back ca.cells e0.frf e0.hok h
 rw[h8 us (by rw[←r.length];exact hl),h3,h4,h5,h1,h6,h7]
 refine LU (Sg S.nocell (fun y hy=>S.par y.1 (NV hy).1) (fun h' hns hsb=>⟨lim.fresh _ hsb,?_⟩) S.kind)
 have hk:∀b o,s.heap.get? b=some o→h'.get? b=some o:=fun b o e=>hsb.extBut b o (LY (LR e)) (If _ e)
 have lcv:cvs.length=t.ys.length:=by rw[←h10];exact(Paired.length ca.cells).symm
 obtain⟨te,ht,hq⟩:=hbody f c (t.ys.zip cs) A outer s (cQ cs H) vs cvs _ _ (hr.deeper _) hl lcv hsp
 have I:=AA (tk:=s.toks+(t.ps.zip us).length) (qual:=t.qual) (f:=f) (c:=c) (E:=fun c a H'=>E c a (cO cs H H')) S hr.hd e0 ca.cells h9 h10 hl r hns hk
 show codeAny _ _ (.expr body (PN t.qual t.scope s.heap.objs.size f (.ref c) (t.ys.zip cs))) _ _
 refine W.kla_codeExpr ?_
 refine Mj (ht [] _ (eQ N vs cvs) _ _ I hq) (fun v s' hs=>?_) fun e s' hs=>hs
 obtain⟨x,H',J,rv,q⟩:=hs
 exact⟨x,H',J.os,J.bare,J.base,J.hok,rv,q⟩
end
def BM (mg:Str→Option pv)(h:Heap):Prop:=∃bm ob,mg "__builtins__"=some (.ref bm)∧bm≠builtinsNs∧h.get? bm=some ob∧ob.cls=.type "module"∧ob.dict=some builtinsNs∧ob.data=.plain
section
variable {X:Cx}{pins:List (Addr×Obj)}{σ:St}{H:Hp}{s:wr}{P c:Addr}{ps:Array pv}{t:da}{cs:List Addr}{h':Heap}{tk:Nat}{fd:LM}
theorem vD {more:Array pv}(I:Inv X pins σ H s)(hP:H P=some (.tbl ps))(hx:Heap.ExtBut P s.heap h')(hge:s.heap.objs.size≤c)(hlt:c<h'.objs.size)(hrec:h'.CodeRec (.ref c) t.qual)
  (htb:h'.get? P=some (Rf (ps++more)))(hfd:nM t cs c fd):
  Inv X pins σ (upd (upd (upd H P (.tbl (ps++more))) c (dF c t.qual)) h'.objs.size (dH h'.objs.size t cs c)) {s with heap:=h'.push {cls:=.type "function",data:=.func fd},toks:=tk}:=by
 have hcn:H c=none:=I.hok.fresh hge
 have hfn:H h'.objs.size=none:=I.hok.fresh (Oi (MJ hge hlt))
 have ncP:c≠P:=(ag hP hcn).symm
 have nfP:h'.objs.size≠P:=(ag hP hfn).symm
 have ncf:c≠h'.objs.size:=LY hlt
 have old:∀b o,s.heap.get? b=some o→b≠c∧b≠h'.objs.size:=fun b o e=>⟨LY (LV (LR e) hge),LY (LV (LR e) (Oi (MJ hge hlt)))⟩
 have keepP:∀b o,b≠P→s.heap.get? b=some o→(h'.push {cls:=.type "function",data:=.func fd}).get? b=some o:=fun b o hb e=>If _ (hx b o hb e)
 have neP:∀b,H b=none→b≠P:=fun b e z=>by rw[z,hP]at e;cases e
 have obj:∀b o,H b=some o→∃u,s.heap.get? b=some u:=fun b o e=>il (I.hok b o e)
 have same:∀b o,H b=some o→b≠P→(upd (upd (upd H P (.tbl (ps++more))) c (dF c t.qual)) h'.objs.size (dH h'.objs.size t cs c)) b=some o:=fun b o e hb=>by
  rw[ao (ag e hfn),ao (ag e hcn),ao hb];exact e
 refine I.un ⟨fun b o e n hb hx'=>keepP b o (neP b n) e,fun b o e n hb hx'=>⟨o.slots,keepP b o (neP b n) e⟩,fun b o e n hx'=>?_,fun b o e hx'=>?_,fun b xs e=>same b _ e (bA e hP (fun z=>nomatch z)),fun b o u e=>same b _ e (bA e hP (fun z=>nomatch z)),fun b qs e=>?_⟩ fun b o e=>?_
 ·rw[ao (old b o e).2,ao (old b o e).1,ao (neP b n)];exact n
 ·by_cases hb:b=P
  ·subst hb;exact⟨_,If _ htb⟩
  ·exact⟨o,keepP b o hb e⟩
 ·by_cases hb:b=P
  ·subst hb
   rw[hP]at e;cases e
   exact⟨more,by rw[ao nfP.symm,ao ncP.symm,aj]⟩
  ·exact⟨#[],by rw[same b _ e hb];simp⟩
 ·by_cases hf:b=h'.objs.size
  ·subst hf
   rw[aj]at e;cases e
   refine⟨⟨_,fd,_,Mb _ rfl,hfd⟩,⟨_,Mb _ rfl⟩,?_⟩
   rintro h1 h2 ⟨od,fd',sl,e1,e2⟩ k
   exact⟨od,fd',sl,k _ e1,e2⟩
  ·rw[ao hf]at e
   by_cases hc:b=c
   ·subst hc
    rw[aj]at e;cases e
    obtain⟨c2,oc,vs,tq,e0,e1,e2,e3⟩:=hrec
    cases e0
    refine⟨⟨oc,vs,tq,If _ e1,e2,e3⟩,⟨_,If _ e1⟩,?_⟩
    rintro h1 h2 ⟨o,vs,tk,a1,a2,a3⟩ k
    exact⟨o,vs,tk,k _ a1,a2,a3⟩
   ·rw[ao hc]at e
    by_cases hp:b=P
    ·subst hp
     rw[aj]at e;cases e
     exact If _ htb
    ·rw[ao hp]at e
     refine(I.hok b o e).stay (fun a u ha q=>keepP a u ?_ q) (fun a q=>same a _ q (bA q hP (fun z=>nomatch z))) fun a xs q=>same a _ q (bA q hP (fun z=>nomatch z))
     rcases ha with rfl|ha
     ·exact hp
     ·exact bA ha hP (fun z=>nomatch z)
theorem wR (I:Inv X pins σ H s)(hk:∀b o,s.heap.get? b=some o→h'.get? b=some o)(hsz:s.heap.objs.size≤h'.objs.size)(hfd:nM t cs c fd):
  Inv X pins σ (upd H h'.objs.size (dH h'.objs.size t cs c)) {s with heap:=h'.push {cls:=.type "function",data:=.func fd},toks:=tk}:=by
 refine I.laid (a:=h'.objs.size) (o:=dH h'.objs.size t cs c) (fun b u e=>If _ (hk b u e)) hsz ⟨⟨_,fd,_,Mb _ rfl,hfd⟩,⟨_,Mb _ rfl⟩,?_⟩
 rintro h1 h2 ⟨od,fd',sl,e1,e2⟩ k
 exact⟨od,fd',sl,k _ e1,e2⟩
end
def pX (P:Addr)(pos:Pos)(t:da)(cs:List Addr):TE:=fun _ H Q=>∃ps,H P=some (.tbl ps)∧TriplesOk ps.toList∧
 ((codeAmong pos ps.toList=none∧∀c f,H c=none→H f=none→c≠f→Q (.ref f) (upd (upd (upd H P (.tbl (ps++#[rawInt pos.line,rawInt pos.col,.ref c]))) c (dF c t.qual)) f (dH f t cs c)))∨
  ∃c,codeAmong pos ps.toList=some (.ref c)∧∀f,H f=none→Q (.ref f) (upd H f (dH f t cs c)))
section
variable {X:Cx}{c0 P:Addr}{params:Arguments}{scope:Scope}{pos:Pos}{t:da}{cs:List Addr}
theorem AC {pins:List (Addr×Obj)}{σ:St}{H:Hp}{s:wr}{ps:Array pv}(I:Inv X pins σ H s)(hP:H P=some (.tbl ps))(B:BM X.mg X.base):
  s.heap.get? P=some (Rf ps)∧s.heap.Ns mainGlobals X.mg∧mainGlobals≠P∧s.heap.BuiltinsAt X.mg P:=by
 have hPo:s.heap.get? P=some (Rf ps):=I.hok P _ hP
 have hg:s.heap.Ns mainGlobals X.mg:=I.mod.glob.keeps I.bk
 have hgP:mainGlobals≠P:=fun q=>by
  obtain⟨o,es,ep,e,hd,_⟩:=hg
  rw[q,hPo]at e;cases e;cases hd
 obtain⟨bm,ob,b1,b2,b3,b4,b5,b6⟩:=B
 have b3':=I.bk _ _ b3
 refine⟨hPo,hg,hgP,bm,ob,b1,b2,fun q=>?_,fun q=>?_,b3',b4,b5,b6⟩
 ·obtain⟨o,es,ep,e,hd,_⟩:=hg
  rw[q,e]at b3';cases b3';rw[hd]at b6;cases b6
 ·rw[q,hPo]at b3';cases b3';cases b4
theorem nZ {body:Expr}(B:BM X.mg X.base)(C:OS X.base c0 P)(hcode:X.env.code=.ref c0)(hcl:closureFor scope X.env=pure (t.ys.zip cs))(nd:cs.Nodup)(hl:cs.length=t.ys.length)
  (hq:X.env.qual++"<lambda>"=t.qual)(hb:t.body=.expr body)(hs:t.scope=scope)
  (hbind:∀(cl:List (Str×Addr))(pm cdv ct:pv)(us:List pv),us.length=t.ps.length→bindArgs (W.kla_fn "<lambda>" t.qual params body scope cl pm cdv ct) ⟨us,[]⟩=pure (t.ps.zip us))
  (hdef:defaultsOf params X.env=([],[]):=by rfl):QE X (.Lambda params body scope pos) (pX P pos t cs):=⟨fun pins s σ H Q I h=>by
 obtain⟨ps,hP,ht,h⟩:=h
 obtain⟨hPo,hg,hgP,hB⟩:=AC I hP B
 have hfd:∀(pm ct:pv)(c:Addr),nM t cs c (W.kla_fn "<lambda>" t.qual params body scope (t.ys.zip cs) pm (.ref c) ct):=fun pm ct c=>⟨rfl,hb.symm,hs.symm,rfl,rfl,rfl,rfl,hbind _ _ _ _,nd,hl⟩
 refine W.kla_eval hdef ?_
 rw[hq]
 rcases h with⟨hn,q⟩|⟨c,hf,q⟩
 ·refine W.kla_makeFunction hcl I.ok.glob hg hcode (C.keeps I.bk) hPo ht hn hgP hB fun c ctv h' tk hx hge hlt hrec htb=>?_
  exact⟨.ref h'.objs.size,_,vD I hP hx hge hlt hrec htb (hfd _ _ _),rfl,q c h'.objs.size (I.hok.fresh hge) (I.hok.fresh (Oi (MJ hge hlt))) (LY hlt)⟩
 ·refine W.kla_makeFunctionHit hcl I.ok.glob hg hcode (C.keeps I.bk) hPo ht hf hB fun ctv h' tk hk hsz=>?_
  exact⟨.ref h'.objs.size,_,wR I hk hsz (hfd _ _ _),rfl,q h'.objs.size (I.hok.fresh hsz)⟩⟩
end
section
variable {X:Cx}{k:Nat}{E:St→XK}{x:Str}{p pos:Pos}{e:Expr}{es:List Expr}{ta:TE}
abbrev ip:=List (da×Sp)
def sI (ks:ip)(f:Addr)(vs:List V)(H:Hp)(Q:VK)(E:XK):Prop:=∃ts∈ks,∃cs cvs,dY H f ts.1 cs cvs∧vs.length=ts.1.ps.length∧ts.2 (vs++cvs) (cQ cs H) (fun v H'=>Q v (cO cs H H')) (fun c a H'=>E c a (cO cs H H'))
def oo (ks:ip)(E:St→XK)(ta:TE)(t:TA):TE:=fun σ H Q=>ta σ H fun x H1=>∃f,x=.ref f∧(∃ts∈ks,∃cs cvs,dY H1 f ts.1 cs cvs)∧t σ H1 fun vs H2=>sI ks f vs H2 Q (E σ)
theorem lH {P:Mf}{w:Mx}{H:Hp}{h:Heap}{f:Addr}{t:da}{cs:List Addr}{cvs:List V}(ok:HOk P w H h)(c:dY H f t cs cvs):W.FnAt f h:=by
 obtain⟨c',hf,_⟩:=c.ex
 obtain⟨⟨od,fd,sl,ho,_⟩,_,_⟩:=(show bh P w H h f (dH f t cs c')from ok f _ hf)
 exact⟨_,_,_,_,ho⟩
def lM (P:Mf)(w:Mx)(K:cW)(mg:Str→Option pv)(base:Heap)(k:Nat)(ks:ip):Prop:=∀ts∈ks,fB P w K mg base k ts.1 ts.2
theorem qg {ks:ip}{t:TA}(hk:lM X.prog X.w X.K X.mg X.base k ks)(hr:aU k X.A)(hx:de (CX1 X.prog X.w) X E)(hg:QE X (.Name x p) ta)(ha:QA X (e::es) t)(hs:bn (e::es)=true:=by rfl):
  QE X (.Call (.Name x p) (e::es) [] pos) (oo ks E ta t):=⟨fun pins s σ H Q I h=>by
 have h':(bZ e&&bn es)=true:=hs
 refine Ni (thn (hg.out pins s σ H _ I h) fun u s1 ⟨y,H1,I1,ry,f,ey,⟨ts,hts,cs,cvs,ca⟩,q⟩=>?_)
 subst ey
 obtain rfl:u=LK f:=ry
 refine W.callWith_F (lH I1.hok ca) (thn (ha.out pos pins s1 σ H1 _ I1 q) fun us s2 ⟨vs,H2,I2,rv,ts2,hm2,cs2,cvs2,ca2,hl,hsp⟩=>⟨lH I2.hok ca2,?_⟩)
  (aX (LO.mp h').1 es X.env) (cg (LO.mp h').2)
 refine Rr (Ov ((hk ts2 hm2).run X.A X.stack s2 H2 f cs2 us vs cvs2 Q (E σ) hr I2.env0 ca2 rv hl hsp) fun r s' hq=>?_)
 cases r with
 |error e=>exact hx pins σ H2 s2 e s' I2 hq
 |ok fl=>
  cases fl with
  |ret u=>exact I2.after hq
  |next=>exact Mq hq
  |brk=>exact Mq hq
  |cont=>exact Mq hq⟩
end
structure kE where
 nx:St→Hp→Prop
 rt:St→VK
abbrev TSM:=kE→St→Hp→Prop
def SPM (X:Cx)(pins:List (Addr×Obj))(D:kE)(f:Flow)(s':wr):Prop:=
 match f with
 |.next=>∃σ' H',Inv X pins σ' H' s'∧D.nx σ' H'
 |.ret u=>∃v σ' H',Inv X pins σ' H' s'∧aJ v u∧D.rt σ' v H'
 |_=>False
structure QM (X:Cx)(st:Stmt)(t:TSM):Prop where
 out:∀(pins:List (Addr×Obj))(s:wr)(σ:St)(H:Hp)(D:kE),Inv X pins σ H s→t D σ H→wpAny (model X.prog X.w) X.A (exec st X.env) (SPM X pins D) X.xe s
structure QMs (X:Cx)(st:List Stmt)(t:TSM):Prop where
 out:∀(pins:List (Addr×Obj))(s:wr)(σ:St)(H:Hp)(D:kE),Inv X pins σ H s→t D σ H→wpAny (model X.prog X.w) X.A (execs st X.env) (SPM X pins D) X.xe s
def oa:TSM:=fun D σ H=>D.nx σ H
def kf (t u:TSM):TSM:=fun D σ H=>t {D with nx:=fun σ' H'=>u D σ' H'} σ H
def nW (t:TS):TSM:=fun D σ H=>t {nx:=D.nx,rt:=fun _ _=>False} σ H
def mx (te:TE):TSM:=fun D σ H=>te σ H (D.rt σ)
def rn (c:TT)(t u:TSM):TSM:=fun D σ H=>c σ H fun b H1=>Sel b (t D σ H1) (u D σ H1)
section
variable {X:Cx}{st:Stmt}{sts l m:List Stmt}{t u:TSM}{tS:TS}{e c:Expr}{te:TE}{tc:TT}{pos:Pos}
theorem pO (h:QS X st tS):QM X st (nW tS):=⟨fun pins s σ H D I hq=>thn (h.out pins s σ H _ I hq) fun f s1 q=>by
 cases f with
 |next=>exact q
 |ret v=>obtain⟨_,_,_,_,_,z⟩:=q;exact z.elim
 |brk=>obtain⟨_,_,_,z⟩:=q;exact z.elim
 |cont=>obtain⟨_,_,_,z⟩:=q;exact z.elim⟩
theorem kX (h:QE X e te):QM X (.Return (some e) pos) (mx te):=⟨fun pins s σ H D I hq=>
 SU (thn (h.out pins s σ H _ I hq) fun v s1 ⟨x,H1,I1,r1,q1⟩=>⟨x,σ,H1,I1,r1,q1⟩)⟩
theorem xS (hc:QT X c tc)(ha:QMs X l t)(hb:QMs X m u):QM X (.If c l m pos) (rn tc t u):=⟨fun pins s σ H D I h=>by
 refine wpAny_If (thn (hc.out pins s σ H _ I h) fun d s1 ⟨H1,I1,q1⟩=>?_)
 have q1:=eG q1
 cases d with
 |true=>exact ha.out pins s1 σ H1 D I1 q1
 |false=>exact hb.out pins s1 σ H1 D I1 q1⟩
theorem sD:QMs X [] oa:=⟨fun _ _ σ H _ I h=>ON ⟨σ,H,I,h⟩⟩
theorem gK (h1:QM X st t)(h2:QMs X sts u):QMs X (st::sts) (kf t u):=⟨fun pins s σ H D I h=>by
 refine Pq (thn (h1.out pins s σ H _ I h) fun f s1 q=>?_)
 cases f with
 |next=>
  obtain⟨σ',H',I',q⟩:=q
  exact h2.out pins s1 σ' H' D I' q
 |ret v=>exact q
 |brk=>exact q
 |cont=>exact q⟩
theorem kM (h1:QM X st t):QMs X [st] t:=⟨fun pins s σ H D I h=>by
 refine Pq (thn (h1.out pins s σ H D I h) fun f s1 q=>?_)
 cases f with
 |next=>exact ON q
 |ret v=>exact q
 |brk=>exact q
 |cont=>exact q⟩
end
def dG:List (Nat×Addr)→St→Hp→Hp
 |[],_,H=>H
 |(i,c)::r,σ,H=>match σ[i]? with
  |some (some v)=>dG r σ (upd H c (cy c v))
  |_=>dG r σ H
theorem jN {P:Mf}{w:Mx}{fs:List Addr}{H:Hp}{h h':Heap}{σ:St}:∀(cs:List (Nat×Addr))(H':Hp),(cs.map (·.2)).Nodup→(∀p∈cs,H' p.2=none∧h.objs.size≤p.2∧∀v,σ[p.1]? =some (some v)→∃u o,aJ v u∧h'.get? p.2=some o∧o.data=.cell (some u))→
  Un fs [] H H' h h'→HOk P w H' h'→Un fs [] H (dG cs σ H') h h'∧HOk P w (dG cs σ H') h'
 |[],H',_,_,u,ok=>⟨u,ok⟩
 |(i,c)::r,H',nd,hc,u,ok=>by
  unfold dG
  have ndr:=(Mc.mp nd).2
  have hcr:∀p∈r,H' p.2=none∧h.objs.size≤p.2∧∀v,σ[p.1]? =some (some v)→∃u o,aJ v u∧h'.get? p.2=some o∧o.data=.cell (some u):=fun p hp=>hc p (LS _ hp)
  split
  ·rename_i v hv
   obtain⟨hn,hge,hcell⟩:=hc (i,c) Mg
   have hn:H' c=none:=hn
   have hge:h.objs.size≤c:=hge
   obtain⟨uv,o,ru,eo,hd⟩:=hcell v hv
   have eo:h'.get? c=some o:=eo
   refine jN r (upd H' c (cy c v)) ndr (fun p hp=>⟨?_,(hcr p hp).2⟩) ⟨u.keep,u.slot,fun b ob e n hx=>?_,u.there,fun b xs e=>?_,fun b ob z e=>?_,fun b ps e=>?_⟩ fun b ob e=>?_
   ·have:p.2≠c:=fun z=>(Mc.mp nd).1 (by rw[←z];exact MH.mpr ⟨p,hp,rfl⟩)
    rw[ao this];exact(hcr p hp).1
   ·rw[ao (LY (LV (LR e) hge))];exact u.free b ob e n hx
   ·have z:=u.tups b xs e;rw[ao (ag z hn)];exact z
   ·have z:=u.frzs b ob _ e;rw[ao (ag z hn)];exact z
   ·obtain⟨more,z⟩:=u.tbls b ps e;exact⟨more,by rw[ao (ag z hn)];exact z⟩
   ·by_cases hb:b=c
    ·subst hb
     rw[aj]at e;cases e
     refine⟨⟨uv,o,ru,eo,hd⟩,⟨o,eo⟩,?_⟩
     rintro h1 h2 ⟨u',o',r',e',d'⟩ k
     exact⟨u',o',r',k _ e',d'⟩
    ·rw[ao hb]at e
     exact(ok b ob e).stay (fun a q _ z=>z) (fun a q=>by rw[ao (ag q hn)];exact q) fun a xs q=>by rw[ao (ag q hn)];exact q
  ·exact jN r H' ndr hcr u ok
theorem Fun.okM {P:Mf}{w:Mx}{K:cW}{mg:Str→Option pv}{base:Heap}{x qual:Str}{st:Stmt}{f c0:Addr}{fd:LM}{N ps:List Str}{k:Nat}{sp:Sp}{caps:Nat→List (Nat×Addr)}(F:Fun K x qual st f fd)(hcd:fd.code=.ref c0)(S:aw N ps (ai st))(len:∀vs H Q E,sp vs H Q E→vs.length=ps.length)
  (hcaps:∀(L:Nat)(p:Nat×Addr),p∈caps L→∃y,N[p.1]? =some y∧(ai st).names.lookup y=some .cell∧(cellsFrom (L+1) (ai st).names []).lookup y=some p.2)(hnd:∀L,((caps L).map (·.2)).Nodup)
  (hbody:∀(A:Mn)(outer:List Env)(s:wr)(H:Hp)(vs:List V)(Q:VK)(E:XK),aU k (A.deeper (envOfC qual (ai st) s.heap.objs.size f (.ref c0)))→sp vs H Q E→
   ∃t,QMs (cH (CX1 P w) P w K mg base N qual (ai st) f (.ref c0) A outer s H E) (aO st) t∧t {nx:=fun σ H'=>(∀p∈caps s.heap.objs.size,H' p.2=none)→Q .non (dG (caps s.heap.objs.size) σ H'),rt:=fun σ v H'=>(∀p∈caps s.heap.objs.size,H' p.2=none)→Q v (dG (caps s.heap.objs.size) σ H')} (start N vs) H):aB P w K mg base (CX1 P w) (k+1) f fd ps sp:=by
 obtain⟨oc,od,kV,doc,pm,an,cdv,ct,osl,rfl,lk,hcd'⟩:=F.ex
 obtain rfl:cdv=.ref c0:=hcd
 refine⟨len,fun A outer s H args us vs Q E hr e0 hb r hsp=>?_⟩
 have hl:=len _ _ _ _ hsp
 have KX:K.In s.heap:=e0.mod.kin.keeps fun b o e=>(e0.bs b o e).1
 have lim:s.heap.NoLimit:=e0.mod.nolimit.keeps fun b o e=>(e0.bs b o e).1
 have hkind:∀y∈ps.zip us,(ai st).names.lookup y.1=some .local∨((ai st).names.lookup y.1=some .cell∧((cellsFrom (s.heap.objs.size+1) (ai st).names []).lookup y.1).isSome=true):=fun⟨n,v⟩ hy=>by
  rcases S.par n (NV hy).1 with q|q
  ·exact .inl q
  ·exact .inr ⟨q,Qk _ _ _ (.inl q)⟩
 refine RV hr.depth (KX _ _ lk) rfl S.co S.gen rfl (W.codeRec_of KX hcd') (hb _ _ _ _ ?_)
 refine QX S.kind hkind fun env he s1 x=>?_
 subst he
 refine⟨lim.keeps x.toInCall.keep,codeAny_func ?_⟩
 obtain⟨t,ht,hq⟩:=hbody A outer s H vs Q E (hr.deeper _) hsp
 have I:Inv (cH (CX1 P w) P w K mg base N qual (ai st) f (.ref c0) A outer s H E) [] (start N vs) H s1:=mT S hr.hd e0 hl r x
 refine Mj (ht.out [] s1 (start N vs) H _ I hq) (fun fl s' hs=>?_) fun e s' hs=>hs
 have fin:∀{σ':St}{H':Hp}{v:V}{u:pv},Inv (cH (CX1 P w) P w K mg base N qual (ai st) f (.ref c0) A outer s H E) [] σ' H' s'→aJ v u→((∀p∈caps s.heap.objs.size,H' p.2=none)→Q v (dG (caps s.heap.objs.size) σ' H'))→CE outer P w H s Q u s':=
  fun{σ' H' v u} J rv q=>by
   have free:∀p∈caps s.heap.objs.size,H' p.2=none:=fun p hp=>by
    obtain⟨y,_,_,hc⟩:=hcaps _ p hp
    exact J.freeC y p.2 hc
   have hcond:∀p∈caps s.heap.objs.size,H' p.2=none∧s.heap.objs.size≤p.2∧∀v,σ'[p.1]? =some (some v)→∃u o,aJ v u∧s'.heap.get? p.2=some o∧o.data=.cell (some u):=fun p hp=>by
    obtain⟨y,hy,hk,hc⟩:=hcaps _ p hp
    refine⟨free p hp,J.ok.cab y p.2 rfl hc,fun v hv=>?_⟩
    obtain⟨m,_,hloc⟩:=J.loc
    obtain⟨u',r',lk'⟩:=hloc p.1 y v hy hv (.inr (.inl hk))
    rcases lk' with⟨z,_⟩|⟨_,c,ec,o,eo,hd⟩
    ·have z:(ai st).names.lookup y=some .local:=z
     rw[hk]at z;cases z
    ·have ec:(cellsFrom (s.heap.objs.size+1) (ai st).names []).lookup y=some c:=ec
     rw[hc]at ec;cases ec
     exact⟨u',o,r',eo,hd⟩
   obtain⟨un,ok⟩:=jN (P:=P) (w:=w) (σ:=σ') (caps s.heap.objs.size) H' (hnd _) hcond J.base J.hok
   exact⟨v,_,J.os,J.bare,un,ok,rv,q free⟩
 cases fl with
 |ret u=>
  obtain⟨v,σ',H',J,rv,q⟩:=hs
  exact fin J rv q
 |next=>
  obtain⟨σ',H',J,q⟩:=hs
  exact fin (v:=V.non) (u:=MM) J rfl q
 |brk=>exact Mq hs
 |cont=>exact Mq hs
theorem tR {P:Mf}{w:Mx}{K:cW}{mg mb:Str→Option pv}{CX:CXT}{k:Nat}{fa a:Addr}{fd:LM}{x:Str}{sp:Sp}{s₁:wr}{vs:List pv}{ns:List Int}{tabs:List (Addr×Addr)}
  (KX:K.In s₁.heap)(hns:s₁.heap.Ns mainGlobals mg)(hb:s₁.heap.Ns builtinsNs mb)(hbb:∀x:Str,x≠"__name__"→mb x=bootBuiltins x)(hlim:s₁.heap.NoLimit)(hg:s₁.gens=#[])(hB:BM mg s₁.heap)
  (hT:∀q∈tabs,OS s₁.heap q.1 q.2∧s₁.heap.get? q.2=some (Rf #[]))(hKT:Rg K=true)
  (ha:s₁.heap.get? a=some {cls:=.type "list",data:=.seq vs.toArray})(hi:QR vs ns)(hl:ns.length≤sizeLine)(hr:aU k callerA)
  (F:∀base:Heap,K.In base→base.Ns mainGlobals mg→BM mg base→(∀q∈tabs,OS base q.1 q.2)→aB P w K mg base CX k fa fd [x] sp)(hbind:∀(s:wr)(u:pv),RA s fd ⟨[u],[]⟩ [(x,u)])
  (hsp:∀H:Hp,(∀q∈tabs,H q.2=some (.tbl #[]))→SqL K H a (ns.map V.int)→sp [.ref a] H (fun v _=>v=.bl true) fun _ _ _=>False)
  (hCX:∀H e s',CX [] H s₁ (fun _ _ _=>False) e s'→False):
  codeAny (model P w) callerA (.call (.ref fa) ⟨[.ref a],[]⟩) (fun r s'=>r=.ok (.ret (.bool true))∧OldK s₁.heap s'.heap∧s'.os=s₁.os∧Po s'.gens) s₁:=by
 have rv:=iR hi
 have lenV:=hi.length
 have tabK:∀q∈tabs,K.lookup q.2=none:=fun q hq=>by
  cases e:K.lookup q.2 with
  |none=>rfl
  |some o=>
   have e2:=KX _ _ e
   rw[(hT q hq).2]at e2;cases e2
   have:=Na.mp hKT _ (W.mem_of_lookupK e)
   exact absurd (show false=true from this) Mm
 have tabA:∀q∈tabs,q.2≠a:=fun q hq e=>by
  have e2:=(hT q hq).2
  rw[e,ha]at e2;cases e2
 have core:∀H:Hp,(∀q∈tabs,H q.2=some (.tbl #[]))→SqL K H a (ns.map V.int)→HOk P w H s₁.heap→(∀b,H b≠none→(b=a∧∃o xs,H b=some (.frz o (.lst xs)))∨∃q∈tabs,q.2=b)→(∀b,H b≠none→K.lookup b=none)→
   codeAny (model P w) callerA (.call (.ref fa) ⟨[.ref a],[]⟩) (fun r s'=>r=.ok (.ret (.bool true))∧OldK s₁.heap s'.heap∧s'.os=s₁.os∧Po s'.gens) s₁:=by
  intro H hO hS hok hA hK
  have base_of:∀{b:Addr}{o:Obj},s₁.heap.get? b=some o→H b=none→(gd s₁.heap H).get? b=some o:=fun e n=>wM e n
  have noA:∀{b:Addr}{o:Obj},s₁.heap.get? b=some o→o.cls≠.none→o.cls≠.type "list"→H b=none:=fun{b o} e c1 c2=>by
   cases q:H b with
   |none=>rfl
   |some u=>
    rcases hA b (by rw[q];simp)with⟨rfl,_⟩|⟨p,hp,rfl⟩
    ·rw[ha]at e;cases e;exact absurd rfl c2
    ·rw[(hT p hp).2]at e;cases e;exact absurd rfl c1
  have noD:∀{b:Addr}{o:Obj}{es:Array DictEntry}{ep:Nat},s₁.heap.get? b=some o→o.data=.dict es ep→H b=none:=fun{b o es ep} e d=>by
   cases q:H b with
   |none=>rfl
   |some u=>
    rcases hA b (by rw[q];simp)with⟨rfl,_⟩|⟨p,hp,rfl⟩
    ·rw[ha]at e;cases e;cases d
    ·rw[(hT p hp).2]at e;cases e;cases d
  have nsK:∀{b:Addr}{m:Str→Option pv},s₁.heap.Ns b m→(gd s₁.heap H).Ns b m:=fun{b m}⟨o,es,ep,e,d,r⟩=>⟨o,es,ep,base_of e (noD e d),d,r⟩
  have hKb:K.In (gd s₁.heap H):=fun b o e=>base_of (KX b o e) (by
   cases q:H b with
   |none=>rfl
   |some u=>rw[hK b (by rw[q];simp)]at e;cases e)
  have hBb:BM mg (gd s₁.heap H):=by
   obtain⟨bm,ob,b1,b2,b3,b4,b5,b6⟩:=hB
   exact⟨bm,ob,b1,b2,base_of b3 (noA b3 (by rw[b4];intro z;cases z) (by rw[b4];intro z;exact absurd (Ri z) (by decide))),b4,b5,b6⟩
  have hCb:∀q∈tabs,OS (gd s₁.heap H) q.1 q.2:=fun q hq=>by
   obtain⟨o,vs,file,tf,flags,tg,inF,text,tt,e1,e2,r⟩:=(hT q hq).1
   exact⟨o,vs,file,tf,flags,tg,inF,text,tt,base_of e1 (noA e1 (by rw[e2];intro z;cases z) (by rw[e2];intro z;exact absurd (Ri z) (by decide))),e2,r⟩
  have hM:Mod K mg (gd s₁.heap H):=⟨hKb,nsK hns,⟨mb,nsK hb,hbb⟩,let ⟨mc,h1,h2⟩:=hlim;⟨mc,nsK h1,h2⟩⟩
  have e0:gR P w K mg (gd s₁.heap H) callerA [] s₁ H:=⟨rfl,hM,fun b o e=>AF e,Oj (uq _ _),trivial,fun b hb=>absurd (show b∈([]:List Addr)from hb) (by simp),hok,.of_eq hg⟩
  refine Ov ((F _ hKb (nsK hns) hBb hCb).run callerA [] s₁ H ⟨[.ref a],[]⟩ [.ref a] [.ref a] _ _ hr e0 (hbind s₁ (.ref a)) (.cons rfl .nil) (hsp H hO hS)) fun r s' h=>?_
  cases r with
  |error e=>exact(hCX H e s' h).elim
  |ok fl=>
   cases fl with
   |next=>exact Mq h
   |brk=>exact Mq h
   |cont=>exact Mq h
   |ret u=>
    obtain⟨v,H',os,bare,un,hok',r',q⟩:=h
    have q':v=.bl true:=q
    subst q'
    obtain rfl:u=NI true:=r'
    have all:∀b o,s₁.heap.get? b=some o→s'.heap.get? b=some o∨∃q∈tabs,q.2=b∧∃more,s'.heap.get? b=some (Rf more):=fun b o e=>by
     cases q:H b with
     |none=>exact .inl (un.keep b o e q (by intro z;exact absurd (show b∈([]:List Addr)from z) (by simp)) (by simp))
     |some u=>
      rcases hA b (by rw[q];simp)with⟨rfl,ob,xs,z⟩|⟨p,hp,rfl⟩
      ·have z2:=un.frzs b ob _ z
       obtain⟨e1,_⟩:=hok b _ z
       obtain⟨e2,_⟩:=hok' b _ z2
       rw[e]at e1;cases e1
       exact .inl e2
      ·obtain⟨more,z2⟩:=un.tbls p.2 _ (hO p hp)
       exact .inr ⟨p,hp,rfl,_,hok' p.2 _ z2⟩
    refine⟨rfl,⟨fun b o e=>?_,fun b o e=>?_⟩,os,bare⟩
    ·rcases all b o e with z|⟨p,hp,rfl,more,z⟩
     ·exact .inl z
     ·have e2:=(hT p hp).2
      rw[e]at e2;cases e2
      exact .inr (.inl ⟨((hT p hp).1.tab (hT p hp).2).isCodeTable,rfl,#[],more,rfl,by rw[Array.empty_append];exact z⟩)
    ·rcases all b o e with z|⟨p,hp,rfl,more,z⟩
     ·exact⟨_,z⟩
     ·exact⟨_,z⟩
 cases hk:K.lookup a with
 |some o=>
  have e:=KX a o hk
  rw[ha]at e
  cases e
  refine core (fun b=>if b∈tabs.map (·.2)then some (.tbl #[])else none) (fun q hq=>if_pos (MH.mpr ⟨q,hq,rfl⟩)) (.inr ⟨_,vs.toArray,_,hk,rfl,rfl,rfl,by rw[LP,lenV];exact hl,by simpa using rv⟩) (fun b u z=>?_) (fun b z=>?_) fun b z=>?_
  ·by_cases hb:b∈tabs.map (·.2)
   ·have z':=(if_pos hb).symm.trans z
    cases z'
    obtain⟨q,hq,rfl⟩:=MH.mp hb
    exact(hT q hq).2
   ·have z':=(if_neg hb).symm.trans z
    cases z'
  ·by_cases hb:b∈tabs.map (·.2)
   ·obtain⟨q,hq,e⟩:=MH.mp hb
    exact .inr ⟨q,hq,e⟩
   ·exact absurd (if_neg hb) z
  ·by_cases hb:b∈tabs.map (·.2)
   ·obtain⟨q,hq,rfl⟩:=MH.mp hb
    exact tabK q hq
   ·exact absurd (if_neg hb) z
 |none=>
  refine core (fun b=>if b=a then some (.frz {cls:=.type "list",data:=.seq vs.toArray} (.lst (ns.map V.int)))else if b∈tabs.map (·.2)then some (.tbl #[])else none)
   (fun q hq=>by show(if q.2=a then _ else _)=_;rw[if_neg (tabA q hq),if_pos (MH.mpr ⟨q,hq,rfl⟩)]) (.inl (.inr ⟨{cls:=.type "list",data:=.seq vs.toArray},if_pos rfl⟩)) (fun b u z=>?_) (fun b z=>?_) fun b z=>?_
  ·by_cases hb:b=a
   ·have z':=(if_pos hb).symm.trans z
    cases z'
    subst hb
    exact⟨ha,by rw[LJ];exact hl,vs,_,rv,ha⟩
   ·have z':(if b∈tabs.map (·.2)then some (HO.tbl #[])else none)=some u:=(if_neg hb).symm.trans z
    by_cases hb2:b∈tabs.map (·.2)
    ·rw[if_pos hb2]at z';cases z'
     obtain⟨q,hq,rfl⟩:=MH.mp hb2
     exact(hT q hq).2
    ·rw[if_neg hb2]at z';cases z'
  ·by_cases hb:b=a
   ·exact .inl ⟨hb,_,_,if_pos hb⟩
   ·by_cases hb2:b∈tabs.map (·.2)
    ·obtain⟨q,hq,e⟩:=MH.mp hb2
     exact .inr ⟨q,hq,e⟩
    ·exact absurd ((if_neg hb).trans (if_neg hb2)) z
  ·by_cases hb:b=a
   ·rw[hb];exact hk
   ·by_cases hb2:b∈tabs.map (·.2)
    ·obtain⟨q,hq,rfl⟩:=MH.mp hb2
     exact tabK q hq
    ·exact absurd ((if_neg hb).trans (if_neg hb2)) z
theorem vc {l:W.OpenLaw}{n k:Nat}{q:Mf}{loose:List Str}{XP:(Str→Option pv)→Heap→Prop}{YP:Mx→Heap→Prop}{d:DefRec}{K:Params→cW}{CX:Mx→CXT}{x:Str}{names:List Str}
  (hn:l.most=some n)(hn2:n≤sizeLine)(hdf:d.params.defaults=[])(hr:aU k callerA)
  (hY:∀(w:Mx)(h:Heap),YP w h→(K w.params).In h)
  (hq:∀y∈names,((Qh q).find? fun e=>e.name==y).isSome=true)
  (F:∀(w:Mx)(mg:Str→Option pv)(fa:Addr)(h:Heap),(K w.params).In h→h.Ns mainGlobals mg→mg d.name=some (.ref fa)→
   ∃(fd:LM)(tabs:List (Addr×Addr))(sp:Sp),(∀(s:wr)(u:pv),RA s fd ⟨[u],[]⟩ [(x,u)])∧Rg (K w.params)=true∧(∀t∈tabs,∃y∈names,Qc (K w.params) y=some t)∧
    (∀base:Heap,(K w.params).In base→base.Ns mainGlobals mg→BM mg base→(∀t∈tabs,OS base t.1 t.2)→aB l.prog w (K w.params) mg base (CX w) k fa fd [x] sp)∧
    ∀(H:Hp)(a:Addr)(ns:List Int),ns.length≤n→(∀t∈tabs,H t.2=some (.tbl #[]))→SqL (K w.params) H a (ns.map V.int)→sp [.ref a] H (fun v _=>v=.bl true) fun _ _ _=>False)
  (hCX:∀(w:Mx)(H:Hp)(s:wr)(e:pv)(s':wr),CX w [] H s (fun _ _ _=>False) e s'→False):
  W.WalkO q loose XP YP l.row.toRowW d [] (fun f vs=>Ry f vs):=by
 refine Att.attach_call hn hdf fun w s₀ s₁ mg mb fa o pm cd doc a vs ns G Y ho hd hcd hmg hobj hints hlen hg=>?_
 have KX:=hY w _ Y
 obtain⟨fd,tabs,sp,hb,hKT,htabs,hF,hsp⟩:=F w mg fa _ KX G.T.g hmg
 refine tR (tabs:=tabs) KX G.T.g G.T.b G.T.builtins G.T.nolimit hg G.T.bmain (fun t ht=>?_) hKT hobj hints (Mh hlen hn2) hr hF hb (fun H hO hS=>hsp H a ns hlen hO hS) fun H e s'=>hCX w H s₁ e s'
 obtain⟨y,hy,e⟩:=htabs t ht
 obtain⟨dd,hdd⟩:=Mr.mp (hq y hy)
 exact W.tab_of G.T KX hdd e
section
variable {X:Cx}
theorem SPM.unwish {E:pv→wr→Prop}{pins:List (Addr×Obj)}{D:kE}{f:Flow}{s':wr}(h:SPM (X.wish E) pins D f s'):SPM X pins D f s':=by
 cases f with
 |next=>obtain⟨σ',H',I,q⟩:=h;exact⟨σ',H',I.unwish,q⟩
 |brk=>exact h
 |cont=>exact h
 |ret u=>obtain⟨v,σ',H',I,r,q⟩:=h;exact⟨v,σ',H',I.unwish,r,q⟩
theorem QMs.nox {st:List Stmt}{t:TSM}(h:QMs X.nox st t):QMs X st t:=⟨fun pins s σ H D I hw=>
 Mj (h.out pins s σ H D (I.wish _) hw) (fun _ _ q=>SPM.unwish q) fun _ _ z=>Mq z⟩
theorem fB.mono {P:Mf}{w:Mx}{K:cW}{mg:Str→Option pv}{base:Heap}{j k:Nat}{t:da}{sp:Sp}(F:fB P w K mg base j t sp)(h:j≤k):fB P w K mg base k t sp:=
 ⟨fun A outer s H f cs us vs cvs Q E hr=>F.run A outer s H f cs us vs cvs Q E (hr.mono h)⟩
def qO:V→List V→Hp→VK→Prop:=fun x vs H Q=>∃a y d r H',x=.ref a∧vs=[y,d]∧BN H a y d r H'∧Q r H'
theorem uU (hu:X.A.units+1<cLine):MtR X "dict.setdefault" qO:=by
 intro pins s σ H x xs v us Q I rx rs h
 obtain⟨a,y,d,r,H',rfl,rfl,g,q⟩:=h
 obtain rfl:v=LK a:=rx
 obtain⟨uy,ud,rfl,ry,rd⟩:=oR rs
 rcases g with⟨g,rfl⟩|⟨g,p,rfl⟩
 ·rcases g with⟨kvs,k,e,rfl,l⟩|⟨kvs,k,b,e,rfl,eb,l⟩
  ·obtain⟨z,hd,vs,rel,dd⟩:=gw I.hok e
   obtain⟨w',hw,rw'⟩:=cX.some_of (v:=r) (o:=valueAt vs k) (by rw[l];exact rel.val k)
   exact OX MS dd.typeIs Nq (Nm _ _ _) (Ss (bK X.prog X.w) a (gq ry) hd ud)
    ⟨vs,dd,by rw[←rel.length];exact z,(fun v' hv'=>by rw[hw]at hv';cases hv';exact⟨r,H',I.tok _,rw',q⟩),(fun hn=>by rw[hw]at hn;cases hn)⟩
  ·cases (show uy=LK b from ry)
   obtain⟨z,hd,xs,rel,dd⟩:=ju I.hok e
   obtain⟨w',hw,rw'⟩:=cX.some_of (v:=r) (o:=(atKey xs k).map (·.2)) (by rw[l];exact rel.val k)
   obtain⟨pp,hp,hp2⟩:=OZ.mp hw
   refine NC MS dd.typeIs Nq ?_ (Nm _ _ _)
   unfold PV.«dict.setdefault»
   refine tx ?_
   unfold Py
   refine tx (RS dd.typeIs ?_)
   show wpAny _ _ (pure (a,LK b,some ud)) _ _ s
   refine LU ?_
   show wpAny _ _ (if (a==sysModules)=true then _ else(dictSetDefault a (.ref b) ud>>=_)) _ _ s
   rw[if_neg (by rw[hd];exact Mm)]
   refine tx (eS (NK hu) (fZ I.hok eb) dd (fun p' hp'=>?_) (fun hn=>?_) (by rw[←Paired.length rel];exact z))
   ·rw[hp]at hp';cases hp'
    exact LU ⟨_,rfl,⟨r,H',I.tok _,by rw[hp2];exact rw',q⟩⟩
   ·rw[hp]at hn;cases hn
 ·rcases g with⟨kvs,k,e,rfl,l⟩|⟨kvs,k,b,e,rfl,eb,l⟩
  ·rcases p with⟨kvs',k',e',ey,lz,rfl⟩|⟨kvs',k',b',e',ey,_⟩
   ·have ek:k=k':=by cases k<;>cases k'<;>first|(cases ey;rfl)|cases ey
    subst ek
    obtain⟨z,hd,vs,rel,dd⟩:=kS I.hok e'
    have ee:kvs=kvs':=by
     rcases e with e|⟨o,e⟩
     ·rw[e']at e;cases e;rfl
     ·rw[e']at e;cases e
    subst ee
    have hn:valueAt vs k=none:=cX.none_of (by rw[l];exact rel.val k)
    refine OX MS dd.typeIs Nq (Nm _ _ _) (Ss (bK X.prog X.w) a (gq ry) hd ud)
     ⟨vs,dd,by rw[←rel.length];exact z,(fun v' hv'=>by rw[hn]at hv';cases hv'),fun _ h' dd' hs=>?_⟩
    have he:∃q,h'.get? a=some q:=let ⟨q,_,_,hq,_⟩:=dd';⟨q,hq⟩
    have hl:(bX kvs k r).length≤sizeLine:=by have:=eh kvs k r;omega
    exact⟨r,_,gH I (by rw[e'];exact MY) hs he (lG hl hd (rel.put k rd) dd'),rd,q⟩
   ·cases k<;>cases ey
  ·rcases p with⟨kvs',k',e',ey,_⟩|⟨kvs',k',b',e',ey,eb',lz,rfl⟩
   ·cases k'<;>cases ey
   ·cases ey
    have ek:k=k':=qZ (HO.tup.inj (Me (eb.symm.trans eb')))
    subst ek
    cases (show uy=LK b from ry)
    obtain⟨z,hd,xs,rel,dd⟩:=sE I.hok e'
    have ee:kvs=kvs':=by
     rcases e with e|⟨o,e⟩
     ·rw[e']at e;cases e;rfl
     ·rw[e']at e;cases e
    subst ee
    have hn:atKey xs k=none:=by
     have:=cX.none_of (o:=(atKey xs k).map (·.2)) (by rw[l];exact rel.val k)
     exact Option.map_eq_none_iff.mp this
    refine NC MS dd.typeIs Nq ?_ (Nm _ _ _)
    unfold PV.«dict.setdefault»
    refine tx ?_
    unfold Py
    refine tx (RS dd.typeIs ?_)
    show wpAny _ _ (pure (a,LK b,some ud)) _ _ s
    refine LU ?_
    show wpAny _ _ (if (a==sysModules)=true then _ else(dictSetDefault a (.ref b) ud>>=_)) _ _ s
    rw[if_neg (by rw[hd];exact Mm)]
    refine tx (eS (NK hu) (fZ I.hok eb) dd (fun p' hp'=>?_) (fun _ h' dd' hs=>?_) (by rw[←Paired.length rel];exact z))
    ·rw[hn]at hp';cases hp'
    ·obtain⟨q',es,ep,hq,h2,h3,h4,_,h5⟩:=dd'
     have hl:(bX kvs k r).length≤sizeLine:=by have:=eh kvs k r;omega
     refine LU ⟨_,rfl,⟨r,_,gH (ob:=.dT (bX kvs k r)) I (by rw[e'];exact MY) hs ⟨q',hq⟩ ⟨hl,hd,_,(rel.put k eb rd).keeps fun c ys ec=>?_,q',es,ep,hq,h2,h3,h4,h5⟩,rd,q⟩⟩
     rw[ao (bA ec e' (fun z=>nomatch z))]
     exact ec
def Its (z:Str):It:=⟨fun i _=>i<z.length,fun i H x H'=>H'=H∧∃c,z.cps[i]?=some c∧x=.str ⟨#[c]⟩,fun i _=>z.length≤i⟩
theorem xq {P:Mf}{w:Mx}{K:cW}{tg:Expr}(z:Str)(t:Tok)(it:Addr):mt P w K tg (Its z) [it] it (fun i h=>h.IsStrIter it "str_ascii_iterator" z t i)where
 mem:=by simp
 obj:=fun i h st b hb=>by
  have e:b=it:=by simpa using hb
  subst e
  obtain⟨o,e,c,d⟩:=st
  exact⟨o,e,fun v z=>by rw[d]at z;cases z⟩
 keep:=fun i h h' st k=>let ⟨o,ho,r⟩:=st;⟨o,k it (by simp) o ho,r⟩
 item:=by
  intro X hP hw hK hc i pins s σ H E I hf st hg
  subst hP hw hK
  obtain⟨f0,f1,f2,f3,f4,f5⟩:=hf it (by simp)
  have hi:i<z.cps.size:=hg
  refine wpAny_pyNext_ascii_item st (c:=z.cps[i]) (Nf hi) fun h' st' sb=>?_
  have I1:Inv X pins σ H {s with heap:=h',toks:=s.toks+1}:=I.turned (t':=s.toks+1) (fun b o hb e=>(sb.2 b hb).trans e) f0 f1 f3 f4 f5
  obtain⟨o,e,c,d⟩:=id st'
  exact⟨_,rfl,nD (s:={s with heap:=h',toks:=s.toks+1}) e c d (by decide) ⟨.str ⟨#[z.cps[i]]⟩,H,I1,⟨_,rfl⟩,⟨rfl,_,Nf hi,rfl⟩,st',fun b hb=>(hf b hb).1⟩⟩
 done:=by
  intro X hP hw hK hc i pins s σ H E I hf st hg
  subst hP hw hK
  obtain⟨f0,f1,f2,f3,f4,f5⟩:=hf it (by simp)
  exact wpAny_pyNext_ascii_end (I.ok.hd hc) st (Array.getElem?_eq_none (show z.cps.size≤i from hg)) fun h' eb=>⟨rfl,I.turned (t':=s.toks) (fun b o hb e=>eb b o hb e) f0 f1 f3 f4 f5⟩
 self:=fun A i s Q E st h=>by
  refine wpAny_pyIter_slot st.typeIs Qg (NC Qg st.typeIs F.entry_str_ascii_iterator_iter ?_ (F.args_str_ascii_iterator_iter_1 _))
  show wpAny _ _ (ret (.ref it)) _ _ s
  exact LU ⟨_,rfl,"str_ascii_iterator",_,st.typeIs,F.slot_str_ascii_iterator_next.lookup,h⟩
variable {a:Expr}{ta:TE}{tg:Expr}
def jd (K:cW)(tl:TE):TI:=fun σ H R=>tl σ H fun x H1=>match x with
 |.str z=>z.cps.all (·<128)=true∧R (Its z) H1
 |x=>∃a,x=.ref a∧(((∃xs,SqL K H1 a xs)∧R (Itl K a) H1)∨((∃xs,SqT K H1 a xs)∧R (Itt K a) H1))
theorem iI (h:QE X a ta):QI X tg a (jd X.K ta):=⟨fun pins s σ H R I hw=>by
 refine thn (h.out pins s σ H _ I hw) fun v s1 ⟨x,H1,I1,r1,q1⟩=>?_
 cases x with
 |str z=>
  obtain⟨t,rfl⟩:=r1
  refine wpAny_pyIter_ascii q1.1 ?_
  refine⟨s1.heap.objs.size,[s1.heap.objs.size],_,_,H1,rfl,I1.kept (t':=s1.toks) fun b o e=>If _ e,xq z t _,⟨_,Mb _ rfl,rfl,rfl⟩,fun b hb=>?_,q1.2⟩
  have e:b=s1.heap.objs.size:=by simpa using hb
  subst e
  exact I1.fpOk (ah _) (I1.hok.fresh (ah _))
 |ref c=>
  obtain⟨a,e,q⟩:=q1
  cases e
  cases r1
  rcases q with⟨⟨xs,hq⟩,q⟩|⟨⟨xs,hq⟩,q⟩
  ·obtain⟨its,rv,p,hz⟩:=I1.list hq
   refine SN (vP p) ?_
   refine⟨s1.heap.objs.size,[s1.heap.objs.size],_,_,H1,rfl,I1.kept (t':=s1.toks) fun b o e=>If _ e,uD _ _,⟨_,Mb _ rfl,rfl,rfl⟩,fun b hb=>?_,q⟩
   have e:b=s1.heap.objs.size:=by simpa using hb
   subst e
   exact I1.fpOk (ah _) (I1.hok.fresh (ah _))
  ·obtain⟨its,rv,p,hz⟩:=I1.tuple hq
   refine wpAny_pyIter_tuple (show s1.heap.IsTuple c its.toArray from p) ?_
   refine⟨s1.heap.objs.size,[s1.heap.objs.size],_,_,H1,rfl,I1.kept (t':=s1.toks) fun b o e=>If _ e,sQ _ _,⟨_,Mb _ rfl,rfl,rfl⟩,fun b hb=>?_,q⟩
   have e:b=s1.heap.objs.size:=by simpa using hb
   subst e
   exact I1.fpOk (ah _) (I1.hok.fresh (ah _))
 |_=>obtain⟨_,e,_⟩:=q1;cases e⟩
theorem Ax:OpR X (binaryOp .Mult) (fun x y H Q=>∃z n,x=.str z∧y=.int n∧(-1000≤n∧n≤1000∧z.length≤1000)∧Q (.str (Txt.mul z n)) H):=by
 intro pins s σ H x y v u Q I rx ry h
 obtain⟨z,n,rfl,rfl,⟨h1,h2,h3⟩,q⟩:=h
 obtain⟨t,rfl⟩:=rx
 obtain⟨t',rfl⟩:=ry
 refine SB.mul ⟨?_,fun hn _=>?_,fun hn _=>?_⟩ fun t' k=>⟨.str _,H,I.tok k,⟨_,rfl⟩,q⟩
 ·rw[decide_eq_false (by omega),decide_eq_false (by omega)];rfl
 ·intro hgt
  have h5:(1000:Int)≤(2^63- 1)/n:=Int.le_ediv_of_mul_le (by omega) (by omega)
  omega
 ·have h6:z.length*n.toNat≤1000*1000:=Nat.mul_le_mul h3 (by omega)
  exact decide_eq_false (by rw[MF];omega)
end
theorem DM {J:It}{n:Nat}{it:Nat→V}{Pk:Hp→Prop}{g:TG}{tb:TS}{D:eN}{σ:St}{H:Hp}(T:eK J n it Pk)(Pv:Nat→St→Hp→Prop)(h0:Pv 0 σ H)(hl:∀i σ H,i≤n→Pv i σ H→Pk H)
  (hs:∀i σ H,i<n→Pv i σ H→g (it i) σ H fun σ2 H2=>tb {D with nx:=Pv (i+1),ct:=Pv (i+1),bk:=D.nx} σ2 H2)(hd:∀σ H,Pv n σ H→D.nx σ H):
  ∃W:Nat→Nat→St→Hp→Prop,(∃m,W 0 m σ H)∧∀i m σ H,W i m σ H→
   (J.stop i H∧D.nx σ H)∨(J.go i H∧∃N:St→Hp→Prop,(∀σ' H',N σ' H'→∃m',m'<m∧W (i+1) m' σ' H')∧∀x H',J.yld i H x H'→g x σ H' fun σ2 H2=>tb {D with nx:=N,ct:=N,bk:=D.nx} σ2 H2):=by
 refine⟨fun i m σ H=>m=n- i∧i≤n∧Pv i σ H,⟨n,by simp,Md _,h0⟩,?_⟩
 rintro i m σ H ⟨rfl,hi,p⟩
 have q:=hl i σ H hi p
 by_cases hlt:i<n
 ·refine .inr ⟨T.go i H hlt q,Pv (i+1),fun σ' H' p'=>⟨n- (i+1),by omega,rfl,hlt,p'⟩,fun x H' y=>?_⟩
  obtain⟨rfl,rfl⟩:=T.yld i H x H' hlt q y
  exact hs i σ _ hlt p
 ·have e:i=n:=by omega
  subst e
  exact .inl ⟨T.stop H q,hd σ H p⟩
theorem eK.str (z:Str):eK (Its z) z.length (fun i=>.str ⟨#[z.cps.getD i 0]⟩) (fun _=>True)where
 go:=fun i H hi _=>hi
 yld:=fun i H x H' hi _ y=>⟨y.1,by obtain⟨_,c,hc,rfl⟩:=y;simp[NE,hc]⟩
 stop:=fun H _=>ah _
theorem lE {α β:Type}(f:β→α→β)(b:β)(l:List α)(i:Nat)(x:α)(h:l[i]?=some x):(l.take (i+1)).foldl f b=f ((l.take i).foldl f b) x:=by
 rw[SE,h];simp
theorem jx {α β:Type}{f:α→β}{l:List α}{i:Nat}{x:β}(h:(l.map f)[i]?=some x):∃a,l[i]?=some a∧x=f a:=by
 rw[Ml]at h
 cases e:l[i]? with
 |none=>rw[e]at h;cases h
 |some a=>rw[e]at h;cases h;exact⟨a,rfl,rfl⟩
theorem dY.keep {H H':Hp}{f:Addr}{t:da}{cs:List Addr}{cvs:List V}(k:∀b φ,H b=some (.ext φ)→H' b=some (.ext φ))(c:dY H f t cs cvs):dY H' f t cs cvs:=by
 obtain⟨⟨a,h1,h2⟩,h3⟩:=c
 refine⟨⟨a,k _ _ h1,k _ _ h2⟩,?_⟩
 clear h1 h2
 induction h3 with
 |nil=>exact .nil
 |cons r t ih=>exact .cons (k _ _ r) ih
def mV (K:cW)(ns:List Str):Bool:=decide ((ns.map fun n=>(Qc K n).map (·.2)).Nodup)
theorem vJ {l:List Addr}(h:(l.map some).Nodup):l.Nodup:=Ts some (fun a b h e=>h (congrArg some e)) h
section
variable {X:Cx}
def yW:R2:=fun _ _ _ _=>False
theorem Ao:OpR X (binaryOp .Mult) yW:=fun _ _ _ _ _ _ _ _ _ _ _ _ h=>h.elim
def dW:R2:=fun x y H Q=>match x,y with
 |.str z,.int n=>(-1000≤n∧n≤1000∧z.length≤1000)∧Q (.str (Txt.mul z n)) H
 |.ref a,.int n=>yW (.ref a) (.int n) H Q
 |x,y=>xE x y H Q
theorem eL:OpR X (binaryOp .Mult) dW:=(Ax.or (Ao.or Lu)).imp fun x y H Q q=>by
 unfold dW at q
 split at q
 ·exact .inl ⟨_,_,rfl,rfl,q.1,q.2⟩
 ·exact .inr (.inl q)
 ·exact .inr (.inr q)
end
section
variable {X:Cx}
theorem EB:OpR X (compareOp .Is) (fun x y H Q=>∃b c,x=.bl b∧y=.bl c∧Q (.bl (decide (b=c))) H):=by
 intro pins s σ H x y v u Q I rx ry h
 obtain⟨b,c,rfl,rfl,q⟩:=h
 cases rx
 cases ry
 refine wpAny_is_plain (by rfl) (cG I q ?_)
 cases b<;>cases c<;>rfl
def qj:R2:=fun x y H Q=>match x,y with
 |.bl b,.bl c=>Q (.bl (decide (b=c))) H
 |x,y=>vT x y H Q
theorem uZ:OpR X (compareOp .Is) qj:=(EB.or oIs).imp fun x y H Q q=>by
 unfold qj at q
 split at q
 ·exact .inl ⟨_,_,rfl,rfl,q⟩
 ·exact .inr q
end
end L2
namespace HT
open PySem PyProof.Rows
theorem sub_tuple_dict:isSubtype (.type "tuple") (.type "dict")=pure false:=by rw[isSubtype_type];kernel_rfl
theorem lQ:isSubtype (.type "dict") (.type "tuple")=pure false:=by rw[isSubtype_type];kernel_rfl
theorem ss (l b:Addr)(o:Obj)(hc:o.cls=.type "dict")(o2:Obj)(hc2:o2.cls=.type "tuple"):
  Meets (PV.«dict.__eq__» ⟨[.ref l,.ref b],[]⟩) (fun _ R s=>s.heap.get? l=some o∧s.heap.get? b=some o2∧R (.ok (.ret .notImplemented)) s):=
 .of_wp fun prog w A R s h=>by
  obtain⟨hp,g,d,tk,os⟩:=s;obtain⟨hl,hb,h⟩:=h;obtain⟨cls,dd,data,sl⟩:=o;obtain⟨cls2,dd2,data2,sl2⟩:=o2
  simp only at hc hc2;subst hc hc2
  have f1:=sub_tuple_dict;wp_walk using Pw hl,Pw hb;exact⟨_,rfl,h⟩
theorem qo (l b:Addr)(o:Obj)(hc:o.cls=.type "tuple")(o2:Obj)(hc2:o2.cls=.type "dict"):
  Meets (PV.«tuple.__eq__» ⟨[.ref l,.ref b],[]⟩) (fun _ R s=>s.heap.get? l=some o∧s.heap.get? b=some o2∧R (.ok (.ret .notImplemented)) s):=
 .of_wp fun prog w A R s h=>by
  obtain⟨hp,g,d,tk,os⟩:=s;obtain⟨hl,hb,h⟩:=h;obtain⟨cls,dd,data,sl⟩:=o;obtain⟨cls2,dd2,data2,sl2⟩:=o2
  simp only at hc hc2;subst hc hc2
  have f1:=lQ;wp_walk using Pw hl,Pw hb;exact⟨_,rfl,h⟩
end HT
namespace L2
open PySem PySem.Spec PyProof.Rows
section
variable {X:Cx}
def yH (K:cW):R2:=fun x y H Q=>∃a b ys,x=.ref a∧y=.ref b∧((∃kvs,H a=some (.dK kvs))∨∃kvs,H a=some (.dT kvs))∧SqT K H b ys∧Q (.bl false) H
theorem Ak (hu:X.A.units<cLine):OpR X (compareOp .Eq) (yH X.K):=by
 intro pins s σ H x y v u Q I rx ry h
 obtain⟨a,b,ys,rfl,rfl,ha,hb,q⟩:=h
 cases rx
 cases ry
 obtain⟨its,_,p1,_⟩:=I.tuple hb
 obtain⟨o2,ho2,hc2,_⟩:=id p1
 obtain⟨o,ho,hc⟩:∃o,s.heap.get? a=some o∧o.cls=.type "dict":=by
  rcases ha with⟨kvs,e⟩|⟨kvs,e⟩
  ·obtain⟨_,_,_,_,o,_,_,h1,h2,_⟩:=(show bh X.prog X.w H s.heap a (.dK kvs)from I.hok a _ e)
   exact⟨o,h1,h2.1⟩
  ·obtain⟨_,_,_,_,o,_,_,h1,h2,_⟩:=(show bh X.prog X.w H s.heap a (.dT kvs)from I.hok a _ e)
   exact⟨o,h1,h2.1⟩
 have hne:a≠b:=fun e=>by
  subst e
  rw[ho]at ho2;cases ho2
  rw[hc]at hc2;exact absurd hc2 (by simp)
 show wpAny _ _ (richCompare .Eq (.ref a) (.ref b)) _ _ s
 exact SeqAt.rc_eq_decline_or (k:=false) ⟨_,ho,hc⟩ ⟨_,ho2,hc2⟩ (by decide) F.sub_tuple_dict F.slot_dict_eq RL
  (fun _ hq=>SX F.slot_dict_eq ⟨_,ho,hc⟩ F.entry_dict_eq (F.args_dict_eq_2 _ _) (HT.ss a b o hc o2 hc2) ⟨ho,ho2,hq⟩)
  (fun _ hq=>SX RL ⟨_,ho2,hc2⟩ F.entry_tuple_eq (F.args_tuple_eq_2 _ _) (HT.qo b a o2 hc2 o hc) ⟨ho2,ho,hq⟩)
  (fun _ hq=>wpAny_isSame_ref_other hne ho ho2 (by rw[hc];simp) hq) (.inr hu) ⟨.bl false,H,I,rfl,q⟩
def cn (K:cW):R2:=fun x y H Q=>match x,y with
 |.ref a,.ref b=>BS K (.ref a) (.ref b) H Q∨rV K (.ref a) (.ref b) H Q∨yH K (.ref a) (.ref b) H Q
 |.ref a,y=>rV K (.ref a) y H Q
 |x,.ref b=>rV K x (.ref b) H Q
 |x,y=>mEq x y H Q
theorem cA (hu:X.A.units+150<cLine):OpR X (compareOp .Eq) (cn X.K):=((Cp (by omega)).or ((DA hu).or ((Ak (by omega)).or oEq))).imp fun x y H Q q=>by
 unfold cn at q
 split at q
 ·exact q.elim .inl fun z=>z.elim (fun z=>.inr (.inl z)) fun z=>.inr (.inr (.inl z))
 ·exact .inr (.inl q)
 ·exact .inr (.inl q)
 ·exact .inr (.inr (.inr q))
end
section
variable {X:Cx}{a:Expr}{t:TA}{p pos:Pos}{tg:Expr}
theorem xQ:OpR X (binaryOp .FloorDiv) (rI (fun _ j=>0<j∧j<1267650600228229401496703205376) fun i j=>.int (i/j)):=opI fun i j _ _ _ _ _ hc q=>by
 have h1:(0:Int)<j:=hc.1
 have h2:j<1267650600228229401496703205376:=hc.2
 have h3:j.natAbs.log2<100:=(RE (by omega)).mpr (Nat.lt_of_lt_of_eq (m:=1267650600228229401496703205376) (by omega) (by decide))
 exact floordiv_int (by omega) (by rw[Qw i (by omega)];exact q) (.inl (PyProof.noPylong_of_log2 (by omega)))
def cJ:R2:=fun x y H Q=>match x,y with|.int i,.int j=>(0<j∧j<1267650600228229401496703205376)∧Q (.int (i/j)) H|_,_=>False
theorem dB:OpR X (binaryOp .FloorDiv) cJ:=xQ.imp fun x y H Q q=>by
 unfold cJ at q
 split at q
 ·exact⟨_,_,rfl,rfl,q.1,q.2⟩
 ·exact q.elim
end
section
variable {α:Type}{l:List α}
theorem yy (h:l.length=0):l=[]:=Nu.mp h
theorem dJ (h:l.length=1):∃a0,l=[a0]:=by
 cases l with
 |nil=>simp at h
 |cons a l=>
  obtain rfl:=yy (l:=l) (by simpa using h)
  exact⟨a,rfl⟩
theorem yK (h:l.length=2):∃a0 a1,l=[a0,a1]:=by
 cases l with
 |nil=>simp at h
 |cons a l=>
  obtain⟨b0,rfl⟩:=dJ (l:=l) (by simpa using h)
  exact⟨a,b0,rfl⟩
theorem yB (h:l.length=3):∃a0 a1 a2,l=[a0,a1,a2]:=by
 cases l with
 |nil=>simp at h
 |cons a l=>
  obtain⟨b0,b1,rfl⟩:=yK (l:=l) (by simpa using h)
  exact⟨a,b0,b1,rfl⟩
theorem zi (h:l.length=4):∃a0 a1 a2 a3,l=[a0,a1,a2,a3]:=by
 cases l with
 |nil=>simp at h
 |cons a l=>
  obtain⟨b0,b1,b2,rfl⟩:=yB (l:=l) (by simpa using h)
  exact⟨a,b0,b1,b2,rfl⟩
theorem zh (h:l.length=5):∃a0 a1 a2 a3 a4,l=[a0,a1,a2,a3,a4]:=by
 cases l with
 |nil=>simp at h
 |cons a l=>
  obtain⟨b0,b1,b2,b3,rfl⟩:=zi (l:=l) (by simpa using h)
  exact⟨a,b0,b1,b2,b3,rfl⟩
theorem Gi (h:l.length=6):∃a0 a1 a2 a3 a4 a5,l=[a0,a1,a2,a3,a4,a5]:=by
 cases l with
 |nil=>simp at h
 |cons a l=>
  obtain⟨b0,b1,b2,b3,b4,rfl⟩:=zh (l:=l) (by simpa using h)
  exact⟨a,b0,b1,b2,b3,b4,rfl⟩
end
theorem aU.le {A:Mn}{m n:Nat}(h:aU m A)(d:n≤m:=by first|decide|omega):aU n A:=h.mono d
theorem scF {N P:List Str}{sc:Scope}(h1:sc.kind=.function:=by rfl)(h2:sc.isCoroutine=false:=by rfl)(h3:sc.isGenerator=false:=by rfl)(h4:N.Nodup:=by decide+kernel)(h5:N.take P.length=P:=by rfl)
 (h6:∀x∈P,sc.names.lookup x=some .local∨sc.names.lookup x=some .cell:=by decide+kernel)(h7:∀y∈sc.names,y.2≠.free:=by decide+kernel):aw N P sc:=⟨h1,h2,h3,h4,h5,h6,h7⟩
structure Fm (K:cW)(mg:Str→Option pv)(x qual:Str)(st:Stmt)(a:Addr)(d:LM)(ps:List Str):Prop where
 f:Fun K x qual st a d
 m:mg x=some (.ref a)
 b:aH K d ps []
structure Fa (K:cW)(x qual:Str)(st:Stmt)(a:Addr)(d:LM):Prop where
 m:Nb K mainGlobals x=some (some (.ref a))
 f:Fun K x qual st a d
section
variable {P:Mf}{w:Mx}{K:cW}{mg:Str→Option pv}{base h:Heap}{x qual:Str}{st:Stmt}{a:Addr}{d:LM}{ps:List Str}
theorem bu {oc:pv}{od an:Option Addr}{osl:Array (Option pv)}{kV doc pm cdv ct:pv}(m:Nb K mainGlobals x=some (some (.ref a)))(l:K.lookup a=some ⟨oc,od,.func (NR x qual (bT st) (aO st) (ai st) .none kV doc pm an cdv ct),osl⟩)
 (c:Si K cdv qual=true)(k:NF K (.ref a)=true):Fa K x qual st a (NR x qual (bT st) (aO st) (ai st) .none kV doc pm an cdv ct):=⟨m,aS l c k⟩
theorem Fa.code (F:Fa K x qual st a d)(X:K.In h)(G:h.Ns mainGlobals mg){z t:Addr}(ht:Qc K x=some (z,t)):d.code=.ref z:=by
 obtain⟨oc,od,kV,doc,pm,an,cdv,ct,osl,e,lk,hcd⟩:=F.f.ex
 exact W.law_code X G ht (MW X G F.m) (X _ _ lk) rfl
theorem Fun.bt {p:Str}(F:Fun K x qual st a d)(hb:∀(kV doc pm:pv)(an:Option Addr)(cdv ct v:pv),bindArgs (NR x qual (bT st) (aO st) (ai st) .none kV doc pm an cdv ct) ⟨[v],[]⟩=pure [(p,v)]:=by intros;rfl)(s:wr)(v:pv):RA s d ⟨[v],[]⟩ [(p,v)]:=by
 obtain⟨oc,od,kV,doc,pm,an,cdv,ct,osl,rfl,lk,hcd⟩:=F.ex
 exact .of_eq (hb kV doc pm an cdv ct v)
theorem Fun.b0 (F:Fun K x qual st a d)(hb:∀(kV doc pm:pv)(an:Option Addr)(cdv ct:pv),bindArgs (NR x qual (bT st) (aO st) (ai st) .none kV doc pm an cdv ct) ⟨[],[]⟩=pure (NN [] []):=by intros;rfl):aH K d [] []:=F.binds fun kV doc pm an cdv ct us hl=>by
 obtain rfl:=L2.yy hl
 exact hb kV doc pm an cdv ct
theorem Fa.fm0 (F:Fa K x qual st a d)(X:K.In h)(G:h.Ns mainGlobals mg)(hb:∀(kV doc pm:pv)(an:Option Addr)(cdv ct:pv),bindArgs (NR x qual (bT st) (aO st) (ai st) .none kV doc pm an cdv ct) ⟨[],[]⟩=pure (NN [] []):=by intros;rfl):Fm K mg x qual st a d []:=⟨F.f,MW X G F.m,F.f.b0 hb⟩
theorem Fun.b1 {p0:Str}(F:Fun K x qual st a d)(hb:∀(kV doc pm:pv)(an:Option Addr)(cdv ct u0:pv),bindArgs (NR x qual (bT st) (aO st) (ai st) .none kV doc pm an cdv ct) ⟨[u0],[]⟩=pure (NN [p0] [u0]):=by intros;rfl):aH K d [p0] []:=F.binds fun kV doc pm an cdv ct us hl=>by
 obtain⟨u0,rfl⟩:=L2.dJ hl
 exact hb kV doc pm an cdv ct u0
theorem Fa.fm1 {p0:Str}(F:Fa K x qual st a d)(X:K.In h)(G:h.Ns mainGlobals mg)(hb:∀(kV doc pm:pv)(an:Option Addr)(cdv ct u0:pv),bindArgs (NR x qual (bT st) (aO st) (ai st) .none kV doc pm an cdv ct) ⟨[u0],[]⟩=pure (NN [p0] [u0]):=by intros;rfl):Fm K mg x qual st a d [p0]:=⟨F.f,MW X G F.m,F.f.b1 hb⟩
theorem Fun.b2 {p0 p1:Str}(F:Fun K x qual st a d)(hb:∀(kV doc pm:pv)(an:Option Addr)(cdv ct u0 u1:pv),bindArgs (NR x qual (bT st) (aO st) (ai st) .none kV doc pm an cdv ct) ⟨[u0,u1],[]⟩=pure (NN [p0,p1] [u0,u1]):=by intros;rfl):aH K d [p0,p1] []:=F.binds fun kV doc pm an cdv ct us hl=>by
 obtain⟨u0,u1,rfl⟩:=L2.yK hl
 exact hb kV doc pm an cdv ct u0 u1
theorem Fa.fm2 {p0 p1:Str}(F:Fa K x qual st a d)(X:K.In h)(G:h.Ns mainGlobals mg)(hb:∀(kV doc pm:pv)(an:Option Addr)(cdv ct u0 u1:pv),bindArgs (NR x qual (bT st) (aO st) (ai st) .none kV doc pm an cdv ct) ⟨[u0,u1],[]⟩=pure (NN [p0,p1] [u0,u1]):=by intros;rfl):Fm K mg x qual st a d [p0,p1]:=⟨F.f,MW X G F.m,F.f.b2 hb⟩
theorem Fun.b3 {p0 p1 p2:Str}(F:Fun K x qual st a d)(hb:∀(kV doc pm:pv)(an:Option Addr)(cdv ct u0 u1 u2:pv),bindArgs (NR x qual (bT st) (aO st) (ai st) .none kV doc pm an cdv ct) ⟨[u0,u1,u2],[]⟩=pure (NN [p0,p1,p2] [u0,u1,u2]):=by intros;rfl):aH K d [p0,p1,p2] []:=F.binds fun kV doc pm an cdv ct us hl=>by
 obtain⟨u0,u1,u2,rfl⟩:=L2.yB hl
 exact hb kV doc pm an cdv ct u0 u1 u2
theorem Fa.fm3 {p0 p1 p2:Str}(F:Fa K x qual st a d)(X:K.In h)(G:h.Ns mainGlobals mg)(hb:∀(kV doc pm:pv)(an:Option Addr)(cdv ct u0 u1 u2:pv),bindArgs (NR x qual (bT st) (aO st) (ai st) .none kV doc pm an cdv ct) ⟨[u0,u1,u2],[]⟩=pure (NN [p0,p1,p2] [u0,u1,u2]):=by intros;rfl):Fm K mg x qual st a d [p0,p1,p2]:=⟨F.f,MW X G F.m,F.f.b3 hb⟩
theorem Fun.b4 {p0 p1 p2 p3:Str}(F:Fun K x qual st a d)(hb:∀(kV doc pm:pv)(an:Option Addr)(cdv ct u0 u1 u2 u3:pv),bindArgs (NR x qual (bT st) (aO st) (ai st) .none kV doc pm an cdv ct) ⟨[u0,u1,u2,u3],[]⟩=pure (NN [p0,p1,p2,p3] [u0,u1,u2,u3]):=by intros;rfl):aH K d [p0,p1,p2,p3] []:=F.binds fun kV doc pm an cdv ct us hl=>by
 obtain⟨u0,u1,u2,u3,rfl⟩:=L2.zi hl
 exact hb kV doc pm an cdv ct u0 u1 u2 u3
theorem Fa.fm4 {p0 p1 p2 p3:Str}(F:Fa K x qual st a d)(X:K.In h)(G:h.Ns mainGlobals mg)(hb:∀(kV doc pm:pv)(an:Option Addr)(cdv ct u0 u1 u2 u3:pv),bindArgs (NR x qual (bT st) (aO st) (ai st) .none kV doc pm an cdv ct) ⟨[u0,u1,u2,u3],[]⟩=pure (NN [p0,p1,p2,p3] [u0,u1,u2,u3]):=by intros;rfl):Fm K mg x qual st a d [p0,p1,p2,p3]:=⟨F.f,MW X G F.m,F.f.b4 hb⟩
theorem Fun.b5 {p0 p1 p2 p3 p4:Str}(F:Fun K x qual st a d)(hb:∀(kV doc pm:pv)(an:Option Addr)(cdv ct u0 u1 u2 u3 u4:pv),bindArgs (NR x qual (bT st) (aO st) (ai st) .none kV doc pm an cdv ct) ⟨[u0,u1,u2,u3,u4],[]⟩=pure (NN [p0,p1,p2,p3,p4] [u0,u1,u2,u3,u4]):=by intros;rfl):aH K d [p0,p1,p2,p3,p4] []:=F.binds fun kV doc pm an cdv ct us hl=>by
 obtain⟨u0,u1,u2,u3,u4,rfl⟩:=L2.zh hl
 exact hb kV doc pm an cdv ct u0 u1 u2 u3 u4
theorem Fa.fm5 {p0 p1 p2 p3 p4:Str}(F:Fa K x qual st a d)(X:K.In h)(G:h.Ns mainGlobals mg)(hb:∀(kV doc pm:pv)(an:Option Addr)(cdv ct u0 u1 u2 u3 u4:pv),bindArgs (NR x qual (bT st) (aO st) (ai st) .none kV doc pm an cdv ct) ⟨[u0,u1,u2,u3,u4],[]⟩=pure (NN [p0,p1,p2,p3,p4] [u0,u1,u2,u3,u4]):=by intros;rfl):Fm K mg x qual st a d [p0,p1,p2,p3,p4]:=⟨F.f,MW X G F.m,F.f.b5 hb⟩
theorem Fun.b6 {p0 p1 p2 p3 p4 p5:Str}(F:Fun K x qual st a d)(hb:∀(kV doc pm:pv)(an:Option Addr)(cdv ct u0 u1 u2 u3 u4 u5:pv),bindArgs (NR x qual (bT st) (aO st) (ai st) .none kV doc pm an cdv ct) ⟨[u0,u1,u2,u3,u4,u5],[]⟩=pure (NN [p0,p1,p2,p3,p4,p5] [u0,u1,u2,u3,u4,u5]):=by intros;rfl):aH K d [p0,p1,p2,p3,p4,p5] []:=F.binds fun kV doc pm an cdv ct us hl=>by
 obtain⟨u0,u1,u2,u3,u4,u5,rfl⟩:=L2.Gi hl
 exact hb kV doc pm an cdv ct u0 u1 u2 u3 u4 u5
theorem Fa.fm6 {p0 p1 p2 p3 p4 p5:Str}(F:Fa K x qual st a d)(X:K.In h)(G:h.Ns mainGlobals mg)(hb:∀(kV doc pm:pv)(an:Option Addr)(cdv ct u0 u1 u2 u3 u4 u5:pv),bindArgs (NR x qual (bT st) (aO st) (ai st) .none kV doc pm an cdv ct) ⟨[u0,u1,u2,u3,u4,u5],[]⟩=pure (NN [p0,p1,p2,p3,p4,p5] [u0,u1,u2,u3,u4,u5]):=by intros;rfl):Fm K mg x qual st a d [p0,p1,p2,p3,p4,p5]:=⟨F.f,MW X G F.m,F.f.b6 hb⟩
theorem Fun.okS {CX:CXT}{N:List Str}{k:Nat}{sp:Sp}{t:TS}(F:Fun K x qual st a d)(S:aw N ps (ai st))(len:∀vs H Q E,sp vs H Q E→vs.length=ps.length)
  (hrd:∀(vs:List V)(H:Hp)(Q:VK)(E:XK),sp vs H Q E→t {nx:=fun _ H'=>Q .non H',rt:=Q} (start N vs) H)
  (hq:∀(cdv:pv)(A:Mn)(outer:List Env)(s:wr)(H:Hp)(E:XK),aU k (A.deeper (envOfC qual (ai st) s.heap.objs.size a cdv))→QSs (cH CX P w K mg base N qual (ai st) a cdv A outer s H E).nox (aO st) t):aB P w K mg base CX (k+1) a d ps sp:=
 F.okN S len fun cdv A outer s H vs Q E hr h=>⟨t,(hq cdv A outer s H E hr).out,hrd vs H Q E h⟩
end
section
variable {X:Cx}{x q:Str}{e:Expr}{es:List Expr}{t:TA}{p pos:Pos}{st:Stmt}{f:Addr}{fd:LM}{ps:List Str}{k:Nat}{sp:Sp}
theorem aY {P:Mf}{w:Mx}(F:aB X.prog X.w X.K X.mg X.base (CX1 P w) k f fd ps sp)(hr:aU k X.A)(M:Fm X.K X.mg x q st f fd ps)
 (ha:QA X (e::es) t)(hg:Gl X x:=by rfl)(hdb:(x==("__debug__":Str))=false:=by decide)(hs:bn (e::es)=true:=by rfl):QE X (.Call (.Name x p) (e::es) [] pos) (aA sp (fun _=>E0) t):=zH F hr M.m M.f.kp M.b aC ha hg hdb hs
end
def qf (ks:ip)(C:Addr)(m:Str)(E:St→XK)(ta:TE)(t:TA):TE:=fun σ H Q=>ta σ H fun x H1=>∃a dx fs f,x=.ref a∧H1 a=some (.ins C dx fs)∧fs.lookup m=some (.ref f)∧(∃ts∈ks,∃cs cvs,dY H1 f ts.1 cs cvs)∧t σ H1 fun vs H2=>sI ks f vs H2 Q (E σ)
section
variable {X:Cx}{pins:List (Addr×Obj)}{σ:St}{H:Hp}{s:wr}{A:Mn}{E:pv→wr→Prop}{a C dx:Addr}{fs:List (Str×V)}{v:V}
theorem sO {m:Str}{pl:Sem Bool}{Q:pv×List pv→wr→Prop}(I:Inv X pins σ H s)(e:H a=some (.ins C dx fs))(c:Cls X.K C)(n:ba X.K C m)(l:fs.lookup m=some v)
  (h:∀u s',Inv X pins σ H s'→aJ v u→Q (u,[]) s'):wpAny (model X.prog X.w) A (getMethod (.ref a) m pl) Q E s:=by
 obtain⟨mA,O,r,_,_,_⟩:=fM I.hok e
 obtain⟨od,J,hl⟩:=O.look
 exact W.method_usual (r:=none) I.kIn J (Pg (c.get m)).1 (Pg (c.get m)).2 n rfl (kD I e c n l h)
end
section
variable {X:Cx}{k:Nat}{C:Addr}{E:St→XK}{m:Str}{pos apos:Pos}{e o:Expr}{es:List Expr}{ta:TE}{t:TA}
theorem qI {pl:Sem Bool}{ks:ip}(hk:lM X.prog X.w X.K X.mg X.base k ks)(hr:aU k X.A)(hx:de (CX1 X.prog X.w) X E)(he:QE X o ta)(c:Cls X.K C)(n:ba X.K C m)(ha:QA X (e::es) t)
  (hs:bn (e::es)=true:=by rfl)
  (ht:eval (.Call (.Attribute o m apos) (e::es) [] pos) X.env=(do
   let ov←eval o X.env
   standAt apos.atName
   let (f,first)←holding [ov] (getMethod ov m pl)
   callWith pos f first (backTo pos (starEach (e::es) X.env)) (backToKw pos (keywordEach [] X.env))):=by rfl):
  QE X (.Call (.Attribute o m apos) (e::es) [] pos) (qf ks C m E ta t):=⟨fun pins s σ H Q I h=>by
 have h':(bZ e&&bn es)=true:=hs
 refine OE (pl:=pl) (thn (he.out pins s σ H _ I h) fun u s1 ⟨x,H1,I1,rx,a,dx,fs,f,ex,ea,l,⟨ts,hts,cs,cvs,ca⟩,q⟩=>?_) ht
 subst ex
 obtain rfl:u=LK a:=rx
 refine sO I1 ea c n l fun w s2 I2 rw2=>?_
 obtain rfl:w=LK f:=rw2
 refine W.callWith_F (lH I2.hok ca) (thn (ha.out pos pins s2 σ H1 _ I2 q) fun us s3 ⟨vs,H2,I3,rv,ts2,hm2,cs2,cvs2,ca2,hl,hsp⟩=>⟨lH I3.hok ca2,?_⟩)
  (aX (LO.mp h').1 es X.env) (cg (LO.mp h').2)
 refine Rr (Ov ((hk ts2 hm2).run X.A X.stack s3 H2 f cs2 us vs cvs2 Q (E σ) hr I3.env0 ca2 rv hl hsp) fun r s' hq=>?_)
 cases r with
 |error e=>exact hx pins σ H2 s3 e s' I3 hq
 |ok fl=>
  cases fl with
  |ret u=>exact I3.after hq
  |next=>exact Mq hq
  |brk=>exact Mq hq
  |cont=>exact Mq hq⟩
end
def gi (L:List (Addr×Sp))(m:Str)(E:St→XK)(ta:TE)(t:TA):TE:=fun σ H Q=>ta σ H fun x H1=>∃a C dx fs sp,x=.ref a∧H1 a=some (.ins C dx fs)∧(C,sp)∈L∧fs.lookup m=none∧t σ H1 fun vs H2=>sp (x::vs) H2 Q (E σ)
def MD (X:Cx)(m:Str)(E:St→XK)(p:Addr×Sp):Prop:=∃CX k f fd ps,Cls X.K p.1∧bO X.K p.1 m f∧aB X.prog X.w X.K X.mg X.base CX k f fd ps p.2∧aU k X.A∧aH X.K fd ps []∧de CX X E
structure yX (K:cW)(C:Addr)(m:Str)(f:Addr):Prop where
 ga:PF K (.ref C) "__getattribute__"=some (some (.builtin "type.__getattribute__"))
 rd:W.readsIn K C (.type "type")=true
 at_:W.findCls K (.ref C) (.type "type") m=some (.val (.ref f))
 ho:QY (.ref f)=true
 kp:NF K (.ref f)=true
structure kU (K:cW)(C:Addr):Prop where
 cl:LL K (.ref C) "__class__"=some (some (.builtin "object.__class__"))
 gt:PF K (.builtin "object.__class__") "__get__"=some (some (.builtin "getset_descriptor.__get__"))
 tk:SY K (.builtin "object.__class__")=some true
 mo:Ms K C (.type "object")=some true
section
variable {X:Cx}{CX:CXT}{k:Nat}{f C:Addr}{fd:LM}{ps:List Str}{sp:Sp}{E:St→XK}{x m:Str}{p pos apos:Pos}{e:Expr}{es:List Expr}{t u:TE}{ta:TA}
theorem mdn {L:List (Addr×Sp)}(h:L=[]):∀p∈L,MD X m E p:=fun p hp=>by subst h;cases hp
theorem mdc {L:List (Addr×Sp)}(c:Cls X.K C)(hm:bO X.K C m f)(F:aB X.prog X.w X.K X.mg X.base CX k f fd ps sp)(hr:aU k X.A)(hb:aH X.K fd ps [])(hx:de CX X E)(h:∀p∈L,MD X m E p):∀p∈(C,sp)::L,MD X m E p:=fun p hp=>by
 rcases gV.mp hp with rfl|hp
 ·exact⟨_,_,_,_,_,c,hm,F,hr,hb,hx⟩
 ·exact h p hp
theorem fS {L:List (Addr×Sp)}{o:Expr}{to:TE}{pl:Sem Bool}(he:QE X o to)(hL:∀p∈L,MD X m E p)(ha:QA X (e::es) ta)(hs:bn (e::es)=true:=by rfl)
  (ht:eval (.Call (.Attribute o m apos) (e::es) [] pos) X.env=(do
   let ov←eval o X.env
   standAt apos.atName
   let (f,first)←holding [ov] (getMethod ov m pl)
   callWith pos f first (backTo pos (starEach (e::es) X.env)) (backToKw pos (keywordEach [] X.env))):=by rfl):
  QE X (.Call (.Attribute o m apos) (e::es) [] pos) (gi L m E to ta):=⟨fun pins s σ H Q I h=>by
 have h':(bZ e&&bn es)=true:=hs
 refine OE (pl:=pl) (thn (he.out pins s σ H _ I h) fun u s1 ⟨x,H1,I1,rx,a,C,dx,fs,sp,ex,ea,hC,l,q⟩=>?_) ht
 subst ex
 obtain rfl:u=LK a:=rx
 obtain⟨CX,k,f,fd,ps,c,hm,F,hr,hb,hx⟩:=hL _ hC
 refine io I1 ea c hm l ?_
 refine Pr (first:=[.ref a]) (h₀:=X.base) I.ok.mod.kin hm.kp (thn (ha.out pos pins s1 σ H1 _ I1 q) fun us s2 ⟨vs,H2,I2,r,q2⟩=>⟨I2.kIn,?_⟩)
  (aX (LO.mp h').1 es X.env) (cg (LO.mp h').2)
 exact fO (us:=.ref a::us) (vs:=.ref a::vs) F hr hb hx I2 (.cons rfl r) q2⟩
theorem qe {pl:Sem Bool}(hm:X.mg x=some (.ref C))(c:yX X.K C m f)(F:aB X.prog X.w X.K X.mg X.base CX k f fd ps sp)(hr:aU k X.A)(hb:aH X.K fd ps [])(hx:de CX X E)(ha:QA X (e::es) ta)
  (hg:Gl X x:=by rfl)(hd:(x==("__debug__":Str))=false:=by decide)(hs:bn (e::es)=true:=by rfl)
  (ht:eval (.Call (.Attribute (.Name x p) m apos) (e::es) [] pos) X.env=(do
   let ov←eval (.Name x p) X.env
   standAt apos.atName
   let (f,first)←holding [ov] (getMethod ov m pl)
   callWith pos f first (backTo pos (starEach (e::es) X.env)) (backToKw pos (keywordEach [] X.env))):=by rfl):
  QE X (.Call (.Attribute (.Name x p) m apos) (e::es) [] pos) (aA sp E ta):=⟨fun pins s σ H Q I h=>by
 have h':(bZ e&&bn es)=true:=hs
 refine OE (pl:=pl) (thn ((mj (v:=.ref C) hg hm rfl hd) pins s σ H (fun v H1=>v=.ref C∧H1=H) I ⟨rfl,rfl⟩) fun u s1 ⟨v,H1,I1,rv,ev,eH⟩=>?_) ht
 subst ev eH
 obtain rfl:u=LK C:=rv
 refine W.method_cls I1.kIn c.ga (W.cls_value I1.kIn c.rd c.at_ c.ho ?_)
 refine Pr (first:=[]) (h₀:=X.base) I.ok.mod.kin c.kp (thn (ha.out pos pins _ σ H1 _ (I1.tok _) h) fun us s2 ⟨vs,H2,I2,r,q2⟩=>⟨I2.kIn,?_⟩)
  (aX (LO.mp h').1 es X.env) (cg (LO.mp h').2)
 exact fO F hr hb hx I2 r q2⟩
def zE (K:cW):List V→Hp→VK→Prop:=fun xs H Q=>∃a C dx fs D b,xs=[.ref a,.ref D]∧H a=some (.ins C dx fs)∧Cls K C∧kU K C∧Oy K (.ref C) (.ref D)=some b∧Q (.bl b) H
theorem Il:bI X (.builtin "isinstance") (zE X.K):=fun pins s σ H xs us Q I r h=>by
 obtain⟨a,C,dx,fs,D,b,rfl,ha,hC,G,hk,q⟩:=h
 obtain⟨u,w',rfl,r1,r2⟩:=oR r
 cases (show w'=LK D from r2)
 cases (show u=LK a from r1)
 obtain⟨mA,O,_,_,_,_⟩:=fM I.hok ha
 obtain⟨od,IA,_⟩:=O.look
 exact NQ (W.kitx_own (hC.get _) hC.hd G.cl G.gt G.tk G.mo) I.kIn IA hk (fun z=>nomatch z) fun tk=>⟨.bl _,H,I.tok tk,rfl,q⟩
end
end L2
namespace L2
open PySem PySem.Spec PyProof.Rows PySem.W
def bB {α:Type}(c:Nat→Nat→Bool)(n:Nat):KasT α→(α→Prop)→Prop
 |.ret a,Q=>Q a
 |.ask i j k,Q=>i<n∧j<n∧i≠j∧bB c n (k (c i j)) Q
theorem bB.bind {α β:Type}{c:Nat→Nat→Bool}{n:Nat}{f:α→KasT β}{Q:β→Prop}:∀{t:KasT α},bB c n t (fun a=>bB c n (f a) Q)→bB c n (t.bind f) Q
 |.ret _,h=>h
 |.ask _ _ _,h=>⟨h.1,h.2.1,h.2.2.1,bB.bind h.2.2.2⟩
theorem bB.mono {α:Type}{c:Nat→Nat→Bool}{n:Nat}{Q Q':α→Prop}(q:∀a,Q a→Q' a):∀{t:KasT α},bB c n t Q→bB c n t Q'
 |.ret _,h=>q _ h
 |.ask _ _ _,h=>⟨h.1,h.2.1,h.2.2.1,bB.mono q h.2.2.2⟩
section
variable {key:Nat→Int}{n:Nat}
structure Pm (n:Nat)(p:Array Nat):Prop where
 sz:p.size=n
 pm:p.toList.Perm (Ny n)
def at' (p:Array Nat)(i:Nat):Nat:=p.getD i 0
theorem fo {p:Array Nat}{i:Nat}(h:i<p.size):p[i]?=some (at' p i):=by
 unfold at';rw[NE,Nf h];rfl
theorem oQ {p:Array Nat}{i x:Nat}(h:p[i]?=some x):at' p i=x:=by
 unfold at';rw[NE,h];rfl
theorem Pm.lt {p:Array Nat}(h:Pm n p){i:Nat}(hi:i<n):at' p i<n:=by
 have e:=fo (p:=p) (i:=i) (by rw[h.sz];exact hi)
 have m:at' p i∈p.toList:=Ma (by rw[ND];exact e)
 exact Oc.mp (h.pm.mem_iff.mp m)
theorem Pm.ne {p:Array Nat}(h:Pm n p){i j:Nat}(hi:i<n)(hj:j<n)(d:i≠j):at' p i≠at' p j:=fun e=>by
 have nd:p.toList.Nodup:=h.pm.nodup_iff.mpr List.nodup_range
 have e1:=fo (p:=p) (i:=i) (by rw[h.sz];exact hi)
 have e2:=fo (p:=p) (i:=j) (by rw[h.sz];exact hj)
 rw[e,←e2,←ND,←ND]at e1
 exact d ((List.getElem?_inj (by rw[Nr,h.sz];exact hi) nd).mp e1)
theorem Pm.of {p q:Array Nat}(h:Pm n p)(e:q.Perm p):Pm n q:=⟨by rw[e.size_eq];exact h.sz,(Array.perm_iff_toList_perm.mp e).trans h.pm⟩
def Up (key:Nat→Int)(p:Array Nat)(m:Nat):Prop:=∀i j,i<j→j<m→key (at' p i)<key (at' p j)
abbrev cK (key:Nat→Int):Nat→Nat→Bool:=fun i j=>decide (key i<key j)
theorem bB.ask {α:Type}{i j:Nat}{k:Bool→KasT α}{Q:α→Prop}(hi:i<n)(hj:j<n)(hd:i≠j)(h1:key i<key j→bB (cK key) n (k true) Q)(h2:¬key i<key j→bB (cK key) n (k false) Q):bB (cK key) n (.ask i j k) Q:=by
 refine⟨hi,hj,hd,?_⟩
 show bB (cK key) n (k (decide (key i<key j))) Q
 by_cases c:key i<key j
 ·rw[decide_eq_true c];exact h1 c
 ·rw[decide_eq_false c];exact h2 c
theorem kT {α:Type}{a b:KasT α}{Q:α→Prop}(h:bB (cK key) n a Q):bB (cK key) n (if true=true then a else b) Q:=h
theorem kF {α:Type}{a b:KasT α}{Q:α→Prop}(h:bB (cK key) n b Q):bB (cK key) n (if false=true then a else b) Q:=h
variable (inj:∀i j,i<n→j<n→key i=key j→i=j)
include inj
theorem rp {p:Array Nat}(h:Pm n p){i j:Nat}(hi:i<n)(hj:j<n)(d:i≠j)(c:¬key (at' p i)<key (at' p j)):key (at' p j)<key (at' p i):=by
 have:key (at' p i)≠key (at' p j):=fun z=>h.ne hi hj d (inj _ _ (h.lt hi) (h.lt hj) z)
 omega
theorem iT {p:Array Nat}(h:Pm n p):∀f m,1≤m→m+f=n→Up key p m→bB (cK key) n (kas_asc p f m) (fun r=>m≤r∧r≤n∧Up key p r∧(r=n∨key (at' p r)<key (at' p (r- 1))))
 |0,m,_,e,u=>⟨ah _,by omega,u,.inl (by omega)⟩
 |f+1,m,m1,e,u=>bB.ask (h.lt (by omega)) (h.lt (by omega)) (h.ne (by omega) (by omega) (by omega)) (fun c=>kT ⟨ah _,by omega,u,.inr c⟩) fun c=>by
  have lt:=rp inj h (i:=m) (j:=m- 1) (by omega) (by omega) (by omega) c
  refine kF (bB.mono (fun r x=>⟨by omega,x.2⟩) (iT h f (m+1) (by omega) (by omega) fun i j hij hj=>?_))
  rcases Oh j m with q|q
  ·exact u i j hij q
  ·have:j=m:=by omega
   subst this
   rcases Oh i (j- 1)with z|z
   ·exact Qb (u i (j- 1) z (by omega)) lt
   ·have:i=j- 1:=by omega
    rw[this];exact lt
def wF (key:Nat→Int)(p:Array Nat)(m:Nat):Prop:=∀i j,i<j→j<m→key (at' p j)<key (at' p i)
theorem qK {p:Array Nat}(h:Pm n p):∀f m,1≤m→m+f=n→wF key p m→bB (cK key) n (kas_desc f p m 0) (fun r=>r.1=p∧r.2.2=0∧m≤r.2.1∧r.2.1≤n∧wF key p r.2.1)
 |0,m,_,e,u=>⟨rfl,rfl,ah _,(show m≤n by omega),u⟩
 |f+1,m,m1,e,u=>bB.ask (h.lt (by omega)) (h.lt (by omega)) (h.ne (by omega) (by omega) (by omega)) (fun c=>kT (by
  rw[if_neg (by decide)]
  refine bB.mono (fun r x=>⟨x.1,x.2.1,by omega,x.2.2.2⟩) (qK h f (m+1) (by omega) (by omega) fun i j hij hj=>?_)
  rcases Oh j m with q|q
  ·exact u i j hij q
  ·have:j=m:=by omega
   subst this
   rcases Oh i (j- 1)with z|z
   ·exact Qb c (u i (j- 1) z (by omega))
   ·have:i=j- 1:=by omega
    rw[this];exact c)) fun c=>kF (bB.ask (h.lt (by omega)) (h.lt (by omega)) (h.ne (by omega) (by omega) (by omega)) (fun _=>kT ⟨rfl,rfl,ah _,(show m≤n by omega),u⟩) fun c'=>absurd (rp inj h (i:=m) (j:=m- 1) (by omega) (by omega) (by omega) c) c')
omit inj in
theorem uV {p:Array Nat}{m i:Nat}(hm:m≤p.size)(hi:i<p.size):at' (kas_rev p 0 m) i=if i<m then at' p (m- 1- i)else at' p i:=by
 have e:=getElem?_mirror_all (xs:=p) (i:=0) (j:=m) hm i
 refine oQ ?_
 unfold kas_rev
 rw[Nat.sub_zero]at e⊢
 rw[e]
 by_cases q:i<m
 ·rw[if_pos ⟨Md _,q⟩,if_pos q,fo (by omega)]
  congr 2;omega
 ·rw[if_neg (fun z=>q z.2),if_neg q,fo hi]
theorem ka {p:Array Nat}{k:Nat}(h:Pm n p)(hk:k<n)(u:Up key p k):∀f l r,l≤r→r≤k→r- l≤f→(∀i,i<l→key (at' p i)<key (at' p k))→(∀i,r≤i→i<k→key (at' p k)<key (at' p i))→
  bB (cK key) n (kas_place p k f l r) (fun x=>x≤k∧(∀i,i<x→key (at' p i)<key (at' p k))∧∀i,x≤i→i<k→key (at' p k)<key (at' p i))
 |0,l,r,hl,hr,hf,a,b=>⟨by omega,a,fun i h1 h2=>b i (by omega) h2⟩
 |f+1,l,r,hl,hr,hf,a,b=>by
  unfold kas_place
  by_cases q:l≥r
  ·rw[if_pos q];exact⟨by omega,a,fun i h1 h2=>b i (by omega) h2⟩
  rw[if_neg q]
  have g1:(l+r)/2<r:=by omega
  have g2:l≤(l+r)/2:=by omega
  refine bB.ask (h.lt hk) (h.lt (by omega)) (h.ne hk (by omega) (by omega)) (fun c=>kT ?_) (fun c=>kF ?_)
  ·refine ka h hk u f l ((l+r)/2) g2 (by omega) (by omega) a fun i h1 h2=>?_
   rcases Oh ((l+r)/2) i with z|z
   ·exact Qb c (u _ _ z h2)
   ·have:i=(l+r)/2:=by omega
    rw[this];exact c
  ·have lt:=rp inj h (i:=k) (j:=(l+r)/2) hk (by omega) (by omega) c
   refine ka h hk u f ((l+r)/2+1) r (by omega) hr (by omega) (fun i h1=>?_) b
   rcases Oh i ((l+r)/2)with z|z
   ·exact Qb (u _ _ z (by omega)) lt
   ·have:i=(l+r)/2:=by omega
    rw[this];exact lt
omit inj in
theorem uo {p:Array Nat}{k d i:Nat}(hk:k<p.size)(hd:d≤k)(hi:i<p.size):at' (bubble p k d) i=if i=k- d then at' p k else if k- d<i∧i≤k then at' p (i- 1)else at' p i:=by
 refine oQ ?_
 rw[getElem?_bubble hk d hd i]
 by_cases q:i=k- d
 ·rw[if_pos q,if_pos q];exact fo hk
 ·rw[if_neg q,if_neg q]
  by_cases z:k- d<i∧i≤k
  ·rw[if_pos z,if_pos z];exact fo (by omega)
  ·rw[if_neg z,if_neg z];exact fo hi
theorem uK:∀f (p:Array Nat) k,Pm n p→k+f=n→Up key p k→bB (cK key) n (kas_bin f p k) (fun q=>Pm n q∧Up key q n)
 |0,p,k,h,e,u=>⟨h,by rw[←e];exact u⟩
 |f+1,p,k,h,e,u=>by
  have hk:k<n:=by omega
  refine bB.bind (bB.mono (fun x ⟨xk,a,b⟩=>?_) (ka inj h hk u k 0 k (Md _) (ah _) (ah _) (fun i hi=>absurd hi (SD _)) fun i h1 h2=>by omega))
  refine uK f _ (k+1) (h.of (bubble_perm _ _ _)) (by omega) fun i j hij hj=>?_
  have hs:=h.sz
  rw[uo (by omega) (Nat.sub_le _ _) (by omega),uo (by omega) (Nat.sub_le _ _) (by omega),show k- (k- x)=x by omega]
  by_cases i1:i=x
  ·rw[if_pos i1,if_neg (by omega),if_pos ⟨by omega,by omega⟩]
   exact b _ (by omega) (by omega)
  ·rw[if_neg i1]
   by_cases i2:x<i∧i≤k
   ·rw[if_pos i2,if_neg (by omega),if_pos ⟨by omega,by omega⟩]
    exact u _ _ (by omega) (by omega)
   ·rw[if_neg i2]
    by_cases j1:j=x
    ·rw[if_pos j1];exact a _ (by omega)
    ·rw[if_neg j1]
     by_cases j2:x<j∧j≤k
     ·rw[if_pos j2]
      exact u _ _ (by omega) (by omega)
     ·rw[if_neg j2]
      exact u _ _ hij (by omega)
omit inj in
theorem wX:Pm n (Ra (Ny n)):=⟨by simp,by simp⟩
theorem qA {p:Array Nat}(h:Pm n p)(n2:2≤n)(d:key (at' p 1)<key (at' p 0)):bB (cK key) n (kas_descPart 1 n p) (fun r=>Pm n r.2∧1≤r.1∧r.1≤n∧Up key r.2 r.1):=by
 unfold kas_descPart
 have dn0:wF key p 2:=fun i j hij hj=>by
  have hi:i=0:=by omega
  have hj:j=1:=by omega
  rw[hi,hj];exact d
 refine bB.bind (bB.mono (fun r ⟨e1,e2,m1,m2,dn⟩=>?_) (qK inj h (n- (1+1)) 2 (by omega) (by omega) dn0))
 rw[e2,if_neg (by decide),e1]
 unfold kas_tail3
 have h':Pm n (kas_rev p 0 r.2.1):=h.of (mirror_perm _ _ _ _)
 have hs:=h.sz
 have up0:Up key (kas_rev p 0 r.2.1) r.2.1:=fun i j hij hj=>by
  rw[uV (by omega) (by omega),uV (by omega) (by omega),if_pos (by omega),if_pos hj]
  exact dn _ _ (by omega) (by omega)
 exact bB.bind (bB.mono (fun m ⟨g1,g2,g3,_⟩=>⟨h',(show 1≤m by omega),g2,g3⟩) (iT inj h' (n- r.2.1) r.2.1 (by omega) (by omega) up0))
theorem wv (n2:2≤n):bB (cK key) n (kas_count n (Ra (Ny n))) (fun r=>Pm n r.2∧1≤r.1∧r.1≤n∧Up key r.2 r.1):=by
 have h:=wX (n:=n)
 unfold kas_count
 refine bB.bind (bB.mono (fun m ⟨m1,m2,u,st⟩=>?_) (iT inj h (n- 1) 1 (ah _) (by omega) fun i j hij hj=>absurd hj (by omega)))
 by_cases q:m=n
 ·rw[if_pos (by rw[q];exact beq_self_eq_true n)]
  exact⟨h,m1,m2,u⟩
 ·rw[if_neg (fun z=>q (beq_iff_eq.mp z))]
  by_cases q1:m>1
  ·rw[if_pos q1]
   exact bB.ask (h.lt (by omega)) (h.lt (by omega)) (h.ne (by omega) (by omega) (by omega)) (fun _=>kT ⟨h,m1,m2,u⟩) fun c=>absurd (u 0 (m- 1) (by omega) (by omega)) c
  ·rw[if_neg q1]
   have:m=1:=by omega
   subst this
   exact qA inj h n2 (st.resolve_left q)
theorem Af (n2:2≤n):bB (cK key) n (kas_sort n) (fun p=>Pm n p∧Up key p n):=by
 unfold kas_sort
 refine bB.bind (bB.mono (fun r ⟨g1,g2,g3,g4⟩=>?_) (wv inj n2))
 by_cases q:r.1<n
 ·rw[if_pos q,show max r.1 1=r.1 by omega]
  exact uK inj _ _ _ g1 (by omega) g4
 ·rw[if_neg q]
  have:r.1=n:=by omega
  exact⟨g1,by rw[←this];exact g4⟩
end
end L2
namespace HT
open PySem PySem.Calls PySem.W PyProof.Rows L2
section
variable {prog:Mf}{w:Mx}{A:Mn}{E:pv→wr→Prop}{s:wr}
def jL (h:Heap)(as:List Addr)(ks:List Int):Prop:=as.length=ks.length∧∀(j:Nat)(a:Addr),as[j]?=some a→∃k t v,ks[j]?=some k∧h.get? a=some ({cls:=.type "tuple",data:=.seq #[.int k t,v]}:Obj)
theorem jL.cons {h:Heap}{a:Addr}{as:List Addr}{k:Int}{ks:List Int}(T:jL h (a::as) (k::ks)):(∃t v,h.get? a=some ({cls:=.type "tuple",data:=.seq #[.int k t,v]}:Obj))∧jL h as ks:=by
 obtain⟨l,T⟩:=T
 refine⟨?_,by simpa using l,fun j b hb=>by simpa using T (j+1) b (by simpa using hb)⟩
 obtain⟨k',t,v,e,x⟩:=T 0 a rfl
 cases e
 exact⟨t,v,x⟩
theorem jL.kat {h:Heap}:∀{as:List Addr}{ks:List Int},jL h as ks→∃fs,KatTups h (as.map LK) fs∧fs.length=as.length∧∀v∈fs,∃k t,v=OP k t
 |[],_,_=>⟨[],.nil,rfl,fun _ z=>nomatch z⟩
 |a::as,[],T=>by have:=T.1;simp at this
 |a::as,k::ks,T=>by
  obtain⟨⟨t,v,e⟩,T'⟩:=T.cons
  obtain⟨fs,h1,h2,h3⟩:=T'.kat
  refine⟨.int k t::fs,KatTups.cons e rfl rfl rfl h1,by simp[h2],fun x hx=>?_⟩
  rcases gV.mp hx with rfl|hx
  ·exact⟨k,t,rfl⟩
  ·exact h3 x hx
theorem qJ {κ:SortKind}{vs:List pv}{c:Nat→Nat→Bool}{n:Nat}{Q:Array Nat→Prop}{G:Array Nat→wr→Prop}(hc:∀i j (C:Bool→wr→Prop),i<n→j<n→i≠j→C (c i j) s→kas_ask prog w A κ vs i j C s)(hQ:∀p,Q p→G p s):
  ∀{t:KasT (Array Nat)},bB c n t Q→t.kasWp (kas_ask prog w A κ vs) G s
 |.ret p,h=>hQ p h
 |.ask i j k,h=>hc i j _ h.1 h.2.1 h.2.2.1 (qJ hc hQ h.2.2.2)
theorem kg {as:List Addr}{i:Nat}(h:i<as.length):∃a,as[i]?=some a∧(as.map LK).getD i MM=.ref a:=by
 refine⟨as[i],LN h,?_⟩
 rw[LQ,Ml,LN h];rfl
theorem uj (vs:List pv):(pairsOf vs).map (·.2)=vs.toArray:=by
 apply Array.toList_inj.mp
 rw[Array.toList_map,pairsOf_toList,←List.unzip_snd,List.unzip_zip rfl]
theorem kP {α:Type}(l:List α)(d:α):(Ny l.length).map (fun i=>l.getD i d)=l:=by
 refine List.ext_getElem (by simp) fun i h1 h2=>?_
 rw[List.getElem_map,List.getElem_range,LQ,LN h2];rfl
theorem rk {a:Addr}{as:List Addr}{ks:List Int}{n:Nat}{P:Fin→wr→Prop}(ho:s.heap.get? a=some (seqObj "list" (as.map LK).toArray n))(T:jL s.heap as ks)(nd:ks.Nodup)(h64:as.length<64)
  (h:∀q:List Nat,q.Perm (Ny as.length)→(q.map fun i=>ks.getD i 0).Pairwise (·<·)→P (.done (.ret .none)) {s with heap:=sortedHeap s.heap a (as.map LK) (q.map fun i=>(as.map LK).getD i MM).toArray}):
  wpAny (model prog w) A (PV.«list.sort» ⟨[.ref a],[]⟩) P E s:=by
 rw[list_sort_plain]
 have ha:a<s.heap.objs.size:=LR ho
 have hls:(as.map LK).length=as.length:=LJ ..
 refine tx (listItems_at ho rfl ?_)
 refine tx (RB ho rfl ?_ (by rw[LP,hls,MF];omega) (Md _))
 obtain⟨e1,ho1⟩:∃e1,(s.heap.update a (Nz fun _=>#[])).get? a=some (seqObj "list" #[] e1):=⟨_,get?_update_seq ho (fun _=>#[])⟩
 refine tx (Sx ho1 rfl ?_)
 refine tx (wpAny_newTuple ?_ (by show(as.map LK).length≤_;rw[hls,MF];omega))
 refine tx (Rw ?_ (Md _))
 refine Nh ?_
 have ho6:(((s.heap.update a (Nz fun _=>#[])).push (seqObj "tuple" (as.map LK).toArray 0)).push (seqObj "list" #[] 0)).get? a=some (seqObj "list" #[] e1):=by
  rw[RK _ _ _ (by rw[size_push',RY];exact LY (OV ha)),RK _ _ _ (by rw[RY];exact LY ha)]
  exact ho1
 show wpAny (model prog w) A _ P E {s with heap:=((s.heap.update a (Nz fun _=>#[])).push (seqObj "tuple" (as.map LK).toArray 0)).push (seqObj "list" #[] 0)}
 dsimp only
 have hsz:(as.map LK).toArray.size=as.length:=by simp
 have T6:jL (((s.heap.update a (Nz fun _=>#[])).push (seqObj "tuple" (as.map LK).toArray 0)).push (seqObj "list" #[] 0)) as ks:=⟨T.1,fun j x hx=>by
  obtain⟨k,t,v,e1,e2⟩:=T.2 j x hx
  have ne:x≠a:=fun z=>by
   subst z;rw[ho]at e2
   have z2:OO "list"=OO "tuple":=congrArg Obj.cls (Me e2)
   exact absurd z2 (by decide)
  exact⟨k,t,v,e1,If _ (If _ ((MX _ _ ne.symm).trans e2))⟩⟩
 by_cases h2:as.length<2
 ·rw[if_pos (by rw[hsz];exact h2),if_pos (by rw[hsz];exact h2)]
  refine tx (LU ?_)
  rw[StateT.run_pure]
  refine tx (LU ?_)
  dsimp only
  refine tx (Sx ho6 rfl ?_)
  refine tx (RB ho6 rfl ?_ (Md _) (by rw[Array.size_map];show(pairsOf (as.map LK)).size≤_;rw[pairsOf_size,hls,MF];omega))
  simp only[bne_self_eq_false,NW,if_false]
  refine LU ?_
  have e:(arrOf (SortSt.mk' general' ((as.map LK).toArray.zip (as.map LK).toArray) #[] 7 none)).map (·.2)=((Ny as.length).map fun i=>(as.map LK).getD i MM).toArray:=by
   show(pairsOf (as.map LK)).map (·.2)=_
   have r:=kP (as.map LK) MM
   rw[LJ]at r
   rw[uj,r]
  have f:=h (Ny as.length) (.refl _) (by
   match as,h2 with
   |[],_=>exact .nil
   |[_],_=>exact Pa _ _)
  rw[←e]at f
  exact f
 ·rw[if_neg (by rw[hsz];exact h2),if_neg (by rw[hsz];exact h2)]
  obtain⟨fs,kt,lf,iv⟩:=T6.kat
  refine tx (kat_kind (T:=OO "int") kt (by omega) (fun v hv=>by obtain⟨k,t,rfl⟩:=iv v hv;exact Looks.of_pure rfl) (by decide) ?_)
  have inj:∀i j,i<as.length→j<as.length→ks.getD i 0=ks.getD j 0→i=j:=fun i j hi hj e=>by
   have l:=T.1
   rw[LQ,LQ,LN (by omega),LN (by omega)]at e
   exact(PZ nd).mp e
  refine tx (Mj (kat_run (prog:=prog) (w:=w) (E:=E) (κ:=tuples' (OO "int" !=OO "tuple")) (ks:=as.map LK) (vs:=as.map LK) (G:=fun p s'=>s'={s with heap:=((s.heap.update a (Nz fun _=>#[])).push (seqObj "tuple" (as.map LK).toArray 0)).push (seqObj "list" #[] 0)}∧Pm as.length p∧Up (fun i=>ks.getD i 0) p as.length)
   (Q:=fun st' s'=>∃p:Array Nat,arrOf st'=p.map (kas_item ((as.map LK).toArray.zip (as.map LK).toArray))∧failedOf st'=none∧s'={s with heap:=((s.heap.update a (Nz fun _=>#[])).push (seqObj "tuple" (as.map LK).toArray 0)).push (seqObj "list" #[] 0)}∧Pm as.length p∧Up (fun i=>ks.getD i 0) p as.length)
   rfl (by rw[hls];omega) (by rw[hls];exact h64) (fun p st' s' a1 a2 a3 a4=>⟨p,a2,a3,a4⟩) ?_) ?_ fun _ _ e=>e)
  ·rw[hls]
   refine qJ (c:=cK fun i=>ks.getD i 0) (n:=as.length) (Q:=fun p=>Pm as.length p∧Up (fun i=>ks.getD i 0) p as.length) (fun i j C hi hj hij hC=>?_) (fun p hp=>⟨rfl,hp⟩) (Af inj (by omega))
   obtain⟨x,ex,ex'⟩:=kg hi
   obtain⟨y,ey,ey'⟩:=kg hj
   obtain⟨k1,t1,v1,g1,o1⟩:=T6.2 i x ex
   obtain⟨k2,t2,v2,g2,o2⟩:=T6.2 j y ey
   have f1:ks.getD i 0=k1:=by rw[LQ,g1];rfl
   have f2:ks.getD j 0=k2:=by rw[LQ,g2];rfl
   have hC':C (decide (k1<k2)) {s with heap:=((s.heap.update a (Nz fun _=>#[])).push (seqObj "tuple" (as.map LK).toArray 0)).push (seqObj "list" #[] 0)}:=by rw[←f1,←f2];exact hC
   unfold kas_ask
   rw[ex',ey']
   refine kat_lt o1 rfl o2 rfl (kat_cons (wpAny_eqBool_int ?_))
   have q:k1≠k2:=fun q=>hij (inj i j hi hj (by rw[f1,f2,q]))
   rw[show(k1==k2)=false from beq_eq_false_iff_ne.mpr q]
   exact kat_no (oneLt_int hC')
  ·rintro⟨⟨⟩,st'⟩ s' ⟨p,har,hf,rfl,pm,up⟩
   dsimp only
   have hout:=kat_snds (ks:=as.map LK) (vs:=as.map LK) rfl har
   have hsz2:(Ra (p.toList.map fun i=>(as.map LK).getD i MM)).size=as.length:=by rw[LP,LJ,Nr,pm.sz]
   rw[hout]
   refine tx (Sx ho6 rfl ?_)
   refine tx (RB ho6 rfl ?_ (Md _) (Mh (Oj hsz2) (by rw[MF];omega)))
   rw[hf]
   simp only[bne_self_eq_false,NW,if_false]
   refine LU (h p.toList pm.pm ?_)
   refine OT.mpr (Qv.mpr fun i j hi hj hij=>?_)
   have hi':i<p.size:=by simpa using hi
   have hj':j<p.size:=by simpa using hj
   have u:=up i j hij (by rw[←pm.sz];exact hj')
   rw[oQ (show p[i]?=some p[i]from Nf hi'),oQ (show p[j]?=some p[j]from Nf hj')]at u
   simpa using u
end
end HT
namespace L2
open PySem PySem.Spec PyProof.Rows PySem.W
section
variable {X:Cx}{pins:List (Addr×Obj)}{σ:St}{H:Hp}{s:wr}{h':Heap}{tk:Nat}
theorem bh.there {P:Mf}{w:Mx}{h:Heap}{a:Addr}{o:HO}(x:bh P w H h a o):∃q,h.get? a=some q:=by
 cases o with
 |lst xs=>obtain⟨_,_,_,_,e⟩:=x;exact⟨_,e⟩
 |tup xs=>obtain⟨_,_,_,o,e,_⟩:=x;exact⟨_,e⟩
 |dK kvs=>obtain⟨_,_,_,_,o,_,_,e,_⟩:=x;exact⟨_,e⟩
 |dT kvs=>obtain⟨_,_,_,_,o,_,_,e,_⟩:=x;exact⟨_,e⟩
 |set S n=>obtain⟨o,_,_,_,e,_⟩:=x;exact⟨_,e⟩
 |ins C dx fs=>obtain⟨_,_,_,e,_⟩:=x;exact⟨_,e⟩
 |own y=>exact x
 |xd fs=>obtain⟨_,⟨_,_,_,e,_⟩,_⟩:=x;exact⟨_,e⟩
 |rng lo hi=>obtain⟨_,_,_,e⟩:=x;exact⟨_,e⟩
 |frz ob u=>exact⟨_,x.1⟩
 |tbl ps=>exact⟨_,x⟩
 |met f y=>exact⟨_,x⟩
 |ext φ=>exact x.2.1
def New (h:Heap)(a:Addr):Prop:=∀b u,h.get? b=some u→b≠a
theorem New.free {a:Addr}(n:New s.heap a)(I:Inv X pins σ H s):H a=none:=by
 cases e:H a with
 |none=>rfl
 |some o=>obtain⟨q,z⟩:=(I.hok a o e).there;exact absurd rfl (n a q z)
theorem Inv.track3 {a:Addr}{o:HO}{H1:Hp}{s0:wr}(I0:Inv X pins σ H1 s0)(I:Inv X pins σ H s)(ne:New s0.heap a)(hn:H a=none)(ok:bh X.prog X.w (upd H a o) s.heap a o):Inv X pins σ (upd H a o) s:=by
 have nL:X.env.locals≠a:=let ⟨m,⟨o',_,_,e,_⟩,_⟩:=I0.loc;ne _ _ e
 refine⟨I.ok,I.os,I.bare,⟨I.base.keep,I.base.slot,fun b u e n hx=>?_,I.base.there,fun b xs e=>?_,fun b u v e=>?_,fun b ps e=>?_⟩,I.loc,I.cell,?_,fun x c e=>?_,fun p hp=>?_,fun b u e=>?_,I.len⟩
 ·obtain⟨o',e'⟩:=I0.base.there b u e hx
  rw[ao (ne b o' e')];exact I.base.free b u e n hx
 ·have:=I.base.tups b xs e
  rw[ao (ag this hn)];exact this
 ·have:=I.base.frzs b u v e
  rw[ao (ag this hn)];exact this
 ·obtain⟨more,this⟩:=I.base.tbls b ps e
  exact⟨more,by rw[ao (ag this hn)];exact this⟩
 ·rw[ao nL];exact I.free
 ·obtain⟨v,o',e',_⟩:=I0.cell x c e
  rw[ao (ne _ _ e')];exact I.freeC x c e
 ·obtain⟨h1,h2,h3⟩:=I.pin p hp
  exact⟨h1,by rw[ao (ne _ _ (I0.pin p hp).1)];exact h2,h3⟩
 ·by_cases hb:b=a
  ·subst hb
   rw[aj]at e;cases e
   exact ok
  ·rw[ao hb]at e
   have nt:∀c q,H c=some q→upd H a o c=some q:=fun c q z=>by rw[ao (ag z hn)];exact z
   exact(I.hok b u e).stay (fun c v _ q=>q) (fun c q=>nt _ _ q) fun c xs q=>nt _ _ q
def vwO (p a:Addr):HO:=.ext fun h=>h.get? p=some {cls:=.type "dict_items",data:=.fields #[.ref a]}
theorem kC {as:List Addr}{rs:List (V×V)}{lo:Addr}(I:Inv X pins σ H s)(kk:∀b o,s.heap.get? b=some o→h'.get? b=some o)(hlo:s.heap.objs.size≤lo)(rise:as.Pairwise (· < ·))(above:∀a∈as,lo≤a)
  (pr:∀(j:Nat)(a:Addr),as[j]? =some a→∃r x y,rs[j]? =some r∧aJ r.1 x∧aJ r.2 y∧h'.get? a=some ({cls:=.type "tuple",data:=.seq #[x,y]}:Obj)):
  ∀n,n≤as.length→∃H',ax H H'∧(∀(j:Nat)(a:Addr)(r:V×V),j<n→as[j]? =some a→rs[j]? =some r→H' a=some (.tup [r.1,r.2]))∧(∀b,H b=none→b∉as.take n→H' b=none)∧Inv X pins σ H' {s with heap:=h',toks:=tk}
 |0,_=>⟨H,.refl H,(fun _ _ _ hj=>absurd hj (SD _)),(fun b e _=>e),I.kept kk⟩
 |n+1,hn=>by
  obtain⟨H1,S1,t1,f1,I1⟩:=kC I kk hlo rise above pr n (by omega)
  have hlt:n<as.length:=by omega
  have ea:as[n]? =some as[n]:=LN hlt
  obtain⟨r,x,y,er,rx,ry,e3⟩:=pr n _ ea
  have ge:s.heap.objs.size≤as[n]:=Mh hlo (above _ (Ma ea))
  have nin:as[n]∉as.take n:=fun hm=>by
   obtain⟨j,hj⟩:=Nc.mp hm
   have hjn:j<n:=by have:=(LX.mp hj).1;rw[Om]at this;omega
   rw[RG,if_pos hjn]at hj
   have:=Qv.mp rise j n (by omega) hlt hjn
   rw[(LX.mp hj).2]at this
   exact MV _ this
  have hfree:H1 as[n]=none:=f1 _ (I.hok.fresh ge) nin
  have I2:Inv X pins σ (upd H1 as[n] (.tup [r.1,r.2])) {s with heap:=h',toks:=tk}:=Inv.track2 I I1 ge hfree ⟨by show 2≤sizeLine;decide,[x,y],.cons rx (.cons ry .nil),⟨_,e3,rfl,_,rfl⟩⟩
  refine⟨_,S1.trans (ax.upd hfree),fun j a r' hj ha hr=>?_,fun b e hb=>?_,I2⟩
  ·rcases Nat.lt_or_eq_of_le (Nat.le_of_lt_succ hj)with h|h
   ·exact ax.upd hfree _ _ (t1 j a r' h ha hr)
   ·subst h
    rw[ea]at ha;cases ha
    rw[er]at hr;cases hr
    exact aj
  ·have nb:b≠as[n]:=fun q=>hb (by rw[q];exact Nc.mpr ⟨n,by rw[RG,if_pos (Qe _)];exact ea⟩)
   rw[ao nb]
   exact f1 b e fun q=>hb (by rw[SE];exact MU _ q)
def gs (rs:List (Int×V)):List (Key×V):=rs.map fun r=>(.inl r.1,r.2)
def ul (rs:List (Int×V))(H:Hp)(Q:VK):Prop:=
 ∀(l:Addr)(ps:List Addr)(H':Hp),H l=none→ax H H'→ps.length=rs.length→(∀(j:Nat)(p:Addr)(r:Int×V),ps[j]?=some p→rs[j]?=some r→H p=none∧H' p=some (.tup [.int r.1,r.2]))→H' l=some (.lst (ps.map V.ref))→Q (.ref l) H'
def jD (K:cW):List V→Hp→VK→Prop:=fun xs H Q=>
 (∃p a rs,xs=[.ref p]∧H p=some (vwO p a)∧H a=some (.dK (gs rs))∧rs.length<64∧(rs.map (·.1)).Nodup∧∀rs',rs'.Perm rs→rs'.Pairwise (fun x y=>x.1<y.1)→ul rs' H Q)∨
 (∃a rs,xs=[.ref a]∧H a=some (.dK (gs rs))∧rs.length<64∧∀(l:Addr)(ns:List Int),H l=none→ns.Perm (rs.map (·.1))→ns.Pairwise (·≤·)→Q (.ref l) (upd H l (.lst (ns.map V.int))))
theorem qR {P:Mf}{w:Mx}{i:Int}{v:pv}(h:(bK P w).is (.inl i) v=true):∃t,v=OP i t:=by
 rcases cp (k:=.inl i) (v:=v) h with⟨j,t,e,rfl⟩|⟨x,t,e,_⟩
 ·cases e;exact⟨t,rfl⟩
 ·cases e
theorem zt {rs:List (Int×V)}{vs:List (Key×pv)}(r:KV (gs rs) vs){j:Nat}{k:Key}{x:pv}(e:vs[j]? =some (k,x)):∃q,rs[j]? =some q∧k=.inl q.1∧aJ q.2 x:=by
 unfold KV gs at r
 induction rs generalizing vs j with
 |nil=>cases r;simp at e
 |cons q rs ih=>
  cases r with
  |cons h t=>
   cases j with
   |zero=>cases e;exact⟨q,rfl,h.1.symm,h.2⟩
   |succ j=>exact ih t (by simpa using e)
theorem uP {rs:List (Int×V)}{vs:List (Key×pv)}(r:KV (gs rs) vs):vs.length=rs.length:=by
 rw[←r.length];unfold gs;rw[LJ]
theorem uL (as:List Addr):aW (as.map V.ref) (as.map LK):=by
 induction as with
 |nil=>exact .nil
 |cons a r ih=>exact .cons rfl ih
theorem uN {Q:VK}{rs rs':List (Int×V)}{as as':List Addr}{B lo:Addr}{c:Nat}(I:Inv X pins σ H s)(kk:∀b o,s.heap.get? b=some o→h'.get? b=some o)(hlo:s.heap.objs.size≤lo)(rise:as.Pairwise (·<·))(above:∀a∈as,lo≤a)
  (pr:∀(j:Nat)(a:Addr),as[j]?=some a→∃r t y,rs[j]?=some r∧aJ r.2 y∧h'.get? a=some ({cls:=.type "tuple",data:=.seq #[.int r.1 t,y]}:Obj))
  (hB:New s.heap B)(nB:B∉as)(oB:h'.get? B=some {cls:=.type "list",data:=.seq (as'.map LK).toArray c})(lB:as'.length≤sizeLine)(l':as'.length=rs'.length)
  (ix:∀(j:Nat)(p:Addr)(r:Int×V),as'[j]?=some p→rs'[j]?=some r→∃i:Nat,as[i]?=some p∧rs[i]?=some r)(q:ul rs' H Q):EP X pins σ Q (.ref B) {s with heap:=h',toks:=tk}:=by
 obtain⟨H',S',tr,fr,I'⟩:=kC (tk:=tk) (rs:=rs.map fun r=>(V.int r.1,r.2)) I kk hlo rise above (fun j a ha=>by
  obtain⟨r,t,y,e1,e2,e3⟩:=pr j a ha
  exact⟨(.int r.1,r.2),.int r.1 t,y,by rw[Ml,e1];rfl,⟨t,rfl⟩,e2,e3⟩) as.length (ah _)
 have hBn:H' B=none:=fr _ (hB.free I) fun hm=>nB (Rn hm)
 have I2:Inv X pins σ (upd H' B (.lst (as'.map V.ref))) {s with heap:=h',toks:=tk}:=Inv.track3 I I' hB hBn ⟨by rw[LJ];exact lB,as'.map LK,c,uL as',oB⟩
 refine⟨.ref B,_,I2,rfl,q B as' _ (hB.free I) (S'.trans (ax.upd hBn)) l' (fun j p r hj hr=>?_) aj⟩
 obtain⟨i,e1,e2⟩:=ix j p r hj hr
 refine⟨I.hok.fresh (Mh hlo (above _ (Ma e1))),ax.upd hBn _ _ (tr i p (.int r.1,r.2) (LX.mp e1).1 e1 (by rw[Ml,e2];rfl))⟩
theorem me (hc:X.calm=true):bI X (.builtin "sorted") (jD X.K):=fun pins s σ H xs us Q I r h=>by
 rcases h with⟨p,a,rs,rfl,hp,ha,h64,nd,q⟩|⟨a,rs,rfl,ha,h64,q⟩
 ·obtain⟨u,rfl,ru⟩:=ej r
  cases (show u=LK p from ru)
  obtain⟨op,_,_⟩:=(show bh X.prog X.w H s.heap p (vwO p a)from I.hok p _ hp)
  obtain⟨z,hd,vs,rel,dd⟩:=kS I.hok ha
  obtain⟨ep,dat⟩:=dd.dictAt
  have lv:=uP rel
  refine OH kind_sorted plain_sorted entry_sorted (args_sorted1 _) ?_
  unfold PV.«sorted»
  refine tx (m:=checkCount "sorted" 1 1 _) (LU ?_)
  refine tx (kdx_collect (A:=X.A.in1) (knd:=bK X.prog X.w) (kvs:=vs) (ep:=ep) (I.ok.hd hc) ⟨_,op,rfl,rfl⟩ dat (by rw[lv,MF];omega) fun h1 tk as hk hl hG=>?_)
  refine tx (Rw ?_ (by rw[LJ,hl,lv,MF];omega))
  have hB:(h1.push {cls:=.type "list",data:=.seq (as.map LK).toArray}).get? h1.objs.size=some (seqObj "list" (as.map LK).toArray 0):=Mb _ rfl
  have tup:∀(j:Nat)(b:Addr),as[j]? =some b→∃r t y,rs[j]? =some r∧aJ r.2 y∧(h1.push {cls:=.type "list",data:=.seq (as.map LK).toArray}).get? b=some ({cls:=.type "tuple",data:=.seq #[.int r.1 t,y]}:Obj):=fun j b hb=>by
   obtain⟨key,k,x,e1,e2,e3⟩:=hG.pairs j b hb
   obtain⟨r,er,rfl,rv⟩:=zt rel e1
   obtain⟨t,rfl⟩:=qR e2
   exact⟨r,t,x,er,rv,If _ e3⟩
  refine tx (Nh (NC slot_list_sort ⟨_,hB,rfl⟩ entry_list_sort ?_ (args_list_sort _)))
  refine HT.rk (as:=as) (ks:=rs.map (·.1)) hB ⟨by rw[hl,lv,LJ],fun j b hb=>?_⟩ nd (by rw[hl,lv];exact h64) fun qs pm up=>?_
  ·obtain⟨r,t,y,e1,_,e3⟩:=tup j b hb
   exact⟨r.1,t,y,by rw[Ml,e1];rfl,e3⟩
  ·refine⟨_,rfl,LU ⟨_,rfl,?_⟩⟩
   have pl:∀i∈qs,i<rs.length:=fun i hi=>by have:=Oc.mp (pm.mem_iff.mp hi);omega
   have er:(qs.map fun i=>rs.getD i (0,.non)).Perm rs:=by
    have:=pm.map fun i=>rs.getD i (0,V.non)
    rw[hl,lv,HT.kP]at this
    exact this
   have ek:∀i,(rs.map (·.1)).getD i 0=(rs.getD i (0,V.non)).1:=fun i=>by
    rw[LQ,LQ,Ml];cases rs[i]? <;>rfl
   have ea:(qs.map fun i=>(as.map LK).getD i MM)=(qs.map fun i=>as.getD i 0).map LK:=by
    rw[MP]
    refine NO fun i hi=>?_
    obtain⟨b,e1,e2⟩:=HT.kg (as:=as) (i:=i) (by have:=pl i hi;omega)
    rw[e2];show _=LK (as.getD i 0);rw[LQ,e1];rfl
   have hBa:=sortedHeap_at (out:=(qs.map fun i=>(as.map LK).getD i MM).toArray) hB
   obtain⟨c,hBa⟩:=hBa
   have old:∀b,b≠h1.objs.size→b<h1.objs.size→∀o,h1.get? b=some o→(sortedHeap (h1.push {cls:=.type "list",data:=.seq (as.map LK).toArray}) h1.objs.size (as.map LK) (qs.map fun i=>(as.map LK).getD i MM).toArray).get? b=some o:=fun b n l o e=>by
    rw[Rm n (by rw[OJ];exact OV l)];exact If _ e
   have lt1:∀b o,h1.get? b=some o→b<h1.objs.size:=fun b o e=>LR e
   refine uN (s:=s) (rs:=rs) (rs':=qs.map fun i=>rs.getD i (0,.non)) (as:=as) (as':=qs.map fun i=>as.getD i 0) (lo:=s.heap.objs.size) (c:=c) I (fun b o e=>old b (LY (lt1 _ _ (hk b o e))) (lt1 _ _ (hk b o e)) o (hk b o e)) (ah _) hG.rise (fun a ha=>Oi (hG.above a ha)) (fun j b hb=>?_)
    (fun b u e z=>by subst z;exact MV _ (lt1 _ _ (hk _ u e))) (fun z=>MV _ (hG.there z)) (by rw[hBa,ea]) (by rw[LJ,pm.length_eq,List.length_range,hl,lv,MF];omega) (by rw[LJ,LJ]) (fun j b r hj hr=>?_) (q _ er ?_)
   ·obtain⟨r,t,y,e1,e2,e3⟩:=tup j b hb
    have lb:=hG.there (Ma hb)
    refine⟨r,t,y,e1,e2,?_⟩
    rw[Rm (LY lb) (by rw[OJ];exact OV lb)]
    exact e3
   ·rw[Ml]at hj hr
    obtain⟨i,e1,e2⟩:=OZ.mp hj
    rw[e1]at hr
    have hi:=pl i (Ma e1)
    refine⟨i,?_,?_⟩
    ·rw[←e2,LQ,LN (by omega)];rfl
    ·cases hr;show _=some (rs.getD i (0,V.non));rw[LQ,LN hi];rfl
   ·refine OT.mpr ((OT.mp up).imp fun{i j} z=>?_)
    rw[ek,ek]at z;exact z
 ·obtain⟨u,rfl,ru⟩:=ej r
  cases (show u=LK a from ru)
  obtain⟨z,hd,vs,rel,dd⟩:=kS I.hok ha
  obtain⟨ep,dat⟩:=dd.dictAt
  have lv:=uP rel
  refine OH kind_sorted plain_sorted entry_sorted (args_sorted1 _) ?_
  unfold PV.«sorted»
  refine tx (m:=checkCount "sorted" 1 1 _) (LU ?_)
  refine tx (kdu_collect (A:=X.A.in1) (kdl_dict (knd:=bK X.prog X.w) (kvs:=vs) (ep:=ep) hd) (I.ok.hd hc) dat (by rw[lv,MF];omega) fun h1 tk acc hk hacc=>?_)
  have la:acc.toList.length=rs.length:=by rw[Nr,←lv];exact hacc.1
  refine tx (Rw ?_ (by rw[la,MF];omega))
  have hB:(h1.push {cls:=.type "list",data:=.seq acc.toList.toArray}).get? h1.objs.size=some (seqObj "list" acc.toList.toArray 0):=Mb _ rfl
  have hI:QR acc.toList (rs.map (·.1)):=by
   have:∀(l:List pv)(ns:List Int),l.length=ns.length→(∀(j:Nat)(v:pv),l[j]? =some v→∃n t,ns[j]? =some n∧v=.int n t)→QR l ns:=by
    intro l
    induction l with
    |nil=>intro ns hl _;cases ns with
     |nil=>exact .nil
     |cons=>simp at hl
    |cons v l ih=>
     intro ns hl hv
     cases ns with
     |nil=>simp at hl
     |cons n ns=>
      obtain⟨n',t,e,rfl⟩:=hv 0 v rfl
      cases e
      exact .cons n t (ih ns (by simpa using hl) fun j v hj=>by simpa using hv (j+1) v (by simpa using hj))
   refine this _ _ (by rw[la,LJ]) fun j v hj=>?_
   obtain⟨k,x,e1,e2⟩:=hacc.2 j v (by rw[←ND];exact hj)
   obtain⟨r,er,rfl,_⟩:=zt rel e1
   obtain⟨t,rfl⟩:=qR e2
   exact⟨r.1,t,by rw[Ml,er];rfl,rfl⟩
  refine tx (Nh (NC slot_list_sort ⟨_,hB,rfl⟩ entry_list_sort ?_ (args_list_sort _)))
  refine list_sort_tree hB hI (by rw[la];exact h64) fun out ns' hI' pm up=>?_
  refine⟨_,rfl,LU ⟨_,rfl,?_⟩⟩
  obtain⟨c,hBa⟩:=sortedHeap_at (out:=out) hB
  have lt1:∀b o,h1.get? b=some o→b<h1.objs.size:=fun b o e=>LR e
  have nw:New s.heap h1.objs.size:=fun b u e z=>by subst z;exact MV _ (lt1 _ _ (hk _ u e))
  have I1:Inv X pins σ H {s with heap:=sortedHeap (h1.push {cls:=.type "list",data:=.seq acc.toList.toArray}) h1.objs.size acc.toList out,toks:=tk}:=I.kept fun b o e=>by
   rw[Rm (LY (lt1 _ _ (hk b o e))) (by rw[OJ];exact OV (lt1 _ _ (hk b o e)))]
   exact If _ (hk b o e)
  have lo:ns'.length=rs.length:=by rw[pm.length_eq,LJ]
  have hl2:(ns'.map V.int).length≤sizeLine:=by rw[LJ,lo,MF];omega
  exact⟨.ref h1.objs.size,_,Inv.track3 I I1 nw (nw.free I) (o:=.lst (ns'.map V.int)) ⟨hl2,out.toList,c,iR hI',by rw[hBa,Array.toArray_toList]⟩,rfl,q _ ns' (nw.free I) pm up⟩
def tw (K:cW):List V→Hp→VK→Prop:=fun xs H Q=>∃a kvs,xs=[.ref a]∧H a=some (.dK kvs)∧∀p,H p=none→Q (.ref p) (upd H p (.dK kvs))
theorem yl:bI X (.type "dict") (tw X.K):=fun pins s σ H xs us Q I r h=>by
 obtain⟨a,kvs,rfl,ha,q⟩:=h
 obtain⟨u,rfl,ru⟩:=ej r
 cases (show u=LK a from ru)
 exact xv I (.inl ha) fun p s' hp I'=>⟨.ref p,_,I',rfl,q p hp⟩
def oV:V→List V→Hp→VK→Prop:=fun x vs H Q=>∃a y o,x=.ref a∧vs=[y]∧cF H a y o∧Q (o.getD .non) H
theorem mi (hu:X.A.units+1<cLine):MtR X "dict.get" oV:=by
 intro pins s σ H x vs v us Q I rx rv h
 obtain⟨a,y,o,rfl,rfl,g,q⟩:=h
 obtain rfl:v=LK a:=rx
 obtain⟨uy,rfl,ry⟩:=rv.one
 exact Dt hu I g ry fun w' s' I' r'=>⟨_,H,I',r',q⟩
def zC:V→List V→Hp→VK→Prop:=fun x vs H Q=>∃a kvs k v,x=.ref a∧vs=[kV k]∧H a=some (.dK kvs)∧bY kvs k=some v∧Q v (upd H a (.dK (iu kvs k)))
theorem zN:MtR X "dict.pop" zC:=by
 intro pins s σ H x vs v us Q I rx rv h
 obtain⟨a,kvs,k,v',rfl,rfl,ha,l,q⟩:=h
 obtain rfl:v=LK a:=rx
 obtain⟨uy,rfl,ry⟩:=rv.one
 exact GT (more:=[]) I ha ry l (.inl rfl) fun w' s' I' r'=>⟨_,_,I',r',q⟩
end
end L2
namespace Rs
def lL (b x y c:Nat):Prop:=c≤b∧x/2^(b- c)=y/2^(b- c)∧(c=b∨x/2^(b- (c+1))≠y/2^(b- (c+1)))
abbrev st (B k d:Nat):Nat:=k/2^(B- d)
abbrev sd (B k d:Nat):Nat:=k/2^(B- 1- d)%2
inductive Kn (α:Type)where
 |bare
 |leaf (k:Nat) (t:α)
 |fork (d b:Nat) (l r:Kn α)
section
variable {α:Type}
def bg:Kn α→List (Nat×α)
 |.bare=>[]
 |.leaf k t=>[(k,t)]
 |.fork _ _ l r=>bg l++bg r
def aD (B key:Nat):Kn α→Option α
 |.bare=>none
 |.leaf k t=>if key=k then some t else none
 |.fork d _ l r=>if sd B key d=0 then aD B key l else aD B key r
def WF (B:Nat):Nat→Nat→Kn α→Prop
 |_,_,.bare=>False
 |d0,b0,.leaf k _=>k<2^B∧st B k d0=b0
 |d0,b0,.fork d b l r=>d0≤d∧d<B∧b/2^(d- d0)=b0∧WF B (d+1) (2*b) l∧WF B (d+1) (2*b+1) r
theorem cw {B k d:Nat}(h:d<B):st B k (d+1)=2*st B k d+sd B k d:=by
 have e:B- d=(B- (d+1))+1:=by omega
 have e2:B- 1- d=B- (d+1):=by omega
 unfold st sd
 rw[e,e2,Nat.pow_succ,←Ob]
 omega
theorem eJ {B k d:Nat}:sd B k d<2:=Nat.mod_lt _ (by decide)
theorem jq {B k d e:Nat}(h1:d≤e)(h2:e≤B):st B k d=st B k e/2^(e- d):=by
 unfold st
 rw[Ob,←Pe]
 congr 2
 omega
theorem WF.mem {B:Nat}:∀{t:Kn α}{d0 b0:Nat},d0≤B→WF B d0 b0 t→∀p∈bg t,p.1<2^B∧st B p.1 d0=b0
 |.bare,_,_,_,h,_,_=>h.elim
 |.leaf k t,_,_,_,h,p,hp=>by rw[LZ.mp hp];exact h
 |.fork d b l r,d0,b0,_,⟨h1,h2,h3,hl,hr⟩,p,hp=>by
  have key:p.1<2^B∧st B p.1 d=b:=by
   rcases Mu.mp hp with z|z
   ·obtain⟨a,c⟩:=hl.mem (by omega) p z
    rw[cw h2]at c
    have:=@eJ B p.1 d
    exact⟨a,by omega⟩
   ·obtain⟨a,c⟩:=hr.mem (by omega) p z
    rw[cw h2]at c
    have:=@eJ B p.1 d
    exact⟨a,by omega⟩
  exact⟨key.1,by rw[jq h1 (by omega),key.2];exact h3⟩
theorem WF.left {B d0 b0 d b:Nat}{l r:Kn α}(h:WF B d0 b0 (.fork d b l r)):∀p∈bg l,st B p.1 d=b∧sd B p.1 d=0:=fun p hp=>by
 obtain⟨h1,h2,h3,hl,hr⟩:=h
 have c:=(hl.mem (by omega) p hp).2
 rw[cw h2]at c
 have:=@eJ B p.1 d
 omega
theorem WF.right {B d0 b0 d b:Nat}{l r:Kn α}(h:WF B d0 b0 (.fork d b l r)):∀p∈bg r,st B p.1 d=b∧sd B p.1 d=1:=fun p hp=>by
 obtain⟨h1,h2,h3,hl,hr⟩:=h
 have c:=(hr.mem (by omega) p hp).2
 rw[cw h2]at c
 have:=@eJ B p.1 d
 omega
theorem WF.ne {B d0 b0:Nat}:∀{t:Kn α}{d0 b0:Nat},WF B d0 b0 t→∃p,p∈bg t
 |.bare,_,_,h=>h.elim
 |.leaf k t,_,_,_=>⟨(k,t),LZ.mpr rfl⟩
 |.fork d b l r,_,_,⟨_,_,_,hl,_⟩=>by
  obtain⟨p,hp⟩:=WF.ne (d0:=d0) (b0:=b0) hl
  exact⟨p,MU _ hp⟩
def gF (l:List (Nat×α)):Prop:=l.Pairwise fun p q=>p.1<q.1
theorem WF.up {B:Nat}:∀{t:Kn α}{d0 b0:Nat},WF B d0 b0 t→gF (bg t)
 |.bare,_,_,h=>h.elim
 |.leaf k t,_,_,_=>Pa _ _
 |.fork d b l r,d0,b0,h=>by
  have hf:=h
  obtain⟨h1,h2,h3,hl,hr⟩:=h
  refine List.pairwise_append.mpr ⟨hl.up,hr.up,fun p hp q hq=>?_⟩
  have e1:=(hl.mem (by omega) p hp).2
  have e2:=(hr.mem (by omega) q hq).2
  unfold st at e1 e2
  apply MB
  intro hn
  have:=Nat.div_le_div_right (c:=2^(B- (d+1))) (show q.1≤p.1 by omega)
  omega
def look (key:Nat):List (Nat×α)→Option α
 |[]=>none
 |(k,t)::r=>if key=k then some t else look key r
theorem jH (key:Nat)(l m:List (Nat×α)):look key (l++m)=(look key l).or (look key m):=by
 induction l with
 |nil=>rfl
 |cons p r ih=>
  show(if key=p.1 then some p.2 else look key (r++m))=(if key=p.1 then some p.2 else look key r).or (look key m)
  split
  ·rfl
  ·exact ih
theorem dc {key:Nat}{l:List (Nat×α)}(h:∀p∈l,p.1≠key):look key l=none:=by
 induction l with
 |nil=>rfl
 |cons p r ih=>
  show(if key=p.1 then some p.2 else look key r)=none
  rw[if_neg fun e=>h p Mg e.symm]
  exact ih fun q hq=>h q (LS _ hq)
theorem cD {B key:Nat}:∀{t:Kn α}{d0 b0:Nat},WF B d0 b0 t→aD B key t=look key (bg t)
 |.bare,_,_,h=>h.elim
 |.leaf k t,_,_,_=>rfl
 |.fork d b l r,d0,b0,h=>by
  have hf:=h
  obtain⟨h1,h2,h3,hl,hr⟩:=h
  show(if sd B key d=0 then aD B key l else aD B key r)=look key (bg l++bg r)
  rw[jH]
  by_cases e:sd B key d=0
  ·rw[if_pos e,cD hl,dc (l:=bg r) fun p hp z=>by
    have:=(hf.right p hp).2
    rw[z]at this;omega]
   cases look key (bg l)<;>rfl
  ·rw[if_neg e,cD hr,dc (l:=bg l) fun p hp z=>by
    have:=(hf.left p hp).2
    rw[z]at this;omega]
   rfl
def alN (B x y:Nat):Nat→Nat
 |0=>0
 |c+1=>if x/2^(B- (c+1))=y/2^(B- (c+1))then c+1 else alN B x y c
theorem ux {B x y:Nat}(hx:x<2^B)(hy:y<2^B):∀n,n≤B→alN B x y n≤n∧x/2^(B- alN B x y n)=y/2^(B- alN B x y n)∧(alN B x y n=n∨x/2^(B- (alN B x y n+1))≠y/2^(B- (alN B x y n+1)))
 |0,_=>⟨ah _,by show x/2^B=y/2^B;rw[Oo hx,Oo hy],.inl rfl⟩
 |c+1,hn=>by
  unfold alN
  split
  ·rename_i e;exact⟨ah _,e,.inl rfl⟩
  ·rename_i e
   obtain⟨a1,a2,a3⟩:=ux hx hy c (by omega)
   refine⟨by omega,a2,.inr ?_⟩
   rcases a3 with z|z
   ·rw[z];exact e
   ·exact z
def al (B x y:Nat):Nat:=alN B x y B
theorem iL {B x y:Nat}(hx:x<2^B)(hy:y<2^B):lL B x y (al B x y):=ux hx hy B (ah _)
theorem ou {B x y:Nat}(hx:x<2^B)(hy:y<2^B)(ne:x≠y):al B x y<B∧st B x (al B x y)=st B y (al B x y)∧sd B x (al B x y)≠sd B y (al B x y):=by
 obtain⟨a1,a2,a3⟩:=iL hx hy
 have lt:al B x y<B:=by
  rcases Oh (al B x y) B with h|h
  ·exact h
  ·exfalso
   have e:al B x y=B:=by omega
   rw[e,Nat.sub_self,Nat.pow_zero,Nat.div_one,Nat.div_one]at a2
   exact ne a2
 refine⟨lt,a2,fun z=>?_⟩
 rcases a3 with h|h
 ·omega
 ·apply h
  have e1:=@cw B x _ lt
  have e2:=@cw B y _ lt
  show st B x (al B x y+1)=st B y (al B x y+1)
  have a2':st B x (al B x y)=st B y (al B x y):=a2
  rw[e1,e2,a2',z]
theorem pQ {B x y d e:Nat}(h1:d≤e)(h2:e≤B)(h:st B x e=st B y e):st B x d=st B y d:=by rw[jq h1 h2,jq h1 h2,h]
def eA (B d key:Nat)(x:α)(t:Kn α):Kn α:=if sd B key d=0 then .fork d (st B key d) (.leaf key x) t else .fork d (st B key d) t (.leaf key x)
def cC (B key:Nat)(x:α):Kn α→Kn α
 |.bare=>.leaf key x
 |.leaf k t=>if key=k then .leaf key x else eA B (al B key k) key x (.leaf k t)
 |.fork d b l r=>if st B key d=b then(if sd B key d=0 then .fork d b (cC B key x l) r else .fork d b l (cC B key x r))
  else eA B (al d b (st B key d)) key x (.fork d b l r)
theorem WF.lift {B d0 b0 d b:Nat}:∀{t:Kn α},WF B d0 b0 t→(∀p∈bg t,st B p.1 d=b)→d≤B→d0≤B→(∀e b' l r,t=.fork e b' l r→d≤e)→WF B d b t
 |.bare,h,_,_,_,_=>h.elim
 |.leaf k t,h,hs,_,_,_=>⟨h.1,hs (k,t) (LZ.mpr rfl)⟩
 |.fork e b' l r,h,hs,hd,_,he=>by
  have hf:=h
  obtain⟨h1,h2,h3,hl,hr⟩:=h
  have hde:=he e b' l r rfl
  refine⟨hde,h2,?_,hl,hr⟩
  obtain⟨p,hp⟩:=WF.ne (d0:=0) (b0:=0) hl
  have:=hs p (MU _ hp)
  rw[jq hde (by omega),(hf.left p hp).1]at this
  exact this
theorem pj {B d0 b0 d key:Nat}{x:α}{t:Kn α}(h:WF B d0 b0 t)(hk:key<2^B)(hd:d<B)(h0:d0≤d)(hkb:st B key d0=b0)(hs:∀p∈bg t,st B p.1 d=st B key d∧sd B p.1 d≠sd B key d)
  (he:∀e b' l r,t=.fork e b' l r→d<e):WF B d0 b0 (eA B d key x t)∧∀k,aD B k (eA B d key x t)=if k=key then some x else aD B k t:=by
 have lt:=@eJ B key d
 have up:∀p∈bg t,st B p.1 (d+1)=2*st B key d+(1- sd B key d):=fun p hp=>by
  obtain⟨a,c⟩:=hs p hp
  have:=@eJ B p.1 d
  rw[cw hd,a]
  omega
 have wt:WF B (d+1) (2*st B key d+(1- sd B key d)) t:=h.lift up hd (by omega) fun e b' l r z=>he e b' l r z
 have wk:WF B (d+1) (2*st B key d+sd B key d) (Kn.leaf key x):=⟨hk,cw hd⟩
 have pre:st B key d/2^(d- d0)=b0:=by rw[←jq h0 (by omega)];exact hkb
 unfold eA
 by_cases e:sd B key d=0
 ·rw[if_pos e]
  rw[e]at wt wk
  refine⟨⟨h0,hd,pre,wk,wt⟩,fun k=>?_⟩
  show(if sd B k d=0 then(if k=key then some x else none)else aD B k t)=_
  by_cases ek:k=key
  ·subst ek;rw[if_pos e,if_pos rfl,if_pos rfl]
  ·rw[if_neg ek,if_neg ek]
   by_cases e2:sd B k d=0
   ·rw[if_pos e2,cD h,dc fun p hp z=>?_]
    have:=(hs p hp).2
    rw[z]at this;omega
   ·rw[if_neg e2]
 ·rw[if_neg e]
  have e1:sd B key d=1:=by omega
  rw[e1]at wt wk
  refine⟨⟨h0,hd,pre,wt,wk⟩,fun k=>?_⟩
  show(if sd B k d=0 then aD B k t else(if k=key then some x else none))=_
  by_cases ek:k=key
  ·subst ek;rw[if_neg e,if_pos rfl,if_pos rfl]
  ·rw[if_neg ek,if_neg ek]
   by_cases e2:sd B k d=0
   ·rw[if_pos e2]
   ·rw[if_neg e2,cD h,dc fun p hp z=>?_]
    have w:=(hs p hp).2
    have:=@eJ B k d
    rw[z]at w;omega
theorem jK {B key:Nat}{x:α}(hk:key<2^B):∀{t:Kn α}{d0 b0:Nat},d0≤B→WF B d0 b0 t→st B key d0=b0→WF B d0 b0 (cC B key x t)∧∀k,aD B k (cC B key x t)=if k=key then some x else aD B k t
 |.bare,_,_,_,h,_=>h.elim
 |.leaf k t,d0,b0,h0,h,hb=>by
  unfold cC
  by_cases e:key=k
  ·subst e
   rw[if_pos rfl]
   refine⟨h,fun k'=>?_⟩
   show(if k'=key then some x else none)=if k'=key then some x else(if k'=key then some t else none)
   by_cases e:k'=key
   ·rw[if_pos e,if_pos e]
   ·rw[if_neg e,if_neg e,if_neg e]
  ·rw[if_neg e]
   obtain⟨a1,a2,a3⟩:=ou hk h.1 e
   refine pj h hk a1 ?_ hb (fun p hp=>?_) fun _ _ _ _ z=>nomatch z
   ·apply MB
    intro hn
    apply a3
    have q:st B key (al B key k+1)=st B k (al B key k+1):=pQ (by omega) h0 (by rw[hb,h.2])
    rw[cw a1,cw a1]at q
    omega
   ·rw[LZ.mp hp]
    exact⟨a2.symm,Lt a3⟩
 |.fork d b l r,d0,b0,h0,h,hb=>by
  have hf:=h
  obtain⟨h1,h2,h3,hl,hr⟩:=h
  unfold cC
  by_cases e:st B key d=b
  ·rw[if_pos e]
   by_cases e2:sd B key d=0
   ·rw[if_pos e2]
    obtain⟨w,f⟩:=jK (x:=x) hk (by omega) hl (by rw[cw h2,e,e2];rfl)
    refine⟨⟨h1,h2,h3,w,hr⟩,fun k=>?_⟩
    show(if sd B k d=0 then aD B k (cC B key x l)else aD B k r)=if k=key then some x else(if sd B k d=0 then aD B k l else aD B k r)
    rw[f k]
    by_cases ek:k=key
    ·subst ek;rw[if_pos e2,if_pos rfl,if_pos rfl]
    ·rw[if_neg ek,if_neg ek]
   ·rw[if_neg e2]
    have lt:=@eJ B key d
    obtain⟨w,f⟩:=jK (x:=x) hk (by omega) hr (by rw[cw h2,e];omega)
    refine⟨⟨h1,h2,h3,hl,w⟩,fun k=>?_⟩
    show(if sd B k d=0 then aD B k l else aD B k (cC B key x r))=if k=key then some x else(if sd B k d=0 then aD B k l else aD B k r)
    rw[f k]
    by_cases ek:k=key
    ·subst ek;rw[if_neg e2,if_pos rfl,if_pos rfl]
    ·rw[if_neg ek,if_neg ek]
  ·rw[if_neg e]
   have all:∀p∈bg (Kn.fork d b l r),st B p.1 d=b∧p.1<2^B:=fun p hp=>⟨(Mu.mp hp).elim (fun z=>(hf.left p z).1) fun z=>(hf.right p z).1,(hf.mem h0 p hp).1⟩
   obtain⟨p0,hp0⟩:=WF.ne (d0:=0) (b0:=0) hf
   have stlt:∀k,k<2^B→st B k d<2^d:=fun k hk=>by
    unfold st
    rw[Pp (NJ _),←Pe,show d+(B- d)=B by omega]
    exact hk
   have hbl:b<2^d:=by rw[←(all p0 hp0).1];exact stlt _ (all p0 hp0).2
   obtain⟨a1,a2,a3⟩:=ou hbl (stlt key hk) (Lt e)
   generalize al d b (st B key d)=a at a1 a2 a3⊢
   have pp:∀k,st d (st B k d) a=st B k a:=fun k=>by
    unfold st
    rw[Ob,←Pe,show B- d+(d- a)=B- a by omega]
   have ps:∀k,sd d (st B k d) a=sd B k a:=fun k=>by
    unfold sd st
    rw[Ob,←Pe,show B- d+(d- 1- a)=B- 1- a by omega]
   have ea:∀p∈bg (Kn.fork d b l r),st B p.1 a=st B key a∧sd B p.1 a≠sd B key a:=fun p hp=>by
    have q:=(all p hp).1
    rw[←pp p.1,←pp key,←ps p.1,←ps key,q]
    exact⟨a2,a3⟩
   refine pj hf hk (by omega) ?_ hb ea fun e' _ _ _ z=>by cases z;exact a1
   apply MB
   intro hn
   apply(ea p0 hp0).2
   have q:st B p0.1 (a+1)=st B key (a+1):=pQ (by omega) h0 (by rw[hb,(hf.mem h0 p0 hp0).2])
   rw[cw (by omega),cw (by omega),(ea p0 hp0).1]at q
   omega
def aQ (B key:Nat):Kn α→Kn α
 |.bare=>.bare
 |.leaf k t=>if key=k then .bare else .leaf k t
 |.fork d b l r=>if sd B key d=0 then(match aQ B key l with|.bare=>r|u=>.fork d b u r)else(match aQ B key r with|.bare=>l|u=>.fork d b l u)
theorem gA {B key:Nat}:∀{t:Kn α}{d0 b0:Nat},d0≤B→WF B d0 b0 t→(aQ B key t=.bare∨WF B d0 b0 (aQ B key t))∧∀k,aD B k (aQ B key t)=if k=key then none else aD B k t
 |.bare,_,_,_,h=>h.elim
 |.leaf k t,d0,b0,h0,h=>by
  unfold aQ
  by_cases e:key=k
  ·subst e
   rw[if_pos rfl]
   refine⟨.inl rfl,fun k'=>?_⟩
   show none=if k'=key then none else(if k'=key then some t else none)
   by_cases e:k'=key
   ·rw[if_pos e]
   ·rw[if_neg e,if_neg e]
  ·rw[if_neg e]
   refine⟨.inr h,fun k'=>?_⟩
   show(if k'=k then some t else none)=if k'=key then none else(if k'=k then some t else none)
   by_cases e':k'=key
   ·rw[if_pos e',if_neg fun z=>e (e'.symm.trans z)]
   ·rw[if_neg e']
 |.fork d b l r,d0,b0,h0,h=>by
  have hf:=h
  obtain⟨h1,h2,h3,hl,hr⟩:=h
  have one:∀{u:Kn α},WF B (d+1) (2*b) u∨WF B (d+1) (2*b+1) u→WF B d0 b0 u:=fun{u} hu=>by
   have hm:∀p∈bg u,st B p.1 d=b:=fun p hp=>by
    rcases hu with hu|hu
    ·have c:=(hu.mem (by omega) p hp).2
     rw[cw h2]at c
     have:=@eJ B p.1 d
     omega
    ·have c:=(hu.mem (by omega) p hp).2
     rw[cw h2]at c
     have:=@eJ B p.1 d
     omega
   have hm0:∀p∈bg u,st B p.1 d0=b0:=fun p hp=>by rw[jq h1 (by omega),hm p hp];exact h3
   rcases hu with hu|hu
   ·exact hu.lift hm0 h0 (by omega) fun e b' l' r' z=>by subst z;have:=hu.1;omega
   ·exact hu.lift hm0 h0 (by omega) fun e b' l' r' z=>by subst z;have:=hu.1;omega
  unfold aQ
  by_cases e:sd B key d=0
  ·rw[if_pos e]
   obtain⟨w,f⟩:=gA (key:=key) (by omega) hl
   cases q:aQ B key l with
   |bare=>
    rw[q]at f
    refine⟨.inr (one (.inr hr)),fun k=>?_⟩
    show aD B k r=if k=key then none else(if sd B k d=0 then aD B k l else aD B k r)
    have fk:none=if k=key then none else aD B k l:=f k
    by_cases ek:k=key
    ·subst ek
     rw[if_pos rfl,cD hr,dc fun p hp z=>?_]
     have:=(hf.right p hp).2
     rw[z]at this;omega
    ·rw[if_neg ek]at fk⊢
     by_cases e2:sd B k d=0
     ·rw[if_pos e2,←fk,cD hr,dc fun p hp z=>?_]
      have:=(hf.right p hp).2
      rw[z]at this;omega
     ·rw[if_neg e2]
   |leaf k' t'=>
    rw[q]at w f
    have w':=w.resolve_left (by intro z;cases z)
    refine⟨.inr ⟨h1,h2,h3,w',hr⟩,fun k=>?_⟩
    show(if sd B k d=0 then aD B k (.leaf k' t')else aD B k r)=_
    rw[f k]
    show _=if k=key then none else(if sd B k d=0 then aD B k l else aD B k r)
    by_cases ek:k=key
    ·subst ek;rw[if_pos e,if_pos rfl,if_pos rfl]
    ·rw[if_neg ek,if_neg ek]
   |fork d' b' l' r'=>
    rw[q]at w f
    have w':=w.resolve_left (by intro z;cases z)
    refine⟨.inr ⟨h1,h2,h3,w',hr⟩,fun k=>?_⟩
    show(if sd B k d=0 then aD B k (.fork d' b' l' r')else aD B k r)=_
    rw[f k]
    show _=if k=key then none else(if sd B k d=0 then aD B k l else aD B k r)
    by_cases ek:k=key
    ·subst ek;rw[if_pos e,if_pos rfl,if_pos rfl]
    ·rw[if_neg ek,if_neg ek]
  ·rw[if_neg e]
   have e1:sd B key d=1:=by have:=@eJ B key d;omega
   obtain⟨w,f⟩:=gA (key:=key) (by omega) hr
   cases q:aQ B key r with
   |bare=>
    rw[q]at f
    refine⟨.inr (one (.inl hl)),fun k=>?_⟩
    show aD B k l=if k=key then none else(if sd B k d=0 then aD B k l else aD B k r)
    have fk:none=if k=key then none else aD B k r:=f k
    by_cases ek:k=key
    ·subst ek
     rw[if_pos rfl,cD hl,dc fun p hp z=>?_]
     have:=(hf.left p hp).2
     rw[z]at this;omega
    ·rw[if_neg ek]at fk⊢
     by_cases e2:sd B k d=0
     ·rw[if_pos e2]
     ·rw[if_neg e2,←fk,cD hl,dc fun p hp z=>?_]
      have:=(hf.left p hp).2
      rw[z]at this;omega
   |leaf k' t'=>
    rw[q]at w f
    have w':=w.resolve_left (by intro z;cases z)
    refine⟨.inr ⟨h1,h2,h3,hl,w'⟩,fun k=>?_⟩
    show(if sd B k d=0 then aD B k l else aD B k (.leaf k' t'))=_
    rw[f k]
    show _=if k=key then none else(if sd B k d=0 then aD B k l else aD B k r)
    by_cases ek:k=key
    ·subst ek;rw[if_neg e,if_pos rfl,if_pos rfl]
    ·rw[if_neg ek,if_neg ek]
   |fork d' b' l' r'=>
    rw[q]at w f
    have w':=w.resolve_left (by intro z;cases z)
    refine⟨.inr ⟨h1,h2,h3,hl,w'⟩,fun k=>?_⟩
    show(if sd B k d=0 then aD B k l else aD B k (.fork d' b' l' r'))=_
    rw[f k]
    show _=if k=key then none else(if sd B k d=0 then aD B k l else aD B k r)
    by_cases ek:k=key
    ·subst ek;rw[if_neg e,if_pos rfl,if_pos rfl]
    ·rw[if_neg ek,if_neg ek]
theorem tP:∀{l m:List (Nat×α)},gF l→gF m→(∀k,look k l=look k m)→l=m
 |[],[],_,_,_=>rfl
 |[],q::m,_,_,h=>by
  have:=h q.1
  have e:look q.1 (q::m)=some q.2:=if_pos rfl
  rw[e]at this;cases this
 |p::l,[],_,_,h=>by
  have:=h p.1
  have e:look p.1 (p::l)=some p.2:=if_pos rfl
  rw[e]at this;cases this
 |p::l,q::m,hl,hm,h=>by
  obtain⟨l1,l2⟩:=RF.mp hl
  obtain⟨m1,m2⟩:=RF.mp hm
  have no:∀{p:Nat×α}{l:List (Nat×α)},(∀q∈l,p.1<q.1)→∀k,k≤p.1→look k l=none:=fun hp k hk=>dc fun q hq z=>by have:=hp q hq;omega
  have ep:look p.1 (p::l)=some p.2:=if_pos rfl
  have eq:look q.1 (q::m)=some q.2:=if_pos rfl
  have e1:p.1=q.1:=by
   rcases Nat.lt_trichotomy p.1 q.1 with z|z|z
   ·have w:=h p.1
    rw[ep]at w
    have:look p.1 (q::m)=none:=by
     show(if p.1=q.1 then some q.2 else look p.1 m)=none
     rw[if_neg (by omega)]
     exact no m1 _ (by omega)
    rw[this]at w;cases w
   ·exact z
   ·have w:=h q.1
    rw[eq]at w
    have:look q.1 (p::l)=none:=by
     show(if q.1=p.1 then some p.2 else look q.1 l)=none
     rw[if_neg (by omega)]
     exact no l1 _ (by omega)
    rw[this]at w;cases w
  have e2:p=q:=by
   have w:=h p.1
   rw[ep,e1,eq]at w
   exact SI e1 (Me w)
  subst e2
  have e3:l=m:=tP l2 m2 fun k=>by
   by_cases e:k=p.1
   ·subst e;rw[no l1 _ (ah _),no m1 _ (ah _)]
   ·have w:=h k
    have a:look k (p::l)=look k l:=if_neg e
    have b:look k (p::m)=look k m:=if_neg e
    rw[a,b]at w;exact w
  rw[e3]
end
end Rs
namespace L2
open PySem PySem.Spec PyProof.Rows
section
variable {X:Cx}
def Ey (K:cW):R2:=fun x y H Q=>∃a b xs,x=.ref a∧y=.ref b∧SqL K H a xs∧SqL K H b []∧Q (.bl (decide (xs.length=0))) H
def Dr (K:cW):R2:=fun x y H Q=>∃a b xs,x=.ref a∧y=.ref b∧SqL K H a xs∧SqL K H b []∧Q (.bl (!decide (xs.length=0))) H
theorem Eu (hu:X.A.units<cLine):OpR X (compareOp .Eq) (Ey X.K):=by
 intro pins s σ H x y v u Q I rx ry h
 obtain⟨a,b,xs,rfl,rfl,ha,hb,q⟩:=h
 cases rx
 cases ry
 obtain⟨its,r1,p1,_⟩:=I.list ha
 obtain⟨its2,r2,p2,_⟩:=I.list hb
 have l1:=r1.length
 have l2:0=its2.length:=r2.length
 by_cases h0:xs.length=0
 ·rw[decide_eq_true h0]at q
  have z:its=[]:=Nu.mp (by omega)
  have z2:its2=[]:=Nu.mp (by omega)
  subst z z2
  exact PySem.SeqAt.eq_listAt (e:=fun _=>true) p1.isList p2.isList rfl hu (fun j h1 _=>absurd h1 (by simp)) ⟨.bl _,H,I,rfl,q⟩
 ·rw[decide_eq_false h0]at q
  refine PySem.SeqAt.eq_list_lengthsAt p1.isList p2.isList ?_ hu ⟨.bl _,H,I,rfl,q⟩
  rw[LP,LP]
  simp only[bne_iff_ne];omega
theorem ED (hu:X.A.units<cLine):OpR X (compareOp .NotEq) (Dr X.K):=by
 intro pins s σ H x y v u Q I rx ry h
 obtain⟨a,b,xs,rfl,rfl,ha,hb,q⟩:=h
 cases rx
 cases ry
 obtain⟨its,r1,p1,_⟩:=I.list ha
 obtain⟨its2,r2,p2,_⟩:=I.list hb
 have l1:=r1.length
 have l2:0=its2.length:=r2.length
 by_cases h0:xs.length=0
 ·rw[decide_eq_true h0]at q
  have z:its=[]:=Nu.mp (by omega)
  have z2:its2=[]:=Nu.mp (by omega)
  subst z z2
  exact RJ (e:=fun _=>true) p1.isList p2.isList rfl hu (fun j h1 _=>absurd h1 (by simp)) _ _ _ _ ⟨.bl _,H,I,rfl,q⟩
 ·rw[decide_eq_false h0]at q
  refine RI p1.isList p2.isList ?_ hu _ _ _ _ ⟨.bl _,H,I,rfl,q⟩
  rw[LP,LP]
  simp only[bne_iff_ne];omega
end
end L2
namespace Rs
open PySem PySem.Spec PyProof.Rows L2
abbrev gOp:=List Key→Option Key
def bj (s:Stmt)(j:Nat):Stmt:=match s with
 |.ClassDef _ _ _ b _ _ _ _ _ _ _=>b.getD j (.Pass ⟨0,0,0,0⟩)
 |_=>.Pass ⟨0,0,0,0⟩
def top (i:Nat):Stmt:=PySem.Challenge.pw_rootstamp_k52_a_house_is_dicts.main.body.getD i (.Pass ⟨0,0,0,0⟩)
abbrev xw:Stmt:=top 13
abbrev xr:Stmt:=top 14
abbrev wO:Stmt:=top 15
abbrev xA:Stmt:=bj (top 50) 1
abbrev xN:Stmt:=top 55
abbrev ww:Stmt:=bj (top 50) 0
abbrev jZ:Stmt:=top 51
abbrev ig:Stmt:=top 56
abbrev wU:Stmt:=top 53
abbrev vn:Stmt:=top 19
abbrev vI:Stmt:=bj (top 37) 0
abbrev s_0:Stmt:=bj (top 38) 0
abbrev mh:Stmt:=bj (top 43) 0
abbrev ve:Stmt:=bj (top 35) 0
abbrev yg:Stmt:=top 27
abbrev wY:Stmt:=top 33
abbrev xT:Stmt:=top 34
abbrev vE:Stmt:=bj (top 48) 1
abbrev xC:Stmt:=top 31
abbrev xF:Stmt:=top 32
abbrev my:Stmt:=bj (top 46) 0
abbrev xa:Stmt:=bj (top 48) 0
abbrev xO:Stmt:=top 58
abbrev vh:Stmt:=bj (top 43) 7
abbrev vt:Stmt:=bj (top 35) 12
abbrev vS:Stmt:=bj (top 46) 10
abbrev wK:Stmt:=top 57
abbrev wN:Stmt:=top 59
abbrev wm:Stmt:=top 60
abbrev xX:Stmt:=top 61
abbrev vb:Stmt:=top 20
abbrev s_1:Stmt:=bj (top 38) 1
abbrev wH:Stmt:=bj (top 39) 1
abbrev wz:Stmt:=top 22
abbrev s_9:Stmt:=bj (top 40) 2
abbrev s_7:Stmt:=bj (top 40) 4
abbrev ma:Stmt:=bj (top 43) 3
abbrev vd:Stmt:=top 21
abbrev xl:Stmt:=bj (top 39) 0
abbrev s_2:Stmt:=bj (top 38) 3
abbrev vU:Stmt:=top 23
abbrev s_4:Stmt:=bj (top 40) 0
abbrev xZ:Stmt:=top 41
abbrev vo:Stmt:=top 24
abbrev wJ:Stmt:=bj (top 39) 3
abbrev s_8:Stmt:=bj (top 40) 1
abbrev s_6:Stmt:=bj (top 40) 8
abbrev vH:Stmt:=bj (top 40) 6
abbrev mz:Stmt:=bj (top 43) 1
abbrev mn:Stmt:=bj (top 46) 1
abbrev s_3:Stmt:=bj (top 38) 4
abbrev yd:Stmt:=bj (top 39) 4
abbrev s_5:Stmt:=bj (top 40) 3
abbrev wn:Stmt:=bj (top 40) 7
abbrev mf:Stmt:=bj (top 43) 2
abbrev lS:Stmt:=bj (top 46) 2
abbrev yf:Stmt:=top 62
abbrev xR:Stmt:=bj (top 35) 1
abbrev wV:Stmt:=bj (top 43) 6
abbrev wj:Stmt:=bj (top 35) 2
abbrev xK:Stmt:=top 29
abbrev wu:Stmt:=bj (top 35) 4
abbrev xf:Stmt:=top 26
abbrev vq:Stmt:=bj (top 35) 11
abbrev vA:Stmt:=bj (top 35) 10
abbrev wy:Stmt:=bj (top 35) 6
abbrev wQ:Stmt:=bj (top 46) 5
abbrev vM:Stmt:=bj (top 46) 3
abbrev vN:Stmt:=top 54
abbrev va:Stmt:=top 63
abbrev xJ:Stmt:=top 28
abbrev xm:Stmt:=bj (top 35) 3
abbrev lK:Stmt:=bj (top 46) 4
abbrev vC:Stmt:=top 64
abbrev wZ:Stmt:=top 65
abbrev wx:Stmt:=top 66
abbrev vp:Stmt:=top 67
abbrev vY:Stmt:=top 69
abbrev vw:Stmt:=top 68
abbrev vi:Stmt:=top 70
def sAt (i:Nat)(l:List Stmt):Stmt:=l.getD i (.Pass ⟨0,0,0,0⟩)
def sIf:Stmt→List Stmt|.If _ a _ _=>a|_=>[]
def sG:Stmt→Expr|.Return (some e) _=>e|.Assign _ e _=>e|.Expr e _=>e|_=>.Constant .none 0 ⟨0,0,0,0⟩
def eI:Expr→Expr|.Lambda _ b _ _=>b|e=>e
def ii:Expr→Scope|.Lambda _ _ sc _=>sc|_=>{kind:=.function,names:=[],isGenerator:=false,isCoroutine:=false}
abbrev wo:Expr:=(sG (sAt 1 (aO jZ)))
def dI:da:=⟨(("counting":Str)++".<locals>.")++"<lambda>",.expr (eI wo),ii wo,["term"],["numbers"]⟩
abbrev vR:Expr:=(sG (sAt 0 (sIf (sAt 3 (aO ig)))))
def fg:da:=⟨(("_law_stamper":Str)++".<locals>.")++"<lambda>",.expr (eI vR),ii vR,["_law_term"],["_law_book"]⟩
abbrev wB:Expr:=(sG (sAt 0 (sIf (sAt 4 (aO ig)))))
def fi:da:=⟨(("_law_stamper":Str)++".<locals>.")++"<lambda>",.expr (eI wB),ii wB,["_law_one"],["_law_many"]⟩
abbrev xp:Expr:=(sG (sAt 5 (aO ig)))
def fh:da:=⟨(("_law_stamper":Str)++".<locals>.")++"<lambda>",.expr (eI xp),ii xp,["_law_other"],["_law_many"]⟩
set_option genInjectivity false in
set_option genSizeOf false in
abbrev Rd (sp:Sp)(t:TS)(N:List Str):Prop:=∀(vs:List V)(H:Hp)(Q:VK)(E:XK),sp vs H Q E→t {nx:=fun _ H'=>Q .non H',rt:=Q} (L2.start N vs) H
abbrev Ln (sp:Sp)(n:Nat):Prop:=∀vs H Q E,sp vs H Q E→vs.length=n
structure Adr where
 a_77:Addr
 d_77:LM
 a_74:Addr
 d_74:LM
 a_75:Addr
 d_75:LM
 a_25:Addr
 d_25:LM
 a_59:Addr
 d_59:LM
 a_24:Addr
 d_24:LM
 a_65:Addr
 d_65:LM
 a_55:Addr
 d_55:LM
 a_43:Addr
 d_43:LM
 a_68:Addr
 d_68:LM
 a_19:Addr
 d_19:LM
 a_0:Addr
 d_0:LM
 a_37:Addr
 d_37:LM
 a_26:Addr
 d_26:LM
 a_69:Addr
 d_69:LM
 a_71:Addr
 d_71:LM
 a_64:Addr
 d_64:LM
 a_36:Addr
 d_36:LM
 a_83:Addr
 d_83:LM
 a_80:Addr
 d_80:LM
 a_12:Addr
 d_12:LM
 a_35:Addr
 d_35:LM
 a_49:Addr
 d_49:LM
 a_41:Addr
 d_41:LM
 a_34:Addr
 d_34:LM
 a_17:Addr
 d_17:LM
 a_46:Addr
 d_46:LM
 a_47:Addr
 d_47:LM
 a_62:Addr
 d_62:LM
 a_54:Addr
 d_54:LM
 a_72:Addr
 d_72:LM
 a_1:Addr
 d_1:LM
 a_21:Addr
 d_21:LM
 a_81:Addr
 d_81:LM
 a_9:Addr
 d_9:LM
 a_7:Addr
 d_7:LM
 a_42:Addr
 d_42:LM
 a_76:Addr
 d_76:LM
 a_20:Addr
 d_20:LM
 a_2:Addr
 d_2:LM
 a_82:Addr
 d_82:LM
 a_4:Addr
 d_4:LM
 a_78:Addr
 d_78:LM
 a_63:Addr
 d_63:LM
 a_22:Addr
 d_22:LM
 a_8:Addr
 d_8:LM
 a_6:Addr
 d_6:LM
 a_10:Addr
 d_10:LM
 a_38:Addr
 d_38:LM
 a_15:Addr
 d_15:LM
 a_3:Addr
 d_3:LM
 a_23:Addr
 d_23:LM
 a_5:Addr
 d_5:LM
 a_11:Addr
 d_11:LM
 a_40:Addr
 d_40:LM
 a_16:Addr
 d_16:LM
 a_60:Addr
 d_60:LM
 a_27:Addr
 d_27:LM
 a_39:Addr
 d_39:LM
 a_31:Addr
 d_31:LM
 a_70:Addr
 d_70:LM
 a_28:Addr
 d_28:LM
 a_67:Addr
 d_67:LM
 a_33:Addr
 d_33:LM
 a_32:Addr
 d_32:LM
 a_30:Addr
 d_30:LM
 a_14:Addr
 d_14:LM
 a_13:Addr
 d_13:LM
 a_61:Addr
 d_61:LM
 a_48:Addr
 d_48:LM
 a_73:Addr
 d_73:LM
 a_29:Addr
 d_29:LM
 a_18:Addr
 d_18:LM
 a_44:Addr
 d_44:LM
 a_52:Addr
 d_52:LM
 a_51:Addr
 d_51:LM
 a_53:Addr
 d_53:LM
 a_45:Addr
 d_45:LM
 a_50:Addr
 d_50:LM
 a_79:Addr
 d_79:LM
 k_65:Addr
 t_65:Addr
 k_55:Addr
 t_55:Addr
 c_NoBits:Addr
 c_NoKey:Addr
 c_NoValue:Addr
 c_Missing:Addr
 c_NoPlace:Addr
 c_Numbers:Addr
 c_Knot:Addr
 c_Bare:Addr
 c_Seals:Addr
 c_Row:Addr
 c_Table:Addr
 c_House:Addr
 c_Fork:Addr
 c_Leaf:Addr
set_option genInjectivity false in
set_option genSizeOf false in
structure Txt (K:cW)(mg:Str→Option pv)(A:Adr):Prop where
 f_77:Fm K mg "is_whole" "is_whole" xw A.a_77 A.d_77 ["thing"]
 f_74:Fm K mg "is_stamp" "is_stamp" xr A.a_74 A.d_74 ["thing"]
 f_75:Fm K mg "is_term" "is_term" wO A.a_75 A.d_75 ["thing"]
 f_25:Fun K "number_of" "Numbers.number_of" xA A.a_25 A.d_25
 b_25:aH K A.d_25 ["self","term"] []
 f_59:Fm K mg "_law_sum" "_law_sum" xN A.a_59 A.d_59 ["_law_term"]
 f_24:Fun K "__init__" "Numbers.__init__" ww A.a_24 A.d_24
 b_24:aH K A.d_24 ["self"] []
 f_65:Fm K mg "counting" "counting" jZ A.a_65 A.d_65 []
 f_55:Fm K mg "_law_stamper" "_law_stamper" ig A.a_55 A.d_55 ["_law_cell"]
 f_43:Fm K mg "_law_cell_at" "_law_cell_at" wU A.a_43 A.d_43 ["_law_script","_law_k"]
 f_68:Fm K mg "is_bits" "is_bits" vn A.a_68 A.d_68 ["thing"]
 f_19:Fun K "__init__" "Knot.__init__" vI A.a_19 A.d_19
 b_19:aH K A.d_19 ["self","stamper","term"] []
 f_0:Fun K "__init__" "Bare.__init__" s_0 A.a_0 A.d_0
 b_0:aH K A.d_0 ["self","stamper"] []
 f_37:Fun K "__init__" "Table.__init__" mh A.a_37 A.d_37
 b_37:aH K A.d_37 ["self","stamper","bits"] []
 f_26:Fun K "__init__" "Row.__init__" ve A.a_26 A.d_26
 b_26:aH K A.d_26 ["self","stamper"] []
 f_69:Fm K mg "is_count" "is_count" yg A.a_69 A.d_69 ["thing"]
 f_71:Fm K mg "is_head" "is_head" wY A.a_71 A.d_71 ["thing"]
 f_64:Fm K mg "check_head" "check_head" xT A.a_64 A.d_64 ["thing"]
 f_36:Fun K "seal" "Seals.seal" vE A.a_36 A.d_36
 b_36:aH K A.d_36 ["self","head"] []
 f_83:Fm K mg "void_terms" "void_terms" xC A.a_83 A.d_83 ["stamper"]
 f_80:Fm K mg "none_head" "none_head" xF A.a_80 A.d_80 ["stamper"]
 f_12:Fun K "__init__" "House.__init__" my A.a_12 A.d_12
 b_12:aH K A.d_12 ["self","stamper","bits","seals"] []
 f_35:Fun K "__init__" "Seals.__init__" xa A.a_35 A.d_35
 b_35:aH K A.d_35 ["self"] []
 f_49:Fm K mg "_law_mix" "_law_mix" xO A.a_49 A.d_49 ["_law_cell","_law_k"]
 f_41:Fun K "twin" "Table.twin" vh A.a_41 A.d_41
 b_41:aH K A.d_41 ["self"] []
 f_34:Fun K "twin" "Row.twin" vt A.a_34 A.d_34
 b_34:aH K A.d_34 ["self"] []
 f_17:Fun K "twin" "House.twin" vS A.a_17 A.d_17
 b_17:aH K A.d_17 ["self"] []
 f_46:Fm K mg "_law_key" "_law_key" wK A.a_46 A.d_46 ["_law_cell","_law_bits"]
 f_47:Fm K mg "_law_key_for" "_law_key_for" wN A.a_47 A.d_47 ["_law_known","_law_cell","_law_number","_law_bits"]
 f_62:Fm K mg "_law_word" "_law_word" wm A.a_62 A.d_62 ["_law_number"]
 f_54:Fm K mg "_law_said" "_law_said" xX A.a_54 A.d_54 ["_law_found","_law_due"]
 f_72:Fm K mg "is_key" "is_key" vb A.a_72 A.d_72 ["bits","thing"]
 f_1:Fun K "found" "Bare.found" s_1 A.a_1 A.d_1
 b_1:aH K A.d_1 ["self","bits","key"] []
 f_21:Fun K "found" "Leaf.found" wH A.a_21 A.d_21
 b_21:aH K A.d_21 ["self","bits","key"] []
 f_81:Fm K mg "side" "side" wz A.a_81 A.d_81 ["bits","key","depth"]
 f_9:Fun K "toward" "Fork.toward" s_9 A.a_9 A.d_9
 b_9:aH K A.d_9 ["self","bits","key"] []
 f_7:Fun K "found" "Fork.found" s_7 A.a_7 A.d_7
 b_7:aH K A.d_7 ["self","bits","key"] []
 f_42:Fun K "value_of" "Table.value_of" ma A.a_42 A.d_42
 b_42:aH K A.d_42 ["self","key"] []
 f_76:Fm K mg "is_value" "is_value" vd A.a_76 A.d_76 ["thing"]
 f_20:Fun K "__init__" "Leaf.__init__" xl A.a_20 A.d_20
 b_20:aH K A.d_20 ["self","stamper","key","value"] []
 f_2:Fun K "with_key" "Bare.with_key" s_2 A.a_2 A.d_2
 b_2:aH K A.d_2 ["self","stamper","bits","key","value"] []
 f_82:Fm K mg "start" "start" vU A.a_82 A.d_82 ["bits","key","depth"]
 f_4:Fun K "__init__" "Fork.__init__" s_4 A.a_4 A.d_4
 b_4:aH K A.d_4 ["self","stamper","depth","begin","left","right"] []
 f_78:Fm K mg "joined" "joined" xZ A.a_78 A.d_78 ["stamper","bits","depth","leaf","knot"]
 f_63:Fm K mg "alike" "alike" vo A.a_63 A.d_63 ["bits","one","other"]
 f_22:Fun K "with_key" "Leaf.with_key" wJ A.a_22 A.d_22
 b_22:aH K A.d_22 ["self","stamper","bits","key","value"] []
 f_8:Fun K "leads" "Fork.leads" s_8 A.a_8 A.d_8
 b_8:aH K A.d_8 ["self","bits","key"] []
 f_6:Fun K "changed" "Fork.changed" s_6 A.a_6 A.d_6
 b_6:aH K A.d_6 ["self","stamper","bits","key","knot"] []
 f_10:Fun K "with_key" "Fork.with_key" vH A.a_10 A.d_10
 b_10:aH K A.d_10 ["self","stamper","bits","key","value"] []
 f_38:Fun K "put" "Table.put" mz A.a_38 A.d_38
 b_38:aH K A.d_38 ["self","key","value"] []
 f_15:Fun K "put" "House.put" mn A.a_15 A.d_15
 b_15:aH K A.d_15 ["self","key","value"] []
 f_3:Fun K "without" "Bare.without" s_3 A.a_3 A.d_3
 b_3:aH K A.d_3 ["self","stamper","bits","key"] []
 f_23:Fun K "without" "Leaf.without" yd A.a_23 A.d_23
 b_23:aH K A.d_23 ["self","stamper","bits","key"] []
 f_5:Fun K "aside" "Fork.aside" s_5 A.a_5 A.d_5
 b_5:aH K A.d_5 ["self","bits","key"] []
 f_11:Fun K "without" "Fork.without" wn A.a_11 A.d_11
 b_11:aH K A.d_11 ["self","stamper","bits","key"] []
 f_40:Fun K "take" "Table.take" mf A.a_40 A.d_40
 b_40:aH K A.d_40 ["self","key"] []
 f_16:Fun K "take" "House.take" lS A.a_16 A.d_16
 b_16:aH K A.d_16 ["self","key"] []
 f_60:Fm K mg "_law_taken" "_law_taken" yf A.a_60 A.d_60 ["_law_house","_law_known","_law_key_here"]
 f_27:Fun K "add" "Row.add" xR A.a_27 A.d_27
 b_27:aH K A.d_27 ["self","entry"] []
 f_39:Fun K "root" "Table.root" wV A.a_39 A.d_39
 b_39:aH K A.d_39 ["self"] []
 f_31:Fun K "size" "Row.size" wj A.a_31 A.d_31
 b_31:aH K A.d_31 ["self"] []
 f_70:Fm K mg "is_elder" "is_elder" xK A.a_70 A.d_70 ["count","elder"]
 f_28:Fun K "has_elder" "Row.has_elder" wu A.a_28 A.d_28
 b_28:aH K A.d_28 ["self","count","elder"] []
 f_67:Fm K mg "half" "half" xf A.a_67 A.d_67 ["many"]
 f_33:Fun K "top_term" "Row.top_term" vq A.a_33 A.d_33
 b_33:aH K A.d_33 ["self","first","many"] []
 f_32:Fun K "top_of" "Row.top_of" vA A.a_32 A.d_32
 b_32:aH K A.d_32 ["self","first","many"] []
 f_30:Fun K "mark_at" "Row.mark_at" wy A.a_30 A.d_30
 b_30:aH K A.d_30 ["self","count"] []
 f_14:Fun K "newest" "House.newest" wQ A.a_14 A.d_14
 b_14:aH K A.d_14 ["self"] []
 f_13:Fun K "make" "House.make" vM A.a_13 A.d_13
 b_13:aH K A.d_13 ["self"] []
 f_61:Fm K mg "_law_whole" "_law_whole" vN A.a_61 A.d_61 ["_law_found"]
 f_48:Fm K mg "_law_made" "_law_made" va A.a_48 A.d_48 ["_law_house","_law_known","_law_makes"]
 f_73:Fm K mg "is_place" "is_place" xJ A.a_73 A.d_73 ["count","place"]
 f_29:Fun K "has_place" "Row.has_place" xm A.a_29 A.d_29
 b_29:aH K A.d_29 ["self","count","place"] []
 f_18:Fun K "value_at" "House.value_at" lK A.a_18 A.d_18
 b_18:aH K A.d_18 ["self","place","key"] []
 f_44:Fm K mg "_law_deed" "_law_deed" vC A.a_44 A.d_44 ["_law_house","_law_known","_law_makes","_law_cell","_law_number","_law_bits"]
 f_52:Fm K mg "_law_no_place" "_law_no_place" wZ A.a_52 A.d_52 ["_law_house","_law_place","_law_key_here"]
 f_51:Fm K mg "_law_no_key" "_law_no_key" wx A.a_51 A.d_51 ["_law_house","_law_key_here","_law_there"]
 f_53:Fm K mg "_law_no_value" "_law_no_value" vp A.a_53 A.d_53 ["_law_house","_law_text"]
 f_45:Fm K mg "_law_holds" "_law_holds" vY A.a_45 A.d_45 ["_law_house","_law_makes","_law_keys","_law_bits"]
 f_50:Fm K mg "_law_no_bits" "_law_no_bits" vw A.a_50 A.d_50 ["_law_bits"]
 f_79:Fm K mg "law" "law" vi A.a_79 A.d_79 ["_law_script"]
 z_all:mg "all"=none
 z_bool:mg "bool"=none
 z_dict:mg "dict"=none
 z_int:mg "int"=none
 z_isinstance:mg "isinstance"=none
 z_len:mg "len"=none
 z_list:mg "list"=none
 z_min:mg "min"=none
 z_ord:mg "ord"=none
 z_range:mg "range"=none
 z_sorted:mg "sorted"=none
 z_str:mg "str"=none
 z_tuple:mg "tuple"=none
 c_MOST_BITS:∃t,mg "MOST_BITS"=some (.int 60 t)
 c_MOST_PARTS:∃t,mg "MOST_PARTS"=some (.int 8 t)
 c_MOST_SIGNS:∃t,mg "MOST_SIGNS"=some (.int 60 t)
 kc_65:A.d_65.code=.ref A.k_65
 kc_55:A.d_55.code=.ref A.k_55
 mc_NoBits:mg "NoBits"=some (.ref A.c_NoBits)
 eo_NoBits:du K A.c_NoBits
 mc_NoKey:mg "NoKey"=some (.ref A.c_NoKey)
 eo_NoKey:du K A.c_NoKey
 mc_NoValue:mg "NoValue"=some (.ref A.c_NoValue)
 eo_NoValue:du K A.c_NoValue
 mc_Missing:mg "Missing"=some (.ref A.c_Missing)
 eo_Missing:du K A.c_Missing
 mc_NoPlace:mg "NoPlace"=some (.ref A.c_NoPlace)
 eo_NoPlace:du K A.c_NoPlace
 er_NoBits:cL K A.c_NoBits
 er_NoKey:cL K A.c_NoKey
 er_NoValue:cL K A.c_NoValue
 er_Missing:cL K A.c_Missing
 er_NoPlace:cL K A.c_NoPlace
 eg_NoBits:iV K A.c_NoBits
 eg_NoKey:iV K A.c_NoKey
 eg_NoValue:iV K A.c_NoValue
 eg_Missing:iV K A.c_Missing
 eg_NoPlace:iV K A.c_NoPlace
 sb_NoBits_Missing:bQ K A.c_NoBits A.c_Missing=some false
 sb_NoBits_NoPlace:bQ K A.c_NoBits A.c_NoPlace=some false
 sb_NoBits_NoKey:bQ K A.c_NoBits A.c_NoKey=some false
 sb_NoBits_NoValue:bQ K A.c_NoBits A.c_NoValue=some false
 sb_NoBits_NoBits:bQ K A.c_NoBits A.c_NoBits=some true
 sb_NoKey_Missing:bQ K A.c_NoKey A.c_Missing=some false
 sb_NoKey_NoPlace:bQ K A.c_NoKey A.c_NoPlace=some false
 sb_NoKey_NoKey:bQ K A.c_NoKey A.c_NoKey=some true
 sb_NoKey_NoValue:bQ K A.c_NoKey A.c_NoValue=some false
 sb_NoKey_NoBits:bQ K A.c_NoKey A.c_NoBits=some false
 sb_NoValue_Missing:bQ K A.c_NoValue A.c_Missing=some false
 sb_NoValue_NoPlace:bQ K A.c_NoValue A.c_NoPlace=some false
 sb_NoValue_NoKey:bQ K A.c_NoValue A.c_NoKey=some false
 sb_NoValue_NoValue:bQ K A.c_NoValue A.c_NoValue=some true
 sb_NoValue_NoBits:bQ K A.c_NoValue A.c_NoBits=some false
 sb_Missing_Missing:bQ K A.c_Missing A.c_Missing=some true
 sb_Missing_NoPlace:bQ K A.c_Missing A.c_NoPlace=some false
 sb_Missing_NoKey:bQ K A.c_Missing A.c_NoKey=some false
 sb_Missing_NoValue:bQ K A.c_Missing A.c_NoValue=some false
 sb_Missing_NoBits:bQ K A.c_Missing A.c_NoBits=some false
 sb_NoPlace_Missing:bQ K A.c_NoPlace A.c_Missing=some false
 sb_NoPlace_NoPlace:bQ K A.c_NoPlace A.c_NoPlace=some true
 sb_NoPlace_NoKey:bQ K A.c_NoPlace A.c_NoKey=some false
 sb_NoPlace_NoValue:bQ K A.c_NoPlace A.c_NoValue=some false
 sb_NoPlace_NoBits:bQ K A.c_NoPlace A.c_NoBits=some false
 mc_Numbers:mg "Numbers"=some (.ref A.c_Numbers)
 cl_Numbers:Cls K A.c_Numbers
 na_Numbers_given:ba K A.c_Numbers "given"
 mc_Knot:mg "Knot"=some (.ref A.c_Knot)
 cl_Knot:Cls K A.c_Knot
 na_Knot_term:ba K A.c_Knot "term"
 na_Knot_mark:ba K A.c_Knot "mark"
 mc_Bare:mg "Bare"=some (.ref A.c_Bare)
 cl_Bare:Cls K A.c_Bare
 na_Bare_term:ba K A.c_Bare "term"
 na_Bare_mark:ba K A.c_Bare "mark"
 mc_Seals:mg "Seals"=some (.ref A.c_Seals)
 cl_Seals:Cls K A.c_Seals
 na_Seals_sealed:ba K A.c_Seals "sealed"
 mc_Row:mg "Row"=some (.ref A.c_Row)
 cl_Row:Cls K A.c_Row
 na_Row_stamper:ba K A.c_Row "stamper"
 na_Row_entries:ba K A.c_Row "entries"
 na_Row_tops:ba K A.c_Row "tops"
 mc_Table:mg "Table"=some (.ref A.c_Table)
 cl_Table:Cls K A.c_Table
 na_Table_stamper:ba K A.c_Table "stamper"
 na_Table_bits:ba K A.c_Table "bits"
 na_Table_top:ba K A.c_Table "top"
 mc_House:mg "House"=some (.ref A.c_House)
 cl_House:Cls K A.c_House
 na_House_table:ba K A.c_House "table"
 na_House_row:ba K A.c_House "row"
 na_House_makes:ba K A.c_House "makes"
 na_House_seals:ba K A.c_House "seals"
 mc_Fork:mg "Fork"=some (.ref A.c_Fork)
 cl_Fork:Cls K A.c_Fork
 na_Fork_depth:ba K A.c_Fork "depth"
 na_Fork_begin:ba K A.c_Fork "begin"
 na_Fork_left:ba K A.c_Fork "left"
 na_Fork_right:ba K A.c_Fork "right"
 na_Fork_term:ba K A.c_Fork "term"
 na_Fork_mark:ba K A.c_Fork "mark"
 mc_Leaf:mg "Leaf"=some (.ref A.c_Leaf)
 cl_Leaf:Cls K A.c_Leaf
 na_Leaf_key:ba K A.c_Leaf "key"
 na_Leaf_text:ba K A.c_Leaf "text"
 na_Leaf_term:ba K A.c_Leaf "term"
 na_Leaf_mark:ba K A.c_Leaf "mark"
 me_Seals_seal:bO K A.c_Seals "seal" A.a_36
 me_Row_twin:bO K A.c_Row "twin" A.a_34
 me_Table_twin:bO K A.c_Table "twin" A.a_41
 me_Fork_toward:bO K A.c_Fork "toward" A.a_9
 me_Bare_found:bO K A.c_Bare "found" A.a_1
 me_Leaf_found:bO K A.c_Leaf "found" A.a_21
 me_Fork_found:bO K A.c_Fork "found" A.a_7
 me_Fork_changed:bO K A.c_Fork "changed" A.a_6
 me_Bare_with_key:bO K A.c_Bare "with_key" A.a_2
 me_Leaf_with_key:bO K A.c_Leaf "with_key" A.a_22
 me_Fork_with_key:bO K A.c_Fork "with_key" A.a_10
 me_Fork_leads:bO K A.c_Fork "leads" A.a_8
 me_Table_value_of:bO K A.c_Table "value_of" A.a_42
 me_Table_put:bO K A.c_Table "put" A.a_38
 me_Fork_aside:bO K A.c_Fork "aside" A.a_5
 me_Bare_without:bO K A.c_Bare "without" A.a_3
 me_Leaf_without:bO K A.c_Leaf "without" A.a_23
 me_Fork_without:bO K A.c_Fork "without" A.a_11
 me_Table_take:bO K A.c_Table "take" A.a_40
 me_House_take:bO K A.c_House "take" A.a_16
 me_Row_size:bO K A.c_Row "size" A.a_31
 me_Row_top_of:bO K A.c_Row "top_of" A.a_32
 me_Row_top_term:bO K A.c_Row "top_term" A.a_33
 me_Row_has_elder:bO K A.c_Row "has_elder" A.a_28
 me_Row_mark_at:bO K A.c_Row "mark_at" A.a_30
 me_House_newest:bO K A.c_House "newest" A.a_14
 me_Row_add:bO K A.c_Row "add" A.a_27
 me_Table_root:bO K A.c_Table "root" A.a_39
 me_House_make:bO K A.c_House "make" A.a_13
 me_Row_has_place:bO K A.c_Row "has_place" A.a_29
 me_House_value_at:bO K A.c_House "value_at" A.a_18
 me_House_put:bO K A.c_House "put" A.a_15
 me_House_twin:bO K A.c_House "twin" A.a_17
 me_Numbers_number_of:bO K A.c_Numbers "number_of" A.a_25
 mk_Numbers:Mk K A.c_Numbers A.a_24
 mk_Bare:Mk K A.c_Bare A.a_0
 mk_Row:Mk K A.c_Row A.a_26
 mk_Table:Mk K A.c_Table A.a_37
 mk_House:Mk K A.c_House A.a_12
 mk_Leaf:Mk K A.c_Leaf A.a_20
 mk_Fork:Mk K A.c_Fork A.a_4
 mk_Seals:Mk K A.c_Seals A.a_35
 cf_Knot:yX K A.c_Knot "__init__" A.a_19
 oi_Bare:kU K A.c_Bare
 oi_Fork:kU K A.c_Fork
 oi_Leaf:kU K A.c_Leaf
 ko_Bare_Bare:Oy K (.ref A.c_Bare) (.ref A.c_Bare)=some true
 ko_Fork_Bare:Oy K (.ref A.c_Fork) (.ref A.c_Bare)=some false
 ko_Leaf_Bare:Oy K (.ref A.c_Leaf) (.ref A.c_Bare)=some false
def yp (A:Adr)(H:Hp):Prop:=H A.t_65=some (.tbl #[])∧H A.t_55=some (.tbl #[])∧([A.t_65,A.t_55]:List Addr).Nodup
theorem Iy:eZ ["term","numbers"] ["term"] ["numbers"] dI.scope:=⟨rfl,rfl,rfl,by decide+kernel,rfl,rfl,by decide+kernel,by decide+kernel,by decide+kernel,by decide+kernel,by decide+kernel⟩
theorem Fo:eZ ["_law_term","_law_book"] ["_law_term"] ["_law_book"] fg.scope:=⟨rfl,rfl,rfl,by decide+kernel,rfl,rfl,by decide+kernel,by decide+kernel,by decide+kernel,by decide+kernel,by decide+kernel⟩
theorem Ht:eZ ["_law_one","_law_many"] ["_law_one"] ["_law_many"] fi.scope:=⟨rfl,rfl,rfl,by decide+kernel,rfl,rfl,by decide+kernel,by decide+kernel,by decide+kernel,by decide+kernel,by decide+kernel⟩
theorem Hm:eZ ["_law_other","_law_many"] ["_law_other"] ["_law_many"] fh.scope:=⟨rfl,rfl,rfl,by decide+kernel,rfl,rfl,by decide+kernel,by decide+kernel,by decide+kernel,by decide+kernel,by decide+kernel⟩
theorem Hq:aw ["thing"] ["thing"] (ai xw):=scF
theorem Jk:aw ["thing"] ["thing"] (ai xr):=scF
theorem Ge:aw ["thing"] ["thing"] (ai wO):=scF
theorem EL:aw ["self","term"] ["self","term"] (ai xA):=scF
theorem gp:aw ["_law_term","_law_total","_law_part","_law_sign"] ["_law_term"] (ai xN):=scF
theorem Ff:aw ["self"] ["self"] (ai ww):=scF
theorem zB:aw ["numbers"] [] (ai jZ):=scF
theorem sH:aw ["_law_cell","_law_book","_law_many"] ["_law_cell"] (ai ig):=scF
theorem IE:aw ["_law_script","_law_k"] ["_law_script","_law_k"] (ai wU):=scF
theorem FZ:aw ["thing"] ["thing"] (ai vn):=scF
theorem GF:aw ["self","stamper","term"] ["self","stamper","term"] (ai vI):=scF
theorem Ju:aw ["self","stamper"] ["self","stamper"] (ai s_0):=scF
theorem Ip:aw ["self","stamper","bits"] ["self","stamper","bits"] (ai mh):=scF
theorem FL:aw ["self","stamper"] ["self","stamper"] (ai ve):=scF
theorem EV:aw ["thing"] ["thing"] (ai yg):=scF
theorem Hh:aw ["thing"] ["thing"] (ai wY):=scF
theorem Hu:aw ["thing"] ["thing"] (ai xT):=scF
theorem IK:aw ["self","head"] ["self","head"] (ai vE):=scF
theorem FV:aw ["stamper"] ["stamper"] (ai xC):=scF
theorem GH:aw ["stamper"] ["stamper"] (ai xF):=scF
theorem HS:aw ["self","stamper","bits","seals"] ["self","stamper","bits","seals"] (ai my):=scF
theorem Hz:aw ["self"] ["self"] (ai xa):=scF
theorem Jj:aw ["_law_cell","_law_k"] ["_law_cell","_law_k"] (ai xO):=scF
theorem ze:aw ["self","other"] ["self"] (ai vh):=scF
theorem zu:aw ["self","other"] ["self"] (ai vt):=scF
theorem zg:aw ["self","other"] ["self"] (ai vS):=scF
theorem zf:aw ["_law_cell","_law_bits","_law_top"] ["_law_cell","_law_bits"] (ai wK):=scF
theorem oG:aw ["_law_known","_law_cell","_law_number","_law_bits","_law_keys","_law_way","_law_key_here"] ["_law_known","_law_cell","_law_number","_law_bits"] (ai wN):=scF
theorem sS:aw ["_law_number","_law_letters","_law_size"] ["_law_number"] (ai wm):=scF
theorem Fv:aw ["_law_found","_law_due"] ["_law_found","_law_due"] (ai xX):=scF
theorem Jd:aw ["bits","thing"] ["bits","thing"] (ai vb):=scF
theorem KY:aw ["self","bits","key"] ["self","bits","key"] (ai s_1):=scF
theorem Gj:aw ["self","bits","key"] ["self","bits","key"] (ai wH):=scF
theorem IC:aw ["bits","key","depth"] ["bits","key","depth"] (ai wz):=scF
theorem Ki:aw ["self","bits","key"] ["self","bits","key"] (ai s_9):=scF
theorem JI:aw ["self","bits","key"] ["self","bits","key"] (ai s_7):=scF
theorem Gb:aw ["self","key"] ["self","key"] (ai ma):=scF
theorem HR:aw ["thing"] ["thing"] (ai vd):=scF
theorem Hv:aw ["self","stamper","key","value"] ["self","stamper","key","value"] (ai xl):=scF
theorem Lp:aw ["self","stamper","bits","key","value"] ["self","stamper","bits","key","value"] (ai s_2):=scF
theorem IS:aw ["bits","key","depth"] ["bits","key","depth"] (ai vU):=scF
theorem KW:aw ["self","stamper","depth","begin","left","right"] ["self","stamper","depth","begin","left","right"] (ai s_4):=scF
theorem yO:aw ["stamper","bits","depth","leaf","knot","begin"] ["stamper","bits","depth","leaf","knot"] (ai xZ):=scF
theorem IZ:aw ["bits","one","other"] ["bits","one","other"] (ai vo):=scF
theorem zj:aw ["self","stamper","bits","key","value","leaf"] ["self","stamper","bits","key","value"] (ai wJ):=scF
theorem Lb:aw ["self","bits","key"] ["self","bits","key"] (ai s_8):=scF
theorem Js:aw ["self","stamper","bits","key","knot"] ["self","stamper","bits","key","knot"] (ai s_6):=scF
theorem yY:aw ["self","stamper","bits","key","value","depth"] ["self","stamper","bits","key","value"] (ai vH):=scF
theorem yi:aw ["self","key","value","before"] ["self","key","value"] (ai mz):=scF
theorem Ji:aw ["self","key","value"] ["self","key","value"] (ai mn):=scF
theorem JB:aw ["self","stamper","bits","key"] ["self","stamper","bits","key"] (ai s_3):=scF
theorem GR:aw ["self","stamper","bits","key"] ["self","stamper","bits","key"] (ai yd):=scF
theorem Ka:aw ["self","bits","key"] ["self","bits","key"] (ai s_5):=scF
theorem yr:aw ["self","stamper","bits","key","rest"] ["self","stamper","bits","key"] (ai wn):=scF
theorem zD:aw ["self","key","before"] ["self","key"] (ai mf):=scF
theorem Fx:aw ["self","key"] ["self","key"] (ai lS):=scF
theorem lD:aw ["_law_house","_law_known","_law_key_here","_law_refused","_law_found"] ["_law_house","_law_known","_law_key_here"] (ai yf):=scF
theorem FX:aw ["self","entry"] ["self","entry"] (ai xR):=scF
theorem Gu:aw ["self"] ["self"] (ai wV):=scF
theorem HK:aw ["self"] ["self"] (ai wj):=scF
theorem HG:aw ["count","elder"] ["count","elder"] (ai xK):=scF
theorem Hx:aw ["self","count","elder"] ["self","count","elder"] (ai wu):=scF
theorem HL:aw ["many"] ["many"] (ai xf):=scF
theorem yC:aw ["self","first","many","ahead"] ["self","first","many"] (ai vq):=scF
theorem yA:aw ["self","first","many","part"] ["self","first","many"] (ai vA):=scF
theorem Jm:aw ["self","count"] ["self","count"] (ai wy):=scF
theorem zd:aw ["self","count"] ["self"] (ai wQ):=scF
theorem yj:aw ["self","head"] ["self"] (ai vM):=scF
theorem Jc:aw ["_law_found"] ["_law_found"] (ai vN):=scF
theorem yk:aw ["_law_house","_law_known","_law_makes","_law_head"] ["_law_house","_law_known","_law_makes"] (ai va):=scF
theorem GB:aw ["count","place"] ["count","place"] (ai xJ):=scF
theorem FR:aw ["self","count","place"] ["self","count","place"] (ai xm):=scF
theorem IX:aw ["self","place","key"] ["self","place","key"] (ai lK):=scF
theorem kA:aw ["_law_house","_law_known","_law_makes","_law_cell","_law_number","_law_bits","_law_key_here","_law_text","_law_due","_law_place"] ["_law_house","_law_known","_law_makes","_law_cell","_law_number","_law_bits"] (ai vC):=scF
theorem rZ:aw ["_law_house","_law_place","_law_key_here","_law_refused"] ["_law_house","_law_place","_law_key_here"] (ai wZ):=scF
theorem jj:aw ["_law_house","_law_key_here","_law_there","_law_refused"] ["_law_house","_law_key_here","_law_there"] (ai wx):=scF
theorem sN:aw ["_law_house","_law_text","_law_refused"] ["_law_house","_law_text"] (ai vp):=scF
theorem nH:aw ["_law_house","_law_makes","_law_keys","_law_bits","_law_place","_law_key_here"] ["_law_house","_law_makes","_law_keys","_law_bits"] (ai vY):=scF
theorem rD:aw ["_law_bits","_law_refused"] ["_law_bits"] (ai vw):=scF
theorem fj:aw ["_law_script","_law_stamper_here","_law_bits","_law_houses","_law_books","_law_makes","_law_k","_law_number","_law_which","_law_keys"] ["_law_script"] (ai vi):=scF
inductive Dat where
 |non
 |bl (b:Bool)
 |int (i:Int)
 |str (z:Str)
 |lst (ds:List Dat)
 |tup (ds:List Dat)
 |dic
mutual
inductive bc (H:Hp):V→Dat→Prop
 |non:bc H .non .non
 |bl (b):bc H (.bl b) (.bl b)
 |int (i):bc H (.int i) (.int i)
 |str (z):bc H (.str z) (.str z)
 |lst {a xs ds}:H a=some (.lst xs)→DatWs H xs ds→bc H (.ref a) (.lst ds)
 |tup {a xs ds}:H a=some (.tup xs)→DatWs H xs ds→bc H (.ref a) (.tup ds)
 |dic {a}:(∃kvs,H a=some (.dK kvs))→bc H (.ref a) .dic
inductive DatWs (H:Hp):List V→List Dat→Prop
 |nil:DatWs H [] []
 |cons {x xs d ds}:bc H x d→DatWs H xs ds→DatWs H (x::xs) (d::ds)
end
mutual
def pS:Dat→SF
 |.non=>.none
 |.bl b=>.bool b
 |.int i=>.int i
 |.str z=>.str z
 |.lst ds=>.list (toPys ds)
 |.tup ds=>.tuple (toPys ds)
 |.dic=>.none
def toPys:List Dat→List SF
 |[]=>[]
 |d::r=>pS d::toPys r
end
def cf (z:Str):Bool:=z.cps.all (·<128)
mutual
def okD:Dat→Bool
 |.str z=>cf z&&decide (z.length≤100000)
 |.lst ds=>okDs ds
 |.tup ds=>okDs ds
 |.dic=>false
 |.non=>true
 |.bl _=>true
 |.int _=>true
def okDs:List Dat→Bool
 |[]=>true
 |d::r=>okD d&&okDs r
end
def jX:Dat→Bool
 |.int _=>true
 |_=>false
def dD:Dat→Bool
 |.int i=>decide (0≤i∧i<10^60)
 |.str _=>true
 |_=>false
def dN (bits:Int):Dat→Bool
 |.int i=>decide (0≤i∧i<2^bits.toNat)
 |_=>false
def dQ:Dat→Bool
 |.str z=>decide (z.length≤60)
 |_=>false
def lp (bits key depth:Int):Int:=key/2^(bits- depth).toNat
def fG (K:cW)(A:Adr):Sp:=fun vs H Q _=>∃v d,vs=[v]∧bc H v d∧Q (.bl (jX d)) H
def jy (K:cW)(A:Adr):Sp:=fun vs H Q _=>∃v d,vs=[v]∧bc H v d∧Q (.bl (dD d)) H
def jV:Key→Dat
 |.inl i=>.int i
 |.inr z=>.str z
def szK:Key→Nat
 |.inl _=>62
 |.inr z=>z.length+62
def okP:Key→Bool
 |.inl i=>decide (0≤i∧i<10^60)
 |.inr z=>cf z&&decide (z.length≤100000)
def Gk:Key→Bool
 |.inr _=>true
 |.inl _=>false
def okT (k:List Key):Bool:=decide (1≤k.length∧k.length≤8)&&(k.head?.map Gk).getD false&&k.all okP
def szT (k:List Key):Nat:=(k.map szK).sum
def sj (k:List Key):Key→Prop
 |.inl i=>0≤i∧i<10^60
 |.inr z=>cf z=true∧z.length≤szT k
def bG (kvs:List (List Key×Key)):List (List Key×V):=kvs.map fun p=>(p.1,kV p.2)
def ci (kvs:List (List Key×Key))(k:List Key):Option Key:=(kvs.find? fun p=>decide (p.1=k)).map (·.2)
def gc:Key→Prop
 |.inl i=>0≤i∧i<10^60
 |.inr z=>cf z=true∧z.length≤62
def fq (kvs:List (List Key×Key)):Prop:=∀p∈kvs,gc p.2
structure fF (A:Adr)(H:Hp)(x d:Addr)(kvs:List (List Key×V)):Prop where
 ob:∃dx,H x=some (.ins A.c_Numbers dx [("given",.ref d)])
 di:H d=some (.dT kvs)
def br (b:Addr)(H H':Hp):Prop:=∀x o,x≠b→H x=some o→H' x=some o
def nI (t:Int)(c:Nat):Int:=t*3+(c:Int)
def og (t:Int):Key→Int
 |.inl i=>(t*5+i)%1000000007
 |.inr z=>((Of z none (some 6)).cps.toList.foldl nI (t*7+3*(z.length:Int)))%1000000007
def eT (k:List Key):Int:=k.foldl og 0
def nj (m:Int)(k:List Key):Key:=.inr (("s":Str)++((toString (eT k%m):String):Str))
inductive Stp (A:Adr)(H:Hp)(f b:Addr)(g:gOp)(n:Nat):Prop
 |cnt (q x:Addr) (kvs:List (List Key×Key)) (hc:dY H f dI [q] [.ref x]) (num:fF A H x b (bG kvs)) (hl:kvs.length≤n) (hs:fq kvs) (hg:g=ci kvs)
 |sur (q:Addr) (kvs:List (List Key×Key)) (hc:dY H f fg [q] [.ref b]) (hb:H b=some (.dT (bG kvs))) (hl:kvs.length≤n) (hs:fq kvs) (hg:g=ci kvs)
 |wi (q:Addr) (m:Int) (kvs:List (List Key×V)) (h1:1≤m) (h2:m≤9) (hc:dY H f fi [q] [.int m]) (hb:H b=some (.dT kvs)) (hg:g=fun k=>some (.inl (eT k%m)))
 |wt (q:Addr) (m:Int) (kvs:List (List Key×V)) (h1:1≤m) (h2:m≤9) (hc:dY H f fh [q] [.int m]) (hb:H b=some (.dT kvs)) (hg:g=fun k=>some (nj m k))
def Sub (g g':gOp):Prop:=∀k v,g k=some v→g' k=some v
def oS (K:cW)(A:Adr):Sp:=fun vs H Q _=>∃(p:Addr)(k:List Key),vs=[.ref p]∧H p=some (.tup (k.map kV))∧okT k=true∧∀H',ax H H'→Q (.bl true) H'
def gU (kvs:List (List Key×V))(kk:List Key)(d:V):V:=(bY kvs kk).getD d
def hZ (H:Hp)(b:Addr)(kvs:List (List Key×V))(kk:List Key)(d:V):Hp:=if (bY kvs kk).isSome=true then H else upd H b (.dT (bX kvs kk d))
def nV (K:cW)(A:Adr):Sp:=fun vs H Q _=>∃x dx,vs=[.ref x]∧H x=some (.ins A.c_Numbers dx [])∧∀d,H d=none→Q .non (upd (upd H d (.dT [])) x (.ins A.c_Numbers dx [("given",.ref d)]))
def oZ (K:cW)(A:Adr):Sp:=fun vs H Q _=>∃(x d p:Addr)(kvs:List (List Key×V))(k:List Key),vs=[.ref x,.ref p]∧fF A H x d kvs∧kvs.length≤50000∧H p=some (.tup (k.map kV))∧okT k=true∧∀H',ax H H'→Q (gU kvs k (.int kvs.length)) (hZ H' d kvs k (.int kvs.length))
def tp (K:cW)(A:Adr):Sp:=fun vs H Q _=>∃(x d p:Addr)(kvs:List (List Key×V))(k:List Key),vs=[.ref p,.ref x]∧fF A H x d kvs∧kvs.length≤50000∧H p=some (.tup (k.map kV))∧okT k=true∧∀H',ax H H'→Q (gU kvs k (.int kvs.length)) (hZ H' d kvs k (.int kvs.length))
def cr (P:Addr)(H H':Hp):Prop:=∀b o,H b=some o→b≠P→H' b=some o
def eE (A:Adr)(H:Hp):Prop:=∃ps,H A.t_65=some (.tbl ps)∧(ps=#[]∨∃c,ps=#[]++#[rawInt ((352:Nat):Int),rawInt ((11:Nat):Int),.ref c]∧H c=some (dF c dI.qual))
def kR (K:cW)(A:Adr):Sp:=fun vs H Q _=>vs=[]∧eE A H∧∀(f b:Addr)(g:gOp)(H':Hp),cr A.t_65 H H'→eE A H'→H b=none→Stp A H' f b g 0→Q (.ref f) H'
def kW (K:cW)(A:Adr):Sp:=fun vs H Q _=>∃(p:Addr)(k:List Key),vs=[.ref p]∧H p=some (.tup (k.map kV))∧okT k=true∧Q (.int (eT k)) H
def rX (K:cW)(A:Adr):Sp:=fun vs H Q _=>∃(p b:Addr)(k:List Key)(kvs:List (List Key×V)),vs=[.ref p,.ref b]∧H p=some (.tup (k.map kV))∧H b=some (.dT kvs)∧kvs.length≤50000∧Q (gU kvs k (.int (3*kvs.length+5))) (hZ H b kvs k (.int (3*kvs.length+5)))
def sr (K:cW)(A:Adr):Sp:=fun vs H Q _=>∃(p:Addr)(m:Int)(k:List Key),vs=[.ref p,.int m]∧1≤m∧m≤9∧H p=some (.tup (k.map kV))∧okT k=true∧Q (.int (eT k%m)) H
def sU (K:cW)(A:Adr):Sp:=fun vs H Q _=>∃(p:Addr)(m:Int)(k:List Key),vs=[.ref p,.int m]∧1≤m∧m≤9∧H p=some (.tup (k.map kV))∧okT k=true∧Q (kV (nj m k)) H
def ng (A:Adr)(H H':Hp):Prop:=∀b o,H b=some o→(∀ps,o≠.tbl ps)→H' b=some o
def nU (K:cW)(A:Adr):Sp:=fun vs H Q _=>∃c:Int,vs=[.int c]∧yp A H∧∀(f b:Addr)(g:gOp)(H':Hp),ng A H H'→eE A H'→Stp A H' f b g 0→Q (.ref f) H'
def kL (K:cW)(A:Adr):Sp:=fun vs H Q _=>∃(a:Addr)(ns:List Int)(k:Int),vs=[.ref a,.int k]∧SqL K H a (ns.map V.int)∧0≤k∧∀z:Int,Q (.int z) H
def jb (K:cW)(A:Adr):Sp:=fun vs H Q _=>∃(b k d:Int),vs=[.int b,.int k,.int d]∧d≤b∧Q (.int (lp b k d)) H
def oP (K:cW)(A:Adr):Sp:=fun vs H Q _=>∃(b:Int)(v:V)(d:Dat),vs=[.int b,v]∧0≤b∧b≤60∧bc H v d∧Q (.bl (dN b d)) H
def nS (K:cW)(A:Adr):Sp:=fun vs H Q _=>∃(v:V)(d:Dat),vs=[v]∧bc H v d∧okD d=true∧Q (.bl (dQ d)) H
def iz (K:cW)(A:Adr):Sp:=fun vs H Q _=>∃(b k d:Int),vs=[.int b,.int k,.int d]∧d<b∧0≤k∧Q (.int (k/2^(b- d- 1).toNat%2)) H
def lx (K:cW)(A:Adr):Sp:=fun vs H Q _=>∃b x y c:Nat,vs=[.int b,.int x,.int y]∧x<2^b∧y<2^b∧lL b x y c∧Q (.int c) H
def dX:Dat→Bool
 |.int i=>decide (1≤i∧i≤60)
 |_=>false
def oF (K:cW)(A:Adr):Sp:=fun vs H Q _=>∃(v:V)(d:Dat),vs=[v]∧bc H v d∧Q (.bl (dX d)) H
def bM (b D:Addr)(H H':Hp):Prop:=∀x o,x≠b→x≠D→H x=some o→H' x=some o
def brT:List Key:=[.inr "bare"]
def lfT (k:Nat)(z:Str):List Key:=[.inr "leaf",.inl (k:Int),.inr z]
def fkT (d b:Nat)(l r:Key):List Key:=[.inr "fork",.inl (d:Int),.inl (b:Int),l,r]
def szN:Kn Str→Nat
 |.bare=>200
 |.leaf _ _=>400
 |.fork _ _ l r=>300+szN l+szN r
def fb (z:Str):Prop:=cf z=true∧z.length≤60
inductive KnA (A:Adr)(H:Hp)(g:gOp):Addr→Kn Str→Key→Prop
 |bare {x dx t:Addr} {m:Key} (o:H x=some (.ins A.c_Bare dx [("term",.ref t),("mark",kV m)])) (ht:H t=some (.tup (brT.map kV))) (hm:g brT=some m) (ok:okP m=true) (sz:szK m≤200):KnA A H g x .bare m
 |leaf {x dx t:Addr} {m:Key} {k:Nat} {z:Str} (o:H x=some (.ins A.c_Leaf dx [("term",.ref t),("mark",kV m),("key",.int (k:Int)),("text",.str z)])) (ht:H t=some (.tup ((lfT k z).map kV))) (hm:g (lfT k z)=some m) (ok:okP m=true) (sz:szK m≤400) (hz:fb z):KnA A H g x (.leaf k z) m
 |fork {x dx t l r:Addr} {m ml mr:Key} {d b:Nat} {tl tr:Kn Str} (o:H x=some (.ins A.c_Fork dx [("term",.ref t),("mark",kV m),("depth",.int (d:Int)),("begin",.int (b:Int)),("left",.ref l),("right",.ref r)])) (hl:KnA A H g l tl ml) (hr:KnA A H g r tr mr)
  (ht:H t=some (.tup ((fkT d b ml mr).map kV))) (hm:g (fkT d b ml mr)=some m) (ok:okP m=true) (sz:szK m≤szN (.fork d b tl tr)):KnA A H g x (.fork d b tl tr) m
def clK (A:Adr):Kn Str→Addr
 |.bare=>A.c_Bare
 |.leaf _ _=>A.c_Leaf
 |.fork _ _ _ _=>A.c_Fork
def kdK:Kn Str→Nat
 |.bare=>0
 |.leaf _ _=>1
 |.fork _ _ _ _=>2
def hgt:Kn Str→Nat
 |.bare=>0
 |.leaf _ _=>0
 |.fork _ _ l r=>max (hgt l) (hgt r)+1
def jP (B:Nat):Kn Str→Prop
 |.bare=>True
 |.leaf _ _=>True
 |.fork d b l r=>d<B∧b<2^d∧jP B l∧jP B r
def ov:Option Str→V
 |none=>.non
 |some z=>.str z
def KnQ (A:Adr)(H:Hp)(f b:Addr)(g:gOp)(n c:Nat)(t:Kn Str)(Q:VK):Prop:=∀(y:Addr)(m:Key)(g':gOp)(H':Hp),br b H H'→KnA A H' g' y t m→Stp A H' f b g' (n+c)→Sub g g'→Q (.ref y) H'
def jr (K:cW)(A:Adr):Sp:=fun vs H Q _=>∃(x dx C f b p:Addr)(g:gOp)(n:Nat)(k:List Key),vs=[.ref x,.ref f,.ref p]∧H x=some (.ins C dx [])∧Cls K C∧ba K C "term"∧ba K C "mark"∧Stp A H f b g n∧n≤45000∧H p=some (.tup (k.map kV))∧okT k=true∧
 ∀(m:Key)(g':gOp)(H':Hp),bM b x H H'→H' x=some (.ins C dx [("term",.ref p),("mark",kV m)])→Stp A H' f b g' (n+1)→Sub g g'→g' k=some m→sj k m→Q .non H'
def InQ (A:Adr)(H:Hp)(x f b:Addr)(g:gOp)(n:Nat)(t:Kn Str)(Q:VK):Prop:=∀(m:Key)(g':gOp)(H':Hp),bM b x H H'→KnA A H' g' x t m→Stp A H' f b g' (n+1)→Sub g g'→Q .non H'
def mD (K:cW)(A:Adr):Sp:=fun vs H Q _=>∃(x dx f b:Addr)(g:gOp)(n:Nat),vs=[.ref x,.ref f]∧H x=some (.ins A.c_Bare dx [])∧Stp A H f b g n∧n≤45000∧InQ A H x f b g n .bare Q
def ia (K:cW)(A:Adr):Sp:=fun vs H Q _=>∃(x dx f b:Addr)(g:gOp)(n k:Nat)(z:Str),vs=[.ref x,.ref f,.int (k:Int),.str z]∧H x=some (.ins A.c_Leaf dx [])∧Stp A H f b g n∧n≤45000∧k<2^60∧fb z∧InQ A H x f b g n (.leaf k z) Q
def iP (K:cW)(A:Adr):Sp:=fun vs H Q _=>∃(x dx f b l r:Addr)(g:gOp)(n d e:Nat)(tl tr:Kn Str)(ml mr:Key),vs=[.ref x,.ref f,.int (d:Int),.int (e:Int),.ref l,.ref r]∧H x=some (.ins A.c_Fork dx [])∧Stp A H f b g n∧n≤45000∧d<60∧e<2^60∧KnA A H g l tl ml∧KnA A H g r tr mr∧szN tl+szN tr≤90000∧InQ A H x f b g n (.fork d e tl tr) Q
def Kof (A:Adr)(H:Hp)(i:Nat)(g:gOp)(x:Addr)(t:Kn Str)(m:Key):Prop:=KnA A H g x t m∧kdK t=i
def lW (A:Adr)(i:Nat)(n:Nat):Sp:=fun vs H Q _=>∃(x:Addr)(g:gOp)(t:Kn Str)(m:Key)(B key:Nat),vs=[.ref x,.int (B:Int),.int (key:Int)]∧Kof A H i g x t m∧jP B t∧hgt t<n∧Q (ov (aD B key t)) H
def lR (K:cW)(A:Adr):Sp:=lW A 0 70
def jw (K:cW)(A:Adr):Sp:=lW A 1 70
def ki (K:cW)(A:Adr)(n:Nat):Sp:=lW A 2 n
def iG (A:Adr)(H:Hp)(x:Addr)(d b:Nat)(l r:Addr):Prop:=∃dx t m,H x=some (.ins A.c_Fork dx [("term",.ref t),("mark",kV m),("depth",.int (d:Int)),("begin",.int (b:Int)),("left",.ref l),("right",.ref r)])
def sT (K:cW)(A:Adr):Sp:=fun vs H Q _=>∃(x l r:Addr)(d b B key:Nat),vs=[.ref x,.int (B:Int),.int (key:Int)]∧iG A H x d b l r∧d<B∧Q (.bl (decide (st B key d=b))) H
def lT (K:cW)(A:Adr):Sp:=fun vs H Q _=>∃(x l r:Addr)(d b B key:Nat),vs=[.ref x,.int (B:Int),.int (key:Int)]∧iG A H x d b l r∧d<B∧Q (.ref (if sd B key d=0 then l else r)) H
def rC (K:cW)(A:Adr):Sp:=fun vs H Q _=>∃(x l r:Addr)(d b B key:Nat),vs=[.ref x,.int (B:Int),.int (key:Int)]∧iG A H x d b l r∧d<B∧Q (.ref (if sd B key d=0 then r else l)) H
structure KnS (A:Adr)(H:Hp)(f b:Addr)(g:gOp)(n:Nat)(B:Nat)(x:Addr)(t:Kn Str)(m:Key):Prop where
 k:KnA A H g x t m
 s:Stp A H f b g n
 B60:B≤60
 dp:jP B t
 ln:(bg t).length≤100
 sz:szN t≤80000
def lJ (K:cW)(A:Adr):Sp:=fun vs H Q _=>∃(f b x y:Addr)(g:gOp)(n B d key:Nat)(z:Str)(t:Kn Str)(m m':Key),vs=[.ref f,.int (B:Int),.int (d:Int),.ref y,.ref x]∧KnS A H f b g n B x t m∧n≤45000∧KnA A H g y (.leaf key z) m'∧d<B∧key<2^B∧KnQ A H f b g n 1 (eA B d key z t) Q
def qi (K:cW)(A:Adr):Sp:=fun vs H Q _=>∃(x f b l r y:Addr)(g:gOp)(n B d e key:Nat)(tl tr t:Kn Str)(m ml mr:Key),vs=[.ref x,.ref f,.int (B:Int),.int (key:Int),.ref y]∧iG A H x d e l r∧KnA A H g l tl ml∧KnA A H g r tr mr∧KnA A H g y t m∧Stp A H f b g n∧n≤45000∧d<B∧B≤60∧e<2^60∧szN (if sd B key d=0 then tr else tl)+szN t≤90000∧
 KnQ A H f b g n 1 (if sd B key d=0 then .fork d e t tr else .fork d e tl t) Q
def pA (A:Adr)(i:Nat)(j:Nat):Sp:=fun vs H Q _=>∃(x f b:Addr)(g:gOp)(n B key:Nat)(z:Str)(t:Kn Str)(m:Key),vs=[.ref x,.ref f,.int (B:Int),.int (key:Int),.str z]∧KnS A H f b g n B x t m∧kdK t=i∧n+hgt t+10≤45000∧(∀p∈bg t,p.1<2^B)∧key<2^B∧fb z∧hgt t<j∧szN t≤70000∧KnQ A H f b g n (hgt t+2) (cC B key z t) Q
def mC (K:cW)(A:Adr):Sp:=pA A 0 70
def jf (K:cW)(A:Adr):Sp:=pA A 1 70
def ie (K:cW)(A:Adr)(n:Nat):Sp:=pA A 2 n
def iH (A:Adr)(i:Nat)(j:Nat):Sp:=fun vs H Q _=>∃(x f b:Addr)(g:gOp)(n B key:Nat)(t:Kn Str)(m:Key),vs=[.ref x,.ref f,.int (B:Int),.int (key:Int)]∧KnS A H f b g n B x t m∧kdK t=i∧n+hgt t+10≤45000∧hgt t<j∧KnQ A H f b g n (hgt t+1) (aQ B key t) Q
def lZ (K:cW)(A:Adr):Sp:=iH A 0 70
def jA (K:cW)(A:Adr):Sp:=iH A 1 70
def gQ (K:cW)(A:Adr)(n:Nat):Sp:=iH A 2 n
def WFo (B:Nat)(t:Kn Str):Prop:=t=.bare∨WF B 0 0 t
structure TbA (A:Adr)(H:Hp)(g:gOp)(x f:Addr)(B:Nat)(t:Kn Str)(m:Key):Prop where
 ob:∃dx y,H x=some (.ins A.c_Table dx [("stamper",.ref f),("bits",.int (B:Int)),("top",.ref y)])∧KnA A H g y t m
 B1:1≤B
 B60:B≤60
 wf:WFo B t
structure TbS (A:Adr)(H:Hp)(x f b:Addr)(g:gOp)(n B:Nat)(t:Kn Str)(m:Key):Prop where
 ta:TbA A H g x f B t m
 s:Stp A H f b g n
 ln:(bg t).length≤90
def TbQ (A:Adr)(H:Hp)(x f b:Addr)(g:gOp)(n c B:Nat)(t:Kn Str)(R:Hp→Prop):Prop:=∀(m:Key)(g':gOp)(H':Hp),bM b x H H'→TbA A H' g' x f B t m→Stp A H' f b g' (n+c)→Sub g g'→R H'
def jg (K:cW)(A:Adr):Sp:=fun vs H Q E=>∃(x dx f b:Addr)(g:gOp)(n:Nat)(v:V)(d:Dat),vs=[.ref x,.ref f,v]∧H x=some (.ins A.c_Table dx [])∧bc H v d∧Stp A H f b g n∧n≤45000∧(dX d=false→E (.ref A.c_NoBits) none H)∧∀B:Nat,d=.int (B:Int)→1≤B→B≤60→TbQ A H x f b g n 1 B .bare (Q .non)
def jt (K:cW)(A:Adr):Sp:=fun vs H Q E=>∃(x f:Addr)(g:gOp)(B:Nat)(t:Kn Str)(m:Key)(v:V)(d:Dat),vs=[.ref x,v]∧TbA A H g x f B t m∧bc H v d∧(dN B d=false→E (.ref A.c_NoKey) none H)∧∀key:Nat,d=.int (key:Int)→key<2^B→Q (ov (aD B key t)) H
def lj (K:cW)(A:Adr):Sp:=fun vs H Q E=>∃(x f b:Addr)(g:gOp)(n B:Nat)(t:Kn Str)(m:Key)(v w:V)(d e:Dat),vs=[.ref x,v,w]∧TbS A H x f b g n B t m∧n+100≤45000∧bc H v d∧bc H w e∧okD e=true∧(dN B d=false→E (.ref A.c_NoKey) none H)∧
 ∀key:Nat,d=.int (key:Int)→key<2^B→(dQ e=false→E (.ref A.c_NoValue) none H)∧∀z,e=.str z→fb z→TbQ A H x f b g n 65 B (cC B key z t) fun H'=>Q (ov (aD B key t)) H'
def lr (K:cW)(A:Adr):Sp:=fun vs H Q E=>∃(x f b:Addr)(g:gOp)(n B:Nat)(t:Kn Str)(m:Key)(v:V)(d:Dat),vs=[.ref x,v]∧TbS A H x f b g n B t m∧n+100≤45000∧bc H v d∧(dN B d=false→E (.ref A.c_NoKey) none H)∧
 ∀key:Nat,d=.int (key:Int)→key<2^B→(aD B key t=none→E (.ref A.c_Missing) none H)∧∀z,aD B key t=some z→TbQ A H x f b g n 65 B (aQ B key t) fun H'=>Q (.str z) H'
def oi (K:cW)(A:Adr):Sp:=fun vs H Q _=>∃(x f:Addr)(g:gOp)(B:Nat)(t:Kn Str)(m:Key),vs=[.ref x]∧TbA A H g x f B t m∧Q (kV m) H
def lg (K:cW)(A:Adr):Sp:=fun vs H Q _=>∃(c:Int)(B:Nat),vs=[.int c,.int (B:Int)]∧1≤B∧B≤60∧∀k:Nat,k<2^B→Q (.int (k:Int)) H
def dOf (kn:List (Nat×Str)):List (Key×V):=kn.map fun p=>(.inl (p.1:Int),.str p.2)
structure Kno (B:Nat)(kn:List (Nat×Str))(t:Kn Str):Prop where
 nd:(kn.map (·.1)).Nodup
 ln:kn.length≤63
 eq:∀k,look k kn=aD B k t
def lq (K:cW)(A:Adr):Sp:=fun vs H Q _=>∃(x f b:Addr)(g:gOp)(n B:Nat)(t:Kn Str)(m:Key),vs=[.ref x]∧TbS A H x f b g n B t m∧n≤45000∧∀(y:Addr)(g':gOp)(H':Hp),br b H H'→H y=none→TbS A H' x f b g' (n+1) B t m→TbA A H' g' y f B t m→Sub g g'→Q (.ref y) H'
def oY (K:cW)(A:Adr):Sp:=fun vs H Q _=>∃c k:Int,vs=[.int c,.int k]∧∀z:Int,0≤z→Q (.int z) H
def oA (B:Nat)(kn:List (Nat×Str)):Prop:=∀p∈kn,p.1<2^B
def nv (K:cW)(A:Adr):Sp:=fun vs H Q _=>∃(kd:Addr)(c nb:Int)(B:Nat)(kn:List (Nat×Str)),vs=[.ref kd,.int c,.int nb,.int (B:Int)]∧H kd=some (.dK (dOf kn))∧kn.length≤63∧oA B kn∧1≤B∧B≤60∧∀(k:Nat)(H':Hp),ax H H'→k<2^B→Q (.int (k:Int)) H'
def iq (K:cW)(A:Adr):Sp:=fun vs H Q _=>∃o:Option Str,vs=[ov o,ov o]∧Q (.bl true) H
def oU (K:cW)(A:Adr):Sp:=fun vs H Q _=>∃i:Int,vs=[.int i]∧Q (.bl true) H
def gx (n:Nat):Nat:=2^Qi (n- 1)
def pc (K:cW)(A:Adr):Sp:=fun vs H Q _=>∃m:Nat,vs=[.int (m:Int)]∧2≤m∧m≤2^60∧Q (.int ((gx m:Nat):Int)) H
def cV:Dat→Bool
 |.int i=>decide (0≤i∧i<2^60)
 |_=>false
def bW (c e:Dat):Bool:=cV c&&jX e&&match c,e with
 |.int c,.int e=>decide (0≤e∧e<c)
 |_,_=>false
def ja:Dat→Bool
 |.tup [c,v]=>cV c&&dD v
 |_=>false
def ji (K:cW)(A:Adr):Sp:=fun vs H Q _=>∃v d,vs=[v]∧bc H v d∧Q (.bl (cV d)) H
def nA (K:cW)(A:Adr):Sp:=fun vs H Q _=>∃v d w e,vs=[v,w]∧bc H v d∧bc H w e∧Q (.bl (bW d e)) H
def nP (K:cW)(A:Adr):Sp:=fun vs H Q _=>∃v d,vs=[v]∧bc H v d∧Q (.bl (ja d)) H
def nG (K:cW)(A:Adr):Sp:=fun vs H Q _=>∃v d,vs=[v]∧bc H v d∧ja d=true∧Q .non H
def pb (K:cW)(A:Adr):Sp:=fun vs H Q _=>∃c p:Int,vs=[.int c,.int p]∧0≤p∧p≤c∧c≤1000∧Q (.bl true) H
def smE (e:Key):Prop:=okP e=true∧szK e≤130
structure cR (A:Adr)(H:Hp)(x f L D:Addr)(es:List Key)(kvs:List (List Key×Key)):Prop where
 ob:∃dx,H x=some (.ins A.c_Row dx [("stamper",.ref f),("entries",.ref L),("tops",.ref D)])
 hl:H L=some (.lst (es.map kV))
 hd:H D=some (.dT (bG kvs))
 en:∀e∈es,smE e
 le:es.length≤60
 cs:∀k v,ci kvs k=some v→smE v
structure eR (A:Adr)(H:Hp)(x f L D b:Addr)(es:List Key)(kvs:List (List Key×Key))(g:gOp)(n:Nat):Prop where
 r:cR A H x f L D es kvs
 s:Stp A H f b g n
 db:D≠b
 kl:kvs.length≤n
def kG (K:cW)(A:Adr):Sp:=fun vs H Q _=>∃x dx f,vs=[.ref x,.ref f]∧H x=some (.ins A.c_Row dx [])∧∀(L D:Addr)(H':Hp),(∀z o,z≠x→H z=some o→H' z=some o)→H L=none→H D=none→L≠D→H' x=some (.ins A.c_Row dx [("stamper",.ref f),("entries",.ref L),("tops",.ref D)])→H' L=some (.lst [])→H' D=some (.dT [])→Q .non H'
def oE (K:cW)(A:Adr):Sp:=fun vs H Q _=>∃(x f L D:Addr)(es:List Key)(kvs:List (List Key×Key))(e:Key),vs=[.ref x,kV e]∧cR A H x f L D es kvs∧smE e∧es.length<60∧Q (.int (es.length:Int)) (upd H L (.lst ((es++[e]).map kV)))
def gn (K:cW)(A:Adr):Sp:=fun vs H Q _=>∃(x f L D:Addr)(es:List Key)(kvs:List (List Key×Key)),vs=[.ref x]∧cR A H x f L D es kvs∧Q (.int (es.length:Int)) H
def nq (K:cW)(A:Adr):Sp:=fun vs H Q _=>∃(x f L D:Addr)(es:List Key)(kvs:List (List Key×Key))(c p:Int),vs=[.ref x,.int c,.int p]∧cR A H x f L D es kvs∧0≤p∧p≤c∧c≤es.length∧Q (.bl true) H
def oh (K:cW)(A:Adr):Sp:=fun vs H Q _=>∃(x f L D:Addr)(es:List Key)(kvs:List (List Key×Key))(v:V)(d:Dat),vs=[.ref x,.int (es.length:Int),v]∧cR A H x f L D es kvs∧bc H v d∧Q (.bl (bW (.int (es.length:Int)) d)) H
def fE (K:cW)(A:Adr)(j:Nat):Sp:=fun vs H Q _=>∃(x f L D b:Addr)(es:List Key)(kvs:List (List Key×Key))(g:gOp)(n a m:Nat),vs=[.ref x,.int (a:Int),.int (m:Int)]∧eR A H x f L D b es kvs g n∧a+m≤es.length∧m<j∧n+2*m+1≤45000∧
 ∀(v:Key)(kvs':List (List Key×Key))(g':gOp)(H':Hp),bM b D H H'→eR A H' x f L D b es kvs' g' (n+(2*(m- 1)+1))→Sub g g'→smE v→Q (kV v) H'
def ox (K:cW)(A:Adr)(j:Nat):Sp:=fun vs H Q _=>∃(x f L D b:Addr)(es:List Key)(kvs:List (List Key×Key))(g:gOp)(n a m:Nat),vs=[.ref x,.int (a:Int),.int (m:Int)]∧eR A H x f L D b es kvs g n∧a+m≤es.length∧m≤j∧n+2*m+1≤45000∧
 ∀(p:Addr)(k:List Key)(kvs':List (List Key×Key))(g':gOp)(H':Hp),bM b D H H'→eR A H' x f L D b es kvs' g' (n+2*(m- 1))→Sub g g'→H' p=some (.tup (k.map kV))→okT k=true→Q (.ref p) H'
def nO (K:cW)(A:Adr):Sp:=fun vs H Q _=>∃(x f L D b:Addr)(es:List Key)(kvs:List (List Key×Key))(g:gOp)(n c:Nat),vs=[.ref x,.int (c:Int)]∧eR A H x f L D b es kvs g n∧c≤es.length∧n+200≤45000∧
 ∀(v:Key)(kvs':List (List Key×Key))(g':gOp)(H':Hp),bM b D H H'→eR A H' x f L D b es kvs' g' (n+200)→Sub g g'→smE v→Q (kV v) H'
def nR (K:cW)(A:Adr):Sp:=fun vs H Q _=>∃(x f L D:Addr)(es:List Key)(kvs:List (List Key×Key)),vs=[.ref x]∧cR A H x f L D es kvs∧∀(x' L' D':Addr)(H':Hp),ax H H'→H x'=none→H L'=none→H D'=none→L'≠x'→D'≠x'→L'≠D'→cR A H' x' f L' D' es []→Q (.ref x') H'
def oI (K:cW)(A:Adr):Sp:=fun vs H Q _=>∃(f b:Addr)(g:gOp)(n:Nat),vs=[.ref f]∧Stp A H f b g n∧n≤44000∧∀(L p1 p2:Addr)(v:Key)(g':gOp)(H':Hp),br b H H'→Stp A H' f b g' (n+1)→Sub g g'→H' L=some (.lst [.ref p1,.ref p2])→H' p2=some (.tup [.str "row",.int 0,kV v])→smE v→Q (.ref L) H'
def oK (K:cW)(A:Adr):Sp:=fun vs H Q _=>∃(f b:Addr)(g:gOp)(n:Nat),vs=[.ref f]∧Stp A H f b g n∧n≤44000∧∀(p:Addr)(v:Key)(g':gOp)(H':Hp),br b H H'→Stp A H' f b g' (n+2)→Sub g g'→H' p=some (.tup [.int 0,kV v])→smE v→Q (.ref p) H'
structure SeA (A:Adr)(H:Hp)(x d:Addr)(n:Nat):Prop where
 ob:∃dx,H x=some (.ins A.c_Seals dx [("sealed",.ref d)])
 di:∃kvs,H d=some (.dT kvs)∧kvs.length≤n
def gk (K:cW)(A:Adr):Sp:=fun vs H Q _=>∃x dx,vs=[.ref x]∧H x=some (.ins A.c_Seals dx [])∧∀d,H d=none→Q .non (upd (upd H d (.dT [])) x (.ins A.c_Seals dx [("sealed",.ref d)]))
def ku (K:cW)(A:Adr):Sp:=fun vs H Q _=>∃(x d p:Addr)(n c:Nat)(v:Key),vs=[.ref x,.ref p]∧SeA A H x d n∧n≤50000∧H p=some (.tup [.int (c:Int),kV v])∧c<2^60∧okP v=true∧∀kvs,kvs.length≤n+1→Q .non (upd H d (.dT kvs))
def KM (S:List Addr)(H H':Hp):Prop:=∀z o,z∉S→H z=some o→H' z=some o
structure HA where
 tb:Addr
 ro:Addr
 L:Addr
 D:Addr
 ml:Addr
 sl:Addr
 sd:Addr
def HoA (A:Adr)(H:Hp)(x:Addr)(a:HA):Prop:=∃dx,H x=some (.ins A.c_House dx [("table",.ref a.tb),("row",.ref a.ro),("makes",.ref a.ml),("seals",.ref a.sl)])
abbrev TmA (A:Adr)(H:Hp)(g:gOp)(f:Addr)(B:Nat):List Addr→List (Kn Str)→Prop:=Paired fun(y:Addr)(t:Kn Str)=>∃m,TbA A H g y f B t m
structure HsA (A:Adr)(H:Hp)(g:gOp)(x f:Addr)(n B:Nat)(a:HA)(t:Kn Str)(ts:List (Kn Str))(ys:List Addr):Prop where
 ob:HoA A H x a
 ta:∃m,TbA A H g a.tb f B t m
 ro:∃es kvs,cR A H a.ro f a.L a.D es kvs∧es.length=ts.length∧kvs.length≤n
 hm:H a.ml=some (.lst (ys.map V.ref))
 tm:TmA A H g f B ys ts
 se:SeA A H a.sl a.sd n
structure HaD (b:Addr)(a:HA)(ys:List Addr):Prop where
 nd:[b,a.tb,a.L,a.D,a.ml,a.sd].Nodup
 ny:a.tb∉ys
def fI (K:cW)(A:Adr):Sp:=fun vs H Q E=>∃(x dx f b sl sd:Addr)(g:gOp)(n:Nat)(v:V)(d:Dat),vs=[.ref x,.ref f,v,.ref sl]∧H x=some (.ins A.c_House dx [])∧bc H v d∧Stp A H f b g n∧n≤40000∧SeA A H sl sd n∧sd≠b∧(dX d=false→∀H',ax H H'→E (.ref A.c_NoBits) none H')∧∀B:Nat,d=.int (B:Int)→1≤B→B≤60→
 ∀(a:HA)(g':gOp)(H':Hp),KM [b,x,sd] H H'→HsA A H' g' x f (n+5) B a .bare [] []→a.sl=sl→a.sd=sd→(∀z∈[a.tb,a.ro,a.L,a.D,a.ml],H z=none)→[a.tb,a.ro,a.L,a.D,a.ml].Nodup→Stp A H' f b g' (n+5)→Sub g g'→Q .non H'
def jl (K:cW)(A:Adr):Sp:=fun vs H Q E=>∃(x:Addr)(a:HA)(v w:V),vs=[.ref x,v,w]∧HoA A H x a∧(∃f g B t m,TbA A H g a.tb f B t m)∧lj K A [.ref a.tb,v,w] H Q E
def ly (K:cW)(A:Adr):Sp:=fun vs H Q E=>∃(x:Addr)(a:HA)(v:V),vs=[.ref x,v]∧HoA A H x a∧(∃f g B t m,TbA A H g a.tb f B t m)∧lr K A [.ref a.tb,v] H Q E
def iy (K:cW)(A:Adr):Sp:=fun vs H Q E=>∃(x f:Addr)(g:gOp)(n B:Nat)(a:HA)(t:Kn Str)(ts:List (Kn Str))(ys:List Addr)(v w:V)(d e:Dat),vs=[.ref x,v,w]∧HsA A H g x f n B a t ts ys∧bc H v d∧bc H w e∧(bW (.int (ts.length:Int)) d=false→E (.ref A.c_NoPlace) none H)∧
 ∀(p:Nat)(t':Kn Str),d=.int (p:Int)→ts[p]?=some t'→(dN B e=false→E (.ref A.c_NoKey) none H)∧∀key:Nat,e=.int (key:Int)→key<2^B→Q (ov (aD B key t')) H
def oX (K:cW)(A:Adr):Sp:=fun vs H Q _=>∃(x f b:Addr)(g:gOp)(n B:Nat)(a:HA)(t:Kn Str)(ts:List (Kn Str))(ys:List Addr),vs=[.ref x]∧HsA A H g x f n B a t ts ys∧HaD b a ys∧Stp A H f b g n∧n+300≤45000∧
 ∀(p:Addr)(v:Key)(g':gOp)(H':Hp),bM b a.D H H'→HsA A H' g' x f (n+200) B a t ts ys→Stp A H' f b g' (n+200)→Sub g g'→H' p=some (.tup [.int (ts.length:Int),kV v])→smE v→Q (.ref p) H'
def nF (K:cW)(A:Adr):Sp:=fun vs H Q _=>∃(x f b:Addr)(g:gOp)(n B:Nat)(a:HA)(t:Kn Str)(ts:List (Kn Str))(ys:List Addr),vs=[.ref x]∧HsA A H g x f n B a t ts ys∧HaD b a ys∧Stp A H f b g n∧(bg t).length≤90∧ts.length<60∧n+400≤45000∧
 ∀(p y:Addr)(v:Key)(g':gOp)(H':Hp),KM [b,a.L,a.D,a.ml,a.sd] H H'→H y=none→HsA A H' g' x f (n+210) B a t (ts++[t]) (ys++[y])→Stp A H' f b g' (n+210)→Sub g g'→H' p=some (.tup [.int ((ts.length:Int)+1),kV v])→Q (.ref p) H'
def nN (K:cW)(A:Adr):Sp:=fun vs H Q _=>∃(x f b:Addr)(g:gOp)(n B:Nat)(a:HA)(t:Kn Str)(ts:List (Kn Str))(ys:List Addr),vs=[.ref x]∧HsA A H g x f n B a t ts ys∧HaD b a ys∧Stp A H f b g n∧(bg t).length≤90∧n+400≤40000∧
 ∀(x':Addr)(a':HA)(g':gOp)(H':Hp),KM [b,a.sd] H H'→HsA A H' g' x f (n+10) B a t ts ys→HsA A H' g' x' f (n+10) B a' t ts ys→a'.sl=a.sl→a'.sd=a.sd→(∀z∈[x',a'.tb,a'.ro,a'.L,a'.D,a'.ml],H z=none)→[a'.tb,a'.L,a'.D,a'.ml].Nodup→Stp A H' f b g' (n+10)→Sub g g'→Q (.ref x') H'
def nX (K:cW)(A:Adr):Sp:=fun vs H Q _=>∃c:Int,vs=[.int c]∧∀(z:Str)(H':Hp),ax H H'→fb z→Q (.str z) H'
set_option genInjectivity false in
set_option genSizeOf false in
structure SA where
 x:Addr
 a:HA
 k:Addr
 l:Addr
 ds:List Addr
 ys:List Addr
def mu (b:Addr)(s:SA):List Addr:=[b,s.a.tb,s.a.L,s.a.D,s.a.ml,s.a.sd,s.k,s.l]
def im (s:SA):List Addr:=s.x::s.a.ro::s.a.sl::(s.ds++s.ys)
abbrev DdA (H:Hp)(B:Nat):List Addr→List (Kn Str)→Prop:=Paired fun(d:Addr)(t:Kn Str)=>∃kn,H d=some (.dK (dOf kn))∧Kno B kn t
structure SdA (A:Adr)(H:Hp)(g:gOp)(f:Addr)(n B:Nat)(s:SA)(i:Nat)(t:Kn Str)(ts:List (Kn Str))(kn:List (Nat×Str)):Prop where
 hs:HsA A H g s.x f n B s.a t ts s.ys
 hk:H s.k=some (.dK (dOf kn))
 kno:Kno B kn t
 hl:H s.l=some (.lst (s.ds.map V.ref))
 dd:DdA H B s.ds ts
 ln:kn.length≤i
 lt:ts.length≤i
structure Own (b:Addr)(s:SA):Prop where
 nd:(mu b s).Nodup
 im:∀z∈mu b s,z∉im s
def oq (K:cW)(A:Adr):Sp:=fun vs H Q _=>∃(f b:Addr)(g:gOp)(n B i:Nat)(s:SA)(t:Kn Str)(ts:List (Kn Str))(kn:List (Nat×Str))(key:Nat),vs=[.ref s.x,.ref s.k,.int (key:Int)]∧SdA A H g f n B s i t ts kn∧Own b s∧Stp A H f b g n∧i<60∧n+500≤40000∧key<2^B∧
 ∀(t':Kn Str)(kn':List (Nat×Str))(g':gOp)(H':Hp),KM (mu b s) H H'→SdA A H' g' f (n+220) B s (i+1) t' ts kn'→Stp A H' f b g' (n+220)→Sub g g'→Q (.bl true) H'
def DeQ (A:Adr)(H:Hp)(f b:Addr)(g:gOp)(n B i:Nat)(s:SA)(Q:VK):Prop:=∀(ds2 ys2:List Addr)(t':Kn Str)(ts':List (Kn Str))(kn':List (Nat×Str))(g':gOp)(H':Hp),(∀z∈ds2++ys2,H z=none)→KM (mu b s) H H'→SdA A H' g' f (n+220) B {s with ds:=s.ds++ds2,ys:=s.ys++ys2} (i+1) t' ts' kn'→Stp A H' f b g' (n+220)→Sub g g'→Q (.bl true) H'
def lA (K:cW)(A:Adr):Sp:=fun vs H Q _=>∃(f b:Addr)(g:gOp)(n B i:Nat)(s:SA)(t:Kn Str)(ts:List (Kn Str))(kn:List (Nat×Str)),vs=[.ref s.x,.ref s.k,.ref s.l]∧SdA A H g f n B s i t ts kn∧Own b s∧Stp A H f b g n∧i<60∧n+500≤40000∧DeQ A H f b g n B i s Q
def kQ (K:cW)(A:Adr):Sp:=fun vs H Q _=>∃(f b:Addr)(g:gOp)(n B i:Nat)(s:SA)(t:Kn Str)(ts:List (Kn Str))(kn:List (Nat×Str))(c nb:Int),vs=[.ref s.x,.ref s.k,.ref s.l,.int c,.int nb,.int (B:Int)]∧SdA A H g f n B s i t ts kn∧Own b s∧Stp A H f b g n∧i<60∧n+500≤40000∧DeQ A H f b g n B i s Q
def lF (K:cW)(A:Adr):Sp:=fun vs H Q _=>∃(x f:Addr)(g:gOp)(n B:Nat)(a:HA)(t:Kn Str)(ts:List (Kn Str))(ys:List Addr)(v w:V)(d e:Dat),vs=[.ref x,v,w]∧HsA A H g x f n B a t ts ys∧bc H v d∧bc H w e∧bW (.int (ts.length:Int)) d=false∧∀H',ax H H'→Q (.bl true) H'
def nJ (K:cW)(A:Adr):Sp:=fun vs H Q _=>∃(x f b:Addr)(g:gOp)(n B:Nat)(a:HA)(t:Kn Str)(ts:List (Kn Str))(ys:List Addr)(key:Int),vs=[.ref x,.int key,.bl (!decide (ts.length=0))]∧HsA A H g x f n B a t ts ys∧Stp A H f b g n∧(bg t).length≤90∧n+100≤45000∧dN B (.int key)=false∧∀H',ax H H'→Q (.bl true) H'
def nK (K:cW)(A:Adr):Sp:=fun vs H Q _=>∃(x f b:Addr)(g:gOp)(n B:Nat)(a:HA)(t:Kn Str)(ts:List (Kn Str))(ys:List Addr)(w:V)(e:Dat),vs=[.ref x,w]∧HsA A H g x f n B a t ts ys∧Stp A H f b g n∧(bg t).length≤90∧n+100≤45000∧bc H w e∧okD e=true∧dQ e=false∧∀H',ax H H'→Q (.bl true) H'
def kY (K:cW)(A:Adr):Sp:=fun vs H Q _=>∃(f b q:Addr)(g:gOp)(n B i:Nat)(s:SA)(t:Kn Str)(ts:List (Kn Str))(kn:List (Nat×Str))(ks:List Nat),vs=[.ref s.x,.ref s.l,.ref q,.int (B:Int)]∧SdA A H g f n B s i t ts kn∧Stp A H f b g n∧i<61∧n+100≤45000∧H q=some (.lst (ks.map fun k:Nat=>V.int (k:Int)))∧(∀k∈ks,k<2^B)∧∀H',ax H H'→Q (.bl true) H'
def jc (K:cW)(A:Adr):Sp:=fun vs H Q _=>∃(v:V)(d:Dat),vs=[v]∧bc H v d∧dX d=false∧eE A H∧∀H',cr A.t_65 H H'→eE A H'→Q (.bl true) H'
def nC (K:cW)(A:Adr):Sp:=fun vs H Q _=>∃(a:Addr)(ns:List Int),vs=[.ref a]∧SqL K H a (ns.map V.int)∧ns.length≤63∧yp A H∧∀H',Q (.bl true) H'
def gP (K:cW)(A:Adr):L2.ip:=[(dI,tp K A),(fg,rX K A),(fi,sr K A),(fh,sU K A)]
def Cv (K:cW)(A:Adr):TE:=aM A.c_Numbers "number_of" (oZ K A) (fun _=>E0) (ae 1) (af (ae 0) (am))
def Ca (K:cW)(A:Adr):TE:=tBM K "dict" qO (ae 1) (af (ae 0) (af (tOp (cN K) (tOp (dW) (tC (.int 3)) (tCB (dj K) (af (ae 1) (am)))) (tC (.int 5))) (am)))
def DD (K:cW)(A:Adr):TE:=tOp (cq) (aA (kW K A) (fun _=>E0) (af (ae 0) (am))) (ae 1)
def AT (K:cW)(A:Adr):TE:=tOp (cN K) (tC (.str "s")) (tCB (wL) (af (tOp (cq) (aA (kW K A) (fun _=>E0) (af (ae 0) (am))) (ae 1)) (am)))
def LC (K:cW)(A:Adr):TS:=aF (cb (tCB (eP) (af (ae 0) (af (tC (.ty "int")) (am)))) (je (tCB (eP) (af (ae 0) (af (tC (.ty "bool")) (am))))))
def LE (K:cW)(A:Adr):TS:=ay (bJ (cZ K (aA (fG K A) (fun _=>E0) (af (ae 0) (am)))) (aF (dM (mLe) (mLt) (tC (.int 0)) (ae 0) (tOp (vX) (tC (.int 10)) (tC (.int 60))))) (aZ)) (aF (tCB (eP) (af (ae 0) (af (tC (.ty "str")) (am)))))
def KR (K:cW)(A:Adr):TS:=ay (bJ (dv (cZ K (tCB (eP) (af (ae 0) (af (tC (.ty "tuple")) (am)))))) (aF (tC (.bl false))) (aZ)) (ay (bJ (dv (bF (dM (mLe) (mLe) (tC (.int 1)) (tCB (dj K) (af (ae 0) (am))) (tC (.int 8))))) (aF (tC (.bl false))) (aZ)) (aF (cb (tCB (eP) (af (tOp (bR K) (ae 0) (tC (.int 0))) (af (tC (.ty "str")) (am)))) (tCB (BI) (af (oM [] (jd K (ae 0)) (fun _ H Q=>Q true H) (aA (jy K A) (fun _=>E0) (af (ae 0) (am)))) (am))))))
def JQ (K:cW)(A:Adr):TS:=ay (bJ (dv (cZ K (aA (oS K A) (fun _=>E0) (af (ae 1) (am))))) (gN) (aZ)) (ay (bJ (bF (tOp (jC K) (ae 1) (aL K (ae 0) "given"))) (aR (tCB (dj K) (af (aL K (ae 0) "given") (am))) (gX (aL K (ae 0) "given") (ae 1) fH)) (aZ)) (aF (tOp (bR K) (aL K (ae 0) "given") (ae 1))))
def KB (K:cW)(A:Adr):TS:=ay (aR (tC (.int 0)) (aI 1)) (ay (iY (jd K (ae 0)) (aI 2) (ay (bJ (cZ K (tCB (eP) (af (ae 2) (af (tC (.ty "str")) (am))))) (ay (aR (tOp (cN K) (tOp (dW) (ae 1) (tC (.int 7))) (tOp (dW) (tC (.int 3)) (tCB (dj K) (af (ae 2) (am))))) (aI 1)) (iY (jd K (tSl (xc K) (ae 2) (jk) (nY (tC (.int 6))))) (aI 3) (aR (tOp (cN K) (tOp (dW) (ae 1) (tC (.int 3))) (tCB (wc) (af (ae 3) (am)))) (aI 1)))) (aR (tOp (cN K) (tOp (dW) (ae 1) (tC (.int 5))) (ae 2)) (aI 1))) (aR (tOp (cq) (ae 1) (tC (.int 1000000007))) (aI 1)))) (aF (ae 1)))
def Ku (K:cW)(A:Adr):TS:=cv K (ae 0) (gf) "given"
def Cc (K:cW)(A:Adr)(q0:Addr):TSM:=kf (nW (aR (bH A.c_Numbers (nV K A) (fun _=>E0) (am)) (aI 0))) (mx (pX A.t_65 ⟨352,11,352,47⟩ dI [q0]))
def Bi (K:cW)(A:Adr)(q0 q1:Addr):TSM:=kf (nW (aR (gf) (aI 1))) (kf (nW (aR (tOp (cN K) (tC (.int 1)) (tOp (cq) (tOp (cJ) (ae 0) (tC (.int 4))) (tC (.int 9)))) (aI 2))) (kf (rn (bF (tOp (cn K) (tOp (cq) (ae 0) (tC (.int 4))) (tC (.int 0)))) (mx (aA (kR K A) (fun _=>E0) am)) (oa)) (kf (rn (bF (tOp (cn K) (tOp (cq) (ae 0) (tC (.int 4))) (tC (.int 1)))) (mx (pX A.t_55 ⟨377,15,377,88⟩ fg [q0])) (oa)) (kf (rn (bF (tOp (cn K) (tOp (cq) (ae 0) (tC (.int 4))) (tC (.int 2)))) (mx (pX A.t_55 ⟨379,15,379,62⟩ fi [q1])) (oa)) (mx (pX A.t_55 ⟨380,11,380,73⟩ fh [q1]))))))
def Kv (K:cW)(A:Adr):TS:=ay (bJ (bF (tOp (mLt) (ae 1) (tCB (dj K) (af (ae 0) (am))))) (aF (tOp (bR K) (ae 0) (ae 1))) (aZ)) (aF (tC (.int 0)))
def LF (K:cW)(A:Adr):TS:=aF (cb (aA (fG K A) (fun _=>E0) (af (ae 0) (am))) (dM (mLe) (mLe) (tC (.int 1)) (ae 0) (tC (.int 60))))
def JS (K:cW)(A:Adr):TS:=ay (cv K (ae 0) (ae 2) "term") (cv K (ae 0) (oo (gP K A) (fun _=>E0) (ae 1) (af (ae 2) (am))) "mark")
def T_0 (K:cW)(A:Adr):TS:=cY (aA (jr K A) (fun _=>E0) (af (ae 0) (af (ae 1) (af (eD (af (tC (.str "bare")) (am))) (am)))))
def CO (K:cW)(A:Adr)(E:XK):TS:=ay (bJ (dv (cZ K (aA (oF K A) (fun _=>E0) (af (ae 2) (am))))) (gM A.c_NoBits (fun _=>E)) (aZ)) (ay (cv K (ae 0) (ae 1) "stamper") (ay (cv K (ae 0) (ae 2) "bits") (cv K (ae 0) (bH A.c_Bare (mD K A) (fun _=>E0) (af (ae 1) (am))) "top")))
def Kx (K:cW)(A:Adr):TS:=ay (cv K (ae 0) (ae 1) "stamper") (ay (cv K (ae 0) (dZ (am)) "entries") (cv K (ae 0) (gf) "tops"))
def KC (K:cW)(A:Adr):TS:=aF (cb (aA (fG K A) (fun _=>E0) (af (ae 0) (am))) (dM (mLe) (mLt) (tC (.int 0)) (ae 0) (tOp (iF) (tC (.int 1)) (tC (.int 60)))))
def JT (K:cW)(A:Adr):TS:=aF (cb (tCB (eP) (af (ae 0) (af (tC (.ty "tuple")) (am)))) (cb (tOp (cn K) (tCB (dj K) (af (ae 0) (am))) (tC (.int 2))) (cb (aA (ji K A) (fun _=>E0) (af (tOp (bR K) (ae 0) (tC (.int 0))) (am))) (aA (jy K A) (fun _=>E0) (af (tOp (bR K) (ae 0) (tC (.int 1))) (am))))))
def Kj (K:cW)(A:Adr):TS:=bJ (dv (cZ K (aA (nP K A) (fun _=>E0) (af (ae 0) (am))))) (gN) (aZ)
def Kr (K:cW)(A:Adr):TS:=ay (cY (aA (nG K A) (fun _=>E0) (af (ae 1) (am)))) (aR (tC (.bl true)) (gX (aL K (ae 0) "sealed") (ae 1) fH))
def JZ (K:cW)(A:Adr):TS:=aF (dZ (af (eD (af (tC (.str "void")) (am))) (af (eD (af (tC (.str "row")) (af (tC (.int 0)) (af (oo (gP K A) (fun _=>E0) (ae 0) (af (eD (af (tC (.str "void")) (am))) (am))) (am))))) (am))))
def Lh (K:cW)(A:Adr):TS:=aF (eD (af (tC (.int 0)) (af (oo (gP K A) (fun _=>E0) (ae 0) (af (tOp (bR K) (aA (oI K A) (fun _=>E0) (af (ae 0) (am))) (tUn lY (tC (.int 1)))) (am))) (am))))
def EK (K:cW)(A:Adr)(E:XK):TS:=ay (cv K (ae 0) (bH A.c_Table (jg K A) (fun _=>E) (af (ae 1) (af (ae 2) (am)))) "table") (ay (cv K (ae 0) (bH A.c_Row (kG K A) (fun _=>E0) (af (ae 1) (am))) "row") (ay (cv K (ae 0) (dZ (am)) "makes") (ay (cv K (ae 0) (ae 3) "seals") (cY (aM A.c_Seals "seal" (ku K A) (fun _=>E0) (ae 3) (af (aA (oK K A) (fun _=>E0) (af (ae 1) (am))) (am)))))))
def Ly (K:cW)(A:Adr):TS:=cv K (ae 0) (gf) "sealed"
def JD (K:cW)(A:Adr):TS:=aF (tOp (cq) (tOp (cN K) (tOp (dW) (tOp (cq) (ae 0) (tC (.int 2147483647))) (tC (.int 48271))) (tOp (dW) (tOp (cN K) (ae 1) (tC (.int 1))) (tC (.int 69621)))) (tC (.int 2147483647)))
def Lo (K:cW)(A:Adr):TS:=ay (aR (bH A.c_Table (jg K A) (fun _=>E0) (af (aL K (ae 0) "stamper") (af (aL K (ae 0) "bits") (am)))) (aI 1)) (ay (cv K (ae 1) (aL K (ae 0) "top") "top") (aF (ae 1)))
def Ke (K:cW)(A:Adr):TS:=ay (aR (bH A.c_Row (kG K A) (fun _=>E0) (af (aL K (ae 0) "stamper") (am))) (aI 1)) (ay (cv K (ae 1) (tCB (nQ K) (af (aL K (ae 0) "entries") (am))) "entries") (aF (ae 1)))
def Jt (K:cW)(A:Adr):TS:=ay (aR (bH A.c_House (fI K A) (fun _=>E0) (af (aL K (aL K (ae 0) "table") "stamper") (af (aL K (aL K (ae 0) "table") "bits") (af (aL K (ae 0) "seals") (am))))) (aI 1)) (ay (cv K (ae 1) (aM A.c_Table "twin" (lq K A) (fun _=>E0) (aL K (ae 0) "table") am) "table") (ay (cv K (ae 1) (aM A.c_Row "twin" (nR K A) (fun _=>E0) (aL K (ae 0) "row") am) "row") (ay (cv K (ae 1) (tCB (nQ K) (af (aL K (ae 0) "makes") (am))) "makes") (aF (ae 1)))))
def LB (K:cW)(A:Adr):TS:=ay (aR (tOp (iF) (tC (.int 1)) (ae 1)) (aI 2)) (ay (bJ (bF (tOp (cn K) (tOp (cq) (ae 0) (tC (.int 3))) (tC (.int 0)))) (aF (tOp (cq) (tOp (cJ) (ae 0) (tC (.int 3))) (ae 2))) (aZ)) (ay (bJ (bF (tOp (cn K) (tOp (cq) (ae 0) (tC (.int 3))) (tC (.int 1)))) (aF (tOp (cq) (tOp (dW) (tOp (cJ) (ae 0) (tC (.int 3))) (tC (.int 982451653))) (ae 2))) (aZ)) (aF (tOp (eC) (tOp (eC) (ae 2) (tC (.int 1))) (tOp (cq) (tOp (cJ) (ae 0) (tC (.int 3))) (ae 2))))))
def KS (K:cW)(A:Adr):TS:=ay (aR (tCB (jD K) (af (ae 0) (am))) (aI 4)) (ay (aR (tOp (cq) (ae 2) (tC (.int 3))) (aI 5)) (ay (bJ (mOr (bF (tOp (cn K) (ae 5) (tC (.int 0)))) (bF (tOp (cn K) (ae 4) (dZ (am))))) (aF (aA (lg K A) (fun _=>E0) (af (ae 1) (af (ae 3) (am))))) (aZ)) (ay (aR (tOp (bR K) (ae 4) (tOp (cq) (tOp (cJ) (ae 2) (tC (.int 3))) (tCB (dj K) (af (ae 4) (am))))) (aI 6)) (ay (bJ (bF (tOp (cn K) (ae 5) (tC (.int 1)))) (aF (ae 6)) (aZ)) (aF (tOp (rL) (ae 6) (tOp (iF) (tC (.int 1)) (tOp (cq) (tOp (cJ) (ae 2) (tC (.int 303))) (ae 3)))))))))
def tN (K:cW)(A:Adr):TS:=aF (tBM K "str" yG (tC (.str "")) (af (oM [0,1] (oN (af (ae 2) (am))) (fun _ H Q=>Q true H) (tOp (bR K) (ae 2) (tOp (cq) (tOp (cN K) (tOp (cJ) (ae 1) (tC (.int 64))) (tOp (dW) (tC (.int 7)) (ae 0))) (tC (.int 36))))) (am)))
def Lr (K:cW)(A:Adr):TS:=ay (aR (tC (.str "abcdefghijklmnopqrstuvwxyz ABC0123;:")) (aI 1)) (ay (aR (tOp (cN K) (tOp (bR K) (dZ (af (tC (.int 0)) (af (tC (.int 1)) (af (tC (.int 2)) (af (tC (.int 5)) (am)))))) (tOp (cq) (ae 0) (tC (.int 4)))) (tOp (dW) (tC (.int 55)) (tCB (sA) (af (tOp (cn K) (tOp (cq) (tOp (cJ) (ae 0) (tC (.int 4))) (tC (.int 16))) (tC (.int 9))) (am))))) (aI 2)) (tN K A))
def Lg (K:cW)(A:Adr):TS:=ay (bJ (bF (tOp (qj) (ae 1) (tC .non))) (aF (tOp (qj) (ae 0) (tC .non))) (aZ)) (aF (cb (tCB (eP) (af (ae 0) (af (tC (.ty "str")) (am)))) (tOp (cn K) (ae 0) (ae 1))))
def Lv (K:cW)(A:Adr):TS:=aF (cb (aA (fG K A) (fun _=>E0) (af (ae 1) (am))) (dM (mLe) (mLt) (tC (.int 0)) (ae 1) (tOp (iF) (tC (.int 1)) (ae 0))))
def T_1 (K:cW)(A:Adr):TS:=aF (tC .non)
def KP (K:cW)(A:Adr):TS:=aF (mIf (bF (tOp (cn K) (ae 2) (aL K (ae 0) "key"))) (aL K (ae 0) "text") (tC .non))
def JC (K:cW)(A:Adr):TS:=aF (tOp (tz) (tOp (sK) (ae 1) (tOp (eC) (tOp (eC) (ae 0) (ae 2)) (tC (.int 1)))) (tC (.int 1)))
def T_9 (K:cW)(A:Adr):TS:=aF (mIf (bF (tOp (cn K) (aA (iz K A) (fun _=>E0) (af (ae 1) (af (ae 2) (af (aL K (ae 0) "depth") (am))))) (tC (.int 0)))) (aL K (ae 0) "left") (aL K (ae 0) "right"))
def T_7 (K:cW)(A:Adr)(n:Nat):TS:=aF (gi [(A.c_Bare,(lR K A)),(A.c_Leaf,(jw K A)),(A.c_Fork,(ki K A n))] "found" (fun _=>E0) (aM A.c_Fork "toward" (lT K A) (fun _=>E0) (ae 0) (af (ae 1) (af (ae 2) (am)))) (af (ae 1) (af (ae 2) (am))))
def AR (K:cW)(A:Adr)(E:XK):TS:=ay (bJ (dv (cZ K (aA (oP K A) (fun _=>E0) (af (aL K (ae 0) "bits") (af (ae 1) (am)))))) (gM A.c_NoKey (fun _=>E)) (aZ)) (aF (gi [(A.c_Bare,(lR K A)),(A.c_Leaf,(jw K A)),(A.c_Fork,(ki K A 70))] "found" (fun _=>E0) (aL K (ae 0) "top") (af (aL K (ae 0) "bits") (af (ae 1) (am)))))
def Kb (K:cW)(A:Adr):TS:=aF (cb (tCB (eP) (af (ae 0) (af (tC (.ty "str")) (am)))) (tOp (mLe) (tCB (dj K) (af (ae 0) (am))) (tC (.int 60))))
def JP (K:cW)(A:Adr):TS:=ay (cY (aA (jr K A) (fun _=>E0) (af (ae 0) (af (ae 1) (af (eD (af (tC (.str "leaf")) (af (ae 2) (af (ae 3) (am))))) (am)))))) (ay (cv K (ae 0) (ae 2) "key") (cv K (ae 0) (ae 3) "text"))
def T_2 (K:cW)(A:Adr):TS:=aF (bH A.c_Leaf (ia K A) (fun _=>E0) (af (ae 1) (af (ae 3) (af (ae 4) (am)))))
def Kt (K:cW)(A:Adr):TS:=aF (tOp (sK) (ae 1) (tOp (eC) (ae 0) (ae 2)))
def T_4 (K:cW)(A:Adr):TS:=ay (cY (aA (jr K A) (fun _=>E0) (af (ae 0) (af (ae 1) (af (eD (af (tC (.str "fork")) (af (ae 2) (af (ae 3) (af (aL K (ae 4) "mark") (af (aL K (ae 5) "mark") (am))))))) (am)))))) (ay (cv K (ae 0) (ae 2) "depth") (ay (cv K (ae 0) (ae 3) "begin") (ay (cv K (ae 0) (ae 4) "left") (cv K (ae 0) (ae 5) "right"))))
def JO (K:cW)(A:Adr):TS:=ay (aR (aA (jb K A) (fun _=>E0) (af (ae 1) (af (aL K (ae 3) "key") (af (ae 2) (am))))) (aI 5)) (ay (bJ (bF (tOp (cn K) (aA (iz K A) (fun _=>E0) (af (ae 1) (af (aL K (ae 3) "key") (af (ae 2) (am))))) (tC (.int 0)))) (aF (bH A.c_Fork (iP K A) (fun _=>E0) (af (ae 0) (af (ae 2) (af (ae 5) (af (ae 3) (af (ae 4) (am)))))))) (aZ)) (aF (bH A.c_Fork (iP K A) (fun _=>E0) (af (ae 0) (af (ae 2) (af (ae 5) (af (ae 4) (af (ae 3) (am)))))))))
def KU (K:cW)(A:Adr):TS:=aF (tOp (eC) (ae 0) (rP K "int" oO (tOp (rL) (ae 1) (ae 2))))
def JW (K:cW)(A:Adr):TS:=ay (aR (bH A.c_Leaf (ia K A) (fun _=>E0) (af (ae 1) (af (ae 3) (af (ae 4) (am))))) (aI 5)) (ay (bJ (bF (tOp (cn K) (ae 3) (aL K (ae 0) "key"))) (aF (ae 5)) (aZ)) (aF (aA (lJ K A) (fun _=>E0) (af (ae 1) (af (ae 2) (af (aA (lx K A) (fun _=>E0) (af (ae 2) (af (ae 3) (af (aL K (ae 0) "key") (am))))) (af (ae 5) (af (ae 0) (am)))))))))
def T_8 (K:cW)(A:Adr):TS:=aF (tOp (cn K) (aA (jb K A) (fun _=>E0) (af (ae 1) (af (ae 2) (af (aL K (ae 0) "depth") (am))))) (aL K (ae 0) "begin"))
def T_6 (K:cW)(A:Adr):TS:=ay (bJ (bF (tOp (cn K) (aA (iz K A) (fun _=>E0) (af (ae 2) (af (ae 3) (af (aL K (ae 0) "depth") (am))))) (tC (.int 0)))) (aF (bH A.c_Fork (iP K A) (fun _=>E0) (af (ae 1) (af (aL K (ae 0) "depth") (af (aL K (ae 0) "begin") (af (ae 4) (af (aL K (ae 0) "right") (am)))))))) (aZ)) (aF (bH A.c_Fork (iP K A) (fun _=>E0) (af (ae 1) (af (aL K (ae 0) "depth") (af (aL K (ae 0) "begin") (af (aL K (ae 0) "left") (af (ae 4) (am))))))))
def JN (K:cW)(A:Adr)(n:Nat):TS:=ay (bJ (dv (cZ K (aM A.c_Fork "leads" (sT K A) (fun _=>E0) (ae 0) (af (ae 2) (af (ae 3) (am)))))) (ay (aR (aA (lx K A) (fun _=>E0) (af (aL K (ae 0) "depth") (af (aL K (ae 0) "begin") (af (aA (jb K A) (fun _=>E0) (af (ae 2) (af (ae 3) (af (aL K (ae 0) "depth") (am))))) (am))))) (aI 5)) (aF (aA (lJ K A) (fun _=>E0) (af (ae 1) (af (ae 2) (af (ae 5) (af (bH A.c_Leaf (ia K A) (fun _=>E0) (af (ae 1) (af (ae 3) (af (ae 4) (am))))) (af (ae 0) (am))))))))) (aZ)) (aF (aM A.c_Fork "changed" (qi K A) (fun _=>E0) (ae 0) (af (ae 1) (af (ae 2) (af (ae 3) (af (gi [(A.c_Bare,(mC K A)),(A.c_Leaf,(jf K A)),(A.c_Fork,(ie K A n))] "with_key" (fun _=>E0) (aM A.c_Fork "toward" (lT K A) (fun _=>E0) (ae 0) (af (ae 2) (af (ae 3) (am)))) (af (ae 1) (af (ae 2) (af (ae 3) (af (ae 4) (am)))))) (am)))))))
def DG (K:cW)(A:Adr)(E:XK):TS:=ay (aR (aM A.c_Table "value_of" (jt K A) (fun _=>E) (ae 0) (af (ae 1) (am))) (aI 3)) (ay (bJ (dv (cZ K (aA (nS K A) (fun _=>E0) (af (ae 2) (am))))) (gM A.c_NoValue (fun _=>E)) (aZ)) (ay (cv K (ae 0) (gi [(A.c_Bare,(mC K A)),(A.c_Leaf,(jf K A)),(A.c_Fork,(ie K A 70))] "with_key" (fun _=>E0) (aL K (ae 0) "top") (af (aL K (ae 0) "stamper") (af (aL K (ae 0) "bits") (af (ae 1) (af (ae 2) (am)))))) "top") (aF (ae 3))))
def CJ (K:cW)(A:Adr)(E:XK):TS:=aF (aM A.c_Table "put" (lj K A) (fun _=>E) (aL K (ae 0) "table") (af (ae 1) (af (ae 2) (am))))
def T_3 (K:cW)(A:Adr):TS:=aF (ae 0)
def KD (K:cW)(A:Adr):TS:=aF (mIf (bF (tOp (cn K) (ae 3) (aL K (ae 0) "key"))) (bH A.c_Bare (mD K A) (fun _=>E0) (af (ae 1) (am))) (ae 0))
def T_5 (K:cW)(A:Adr):TS:=aF (mIf (bF (tOp (cn K) (aA (iz K A) (fun _=>E0) (af (ae 1) (af (ae 2) (af (aL K (ae 0) "depth") (am))))) (tC (.int 0)))) (aL K (ae 0) "right") (aL K (ae 0) "left"))
def La (K:cW)(A:Adr)(n:Nat):TS:=ay (aR (gi [(A.c_Bare,(lZ K A)),(A.c_Leaf,(jA K A)),(A.c_Fork,(gQ K A n))] "without" (fun _=>E0) (aM A.c_Fork "toward" (lT K A) (fun _=>E0) (ae 0) (af (ae 2) (af (ae 3) (am)))) (af (ae 1) (af (ae 2) (af (ae 3) (am))))) (aI 4)) (ay (bJ (cZ K (tCB (zE K) (af (ae 4) (af (tC (.ref A.c_Bare)) (am))))) (aF (aM A.c_Fork "aside" (rC K A) (fun _=>E0) (ae 0) (af (ae 2) (af (ae 3) (am))))) (aZ)) (aF (aM A.c_Fork "changed" (qi K A) (fun _=>E0) (ae 0) (af (ae 1) (af (ae 2) (af (ae 3) (af (ae 4) (am))))))))
def Dy (K:cW)(A:Adr)(E:XK):TS:=ay (aR (aM A.c_Table "value_of" (jt K A) (fun _=>E) (ae 0) (af (ae 1) (am))) (aI 2)) (ay (bJ (bF (tOp (qj) (ae 2) (tC .non))) (gM A.c_Missing (fun _=>E)) (aZ)) (ay (cv K (ae 0) (gi [(A.c_Bare,(lZ K A)),(A.c_Leaf,(jA K A)),(A.c_Fork,(gQ K A 70))] "without" (fun _=>E0) (aL K (ae 0) "top") (af (aL K (ae 0) "stamper") (af (aL K (ae 0) "bits") (af (ae 1) (am))))) "top") (aF (ae 2))))
def BU (K:cW)(A:Adr)(E:XK):TS:=aF (aM A.c_Table "take" (lr K A) (fun _=>E) (aL K (ae 0) "table") (af (ae 1) (am)))
def Kz (K:cW)(A:Adr):TS:=ay (aR (tC (.bl false)) (aI 3)) (ay (aR (tC .non) (aI 4)) (ay (iE K (fun EH=>aR (aM A.c_House "take" (ly K A) EH (ae 0) (af (ae 2) (am))) (aI 4)) (gW K A.c_Missing (aR (tC (.bl true)) (aI 3)) (gr)) (aZ)) (ay (bJ (bF (tOp (jC K) (ae 2) (ae 1))) (aF (ae 3)) (aZ)) (aF (cb (je (ae 3)) (aA (iq K A) (fun _=>E0) (af (ae 4) (af (tBM K "dict" zC (ae 1) (af (ae 2) (am))) (am)))))))))
def JJ (K:cW)(A:Adr):TS:=ay (bJ (dv (cZ K (aA (jy K A) (fun _=>E0) (af (ae 1) (am))))) (gN) (aZ)) (ay (cY (tBM K "list" jo (aL K (ae 0) "entries") (af (ae 1) (am)))) (aF (tOp (eC) (tCB (dj K) (af (aL K (ae 0) "entries") (am))) (tC (.int 1)))))
def JL (K:cW)(A:Adr):TS:=aF (aL K (aL K (ae 0) "top") "mark")
def Lz (K:cW)(A:Adr):TS:=aF (tCB (dj K) (af (aL K (ae 0) "entries") (am)))
def Kp (K:cW)(A:Adr):TS:=aF (cb (aA (ji K A) (fun _=>E0) (af (ae 0) (am))) (cb (aA (fG K A) (fun _=>E0) (af (ae 1) (am))) (dM (mLe) (mLe) (tC (.int 0)) (ae 1) (ae 0))))
def Lc (K:cW)(A:Adr):TS:=aF (cb (aA (pb K A) (fun _=>E0) (af (ae 1) (af (ae 2) (am)))) (tOp (mLe) (ae 1) (aM A.c_Row "size" (gn K A) (fun _=>E0) (ae 0) am)))
def Ks (K:cW)(A:Adr):TS:=aF (tOp (iF) (tC (.int 1)) (tOp (eC) (rP K "int" oO (tOp (eC) (ae 0) (tC (.int 1)))) (tC (.int 1))))
def Jv (K:cW)(A:Adr)(n:Nat):TS:=ay (bJ (bF (tOp (cn K) (ae 2) (tC (.int 0)))) (aF (eD (af (tC (.str "void")) (am)))) (aZ)) (ay (bJ (bF (tOp (cn K) (ae 2) (tC (.int 1)))) (aF (eD (af (tC (.str "entry")) (af (tOp (bR K) (aL K (ae 0) "entries") (ae 1)) (am))))) (aZ)) (ay (aR (aA (pc K A) (fun _=>E0) (af (ae 2) (am))) (aI 3)) (aF (eD (af (tC (.str "joint")) (af (aM A.c_Row "top_of" (fE K A n) (fun _=>E0) (ae 0) (af (ae 1) (af (ae 3) (am)))) (af (aM A.c_Row "top_of" (fE K A n) (fun _=>E0) (ae 0) (af (tOp (cN K) (ae 1) (ae 3)) (af (tOp (eC) (ae 2) (ae 3)) (am)))) (am))))))))
def LH (K:cW)(A:Adr)(n:Nat):TS:=ay (aR (eD (af (ae 1) (af (ae 2) (am)))) (aI 3)) (ay (bJ (bF (tOp (jC K) (ae 3) (aL K (ae 0) "tops"))) (aR (qf (gP K A) A.c_Row "stamper" (fun _=>E0) (ae 0) (af (aM A.c_Row "top_term" (ox K A n) (fun _=>E0) (ae 0) (af (ae 1) (af (ae 2) (am)))) (am))) (gX (aL K (ae 0) "tops") (ae 3) fH)) (aZ)) (aF (tOp (bR K) (aL K (ae 0) "tops") (ae 3))))
def Jx (K:cW)(A:Adr):TS:=ay (bJ (dv (cZ K (aM A.c_Row "has_elder" (nq K A) (fun _=>E0) (ae 0) (af (aM A.c_Row "size" (gn K A) (fun _=>E0) (ae 0) am) (af (ae 1) (am)))))) (gN) (aZ)) (aF (qf (gP K A) A.c_Row "stamper" (fun _=>E0) (ae 0) (af (eD (af (tC (.str "row")) (af (ae 1) (af (aM A.c_Row "top_of" (fE K A 70) (fun _=>E0) (ae 0) (af (tC (.int 0)) (af (ae 1) (am)))) (am))))) (am))))
def Jw (K:cW)(A:Adr):TS:=ay (aR (aM A.c_Row "size" (gn K A) (fun _=>E0) (aL K (ae 0) "row") am) (aI 1)) (aF (eD (af (ae 1) (af (aM A.c_Row "mark_at" (nO K A) (fun _=>E0) (aL K (ae 0) "row") (af (ae 1) (am))) (am)))))
def KN (K:cW)(A:Adr):TS:=ay (cY (aM A.c_Row "add" (oE K A) (fun _=>E0) (aL K (ae 0) "row") (af (aM A.c_Table "root" (oi K A) (fun _=>E0) (aL K (ae 0) "table") am) (am)))) (ay (cY (tBM K "list" jo (aL K (ae 0) "makes") (af (aM A.c_Table "twin" (lq K A) (fun _=>E0) (aL K (ae 0) "table") am) (am)))) (ay (aR (aM A.c_House "newest" (oX K A) (fun _=>E0) (ae 0) am) (aI 1)) (ay (cY (aM A.c_Seals "seal" (ku K A) (fun _=>E0) (aL K (ae 0) "seals") (af (ae 1) (am)))) (aF (ae 1)))))
def JR (K:cW)(A:Adr):TS:=aF (cb (tCB (eP) (af (ae 0) (af (tC (.ty "int")) (am)))) (je (tCB (eP) (af (ae 0) (af (tC (.ty "bool")) (am))))))
def JK (K:cW)(A:Adr):TS:=ay (cY (tBM K "list" jo (ae 2) (af (tCB (tw K) (af (ae 1) (am))) (am)))) (ay (aR (aM A.c_House "make" (nF K A) (fun _=>E0) (ae 0) am) (aI 3)) (aF (cb (tCB (eP) (af (ae 3) (af (tC (.ty "tuple")) (am)))) (cb (tOp (cn K) (tCB (dj K) (af (ae 3) (am))) (tC (.int 2))) (cb (aA (oU K A) (fun _=>E0) (af (tOp (bR K) (ae 3) (tC (.int 0))) (am))) (tOp (cn K) (tOp (bR K) (ae 3) (tC (.int 0))) (tCB (dj K) (af (ae 2) (am)))))))))
def KQ (K:cW)(A:Adr):TS:=aF (cb (aA (ji K A) (fun _=>E0) (af (ae 0) (am))) (cb (aA (fG K A) (fun _=>E0) (af (ae 1) (am))) (dM (mLe) (mLt) (tC (.int 0)) (ae 1) (ae 0))))
def Kw (K:cW)(A:Adr):TS:=aF (cb (aA (nA K A) (fun _=>E0) (af (ae 1) (af (ae 2) (am)))) (tOp (mLe) (ae 1) (aM A.c_Row "size" (gn K A) (fun _=>E0) (ae 0) am)))
def Bc (K:cW)(A:Adr)(E:XK):TS:=ay (bJ (dv (cZ K (aM A.c_Row "has_place" (oh K A) (fun _=>E0) (aL K (ae 0) "row") (af (aM A.c_Row "size" (gn K A) (fun _=>E0) (aL K (ae 0) "row") am) (af (ae 1) (am)))))) (gM A.c_NoPlace (fun _=>E)) (aZ)) (aF (aM A.c_Table "value_of" (jt K A) (fun _=>E) (tOp (bR K) (aL K (ae 0) "makes") (ae 1)) (af (ae 2) (am))))
def uI (K:cW)(A:Adr):TS:=aF (aA (iq K A) (fun _=>E0) (af (aM A.c_House "value_at" (iy K A) (fun _=>E0) (ae 0) (af (ae 9) (af (ae 6) (am)))) (af (tBM K "dict" oV (tOp (bR K) (ae 2) (ae 9)) (af (ae 6) (am))) (am))))
def Lj (K:cW)(A:Adr):TS:=ay (aR (aA (nv K A) (fun _=>E0) (af (ae 1) (af (ae 3) (af (tOp (cJ) (ae 4) (tC (.int 5))) (af (ae 5) (am)))))) (aI 6)) (ay (bJ (bF (tOp (mLt) (tOp (cq) (ae 4) (tC (.int 5))) (tC (.int 2)))) (ay (aR (aA (nX K A) (fun _=>E0) (af (tOp (cJ) (ae 4) (tC (.int 5))) (am))) (aI 7)) (ay (aR (tBM K "dict" oV (ae 1) (af (ae 6) (am))) (aI 8)) (ay (aR (ae 7) (gX (ae 1) (ae 6) fH)) (aF (aA (iq K A) (fun _=>E0) (af (aM A.c_House "put" (jl K A) (fun _=>E0) (ae 0) (af (ae 6) (af (ae 7) (am)))) (af (ae 8) (am)))))))) (aZ)) (ay (bJ (bF (tOp (cn K) (tOp (cq) (ae 4) (tC (.int 5))) (tC (.int 2)))) (aF (aA (oq K A) (fun _=>E0) (af (ae 0) (af (ae 1) (af (ae 6) (am)))))) (aZ)) (ay (bJ (mOr (bF (tOp (cn K) (tOp (cq) (ae 4) (tC (.int 5))) (tC (.int 3)))) (bF (tOp (Ey K) (ae 2) (dZ (am))))) (aF (aA (lA K A) (fun _=>E0) (af (ae 0) (af (ae 1) (af (ae 2) (am)))))) (aZ)) (ay (aR (tOp (cq) (tOp (cJ) (ae 4) (tC (.int 5))) (tCB (dj K) (af (ae 2) (am)))) (aI 9)) (uI K A)))))
def Le (K:cW)(A:Adr):TS:=ay (aR (tC (.bl false)) (aI 3)) (ay (iE K (fun EH=>cY (aM A.c_House "value_at" (iy K A) EH (ae 0) (af (ae 1) (af (ae 2) (am))))) (gW K A.c_NoPlace (aR (tC (.bl true)) (aI 3)) (gr)) (aZ)) (aF (ae 3)))
def Ld (K:cW)(A:Adr):TS:=ay (aR (tC (.int 0)) (aI 3)) (ay (iE K (fun EH=>cY (aM A.c_House "put" (jl K A) EH (ae 0) (af (ae 1) (af (tC (.int 5)) (am))))) (gW K A.c_NoKey (aR (tOp (cN K) (ae 3) (tC (.int 1))) (aI 3)) (gr)) (aZ)) (ay (iE K (fun EH=>cY (aM A.c_House "take" (ly K A) EH (ae 0) (af (ae 1) (am)))) (gW K A.c_NoKey (aR (tOp (cN K) (ae 3) (tC (.int 1))) (aI 3)) (gr)) (aZ)) (ay (iE K (fun EH=>cY (aM A.c_House "value_at" (iy K A) EH (ae 0) (af (tC (.int 0)) (af (ae 1) (am))))) (gW K A.c_NoKey (aR (tOp (cN K) (ae 3) (tC (.int 1))) (aI 3)) (gW K A.c_NoPlace (aR (tOp (cN K) (ae 3) (tCB (sA) (af (je (ae 2)) (am)))) (aI 3)) (gr))) (aZ)) (aF (tOp (cn K) (ae 3) (tC (.int 3)))))))
def JX (K:cW)(A:Adr):TS:=ay (aR (tC (.bl false)) (aI 2)) (ay (iE K (fun EH=>cY (aM A.c_House "put" (jl K A) EH (ae 0) (af (tC (.int 0)) (af (ae 1) (am))))) (gW K A.c_NoValue (aR (tC (.bl true)) (aI 2)) (gr)) (aZ)) (aF (ae 2)))
def Jr (K:cW)(A:Adr):TS:=ay (iY (oN (af (tCB (dj K) (af (ae 1) (am))) (am))) (aI 4) (iY (jd K (ae 2)) (aI 5) (bJ (dv (cZ K (aA (iq K A) (fun _=>E0) (af (aM A.c_House "value_at" (iy K A) (fun _=>E0) (ae 0) (af (ae 4) (af (ae 5) (am)))) (af (tBM K "dict" oV (tOp (bR K) (ae 1) (ae 4)) (af (ae 5) (am))) (am)))))) (aF (tC (.bl false))) (aZ)))) (ay (iY (jd K (dZ (af (tUn lY (tC (.int 1))) (af (tCB (dj K) (af (ae 1) (am))) (af (tC (.bl true)) (af (tC .non) (af (tC (.str "0")) (am)))))))) (aI 4) (bJ (mOr (dv (cZ K (aA (lF K A) (fun _=>E0) (af (ae 0) (af (ae 4) (af (tC (.int 0)) (am))))))) (dv (cZ K (aA (lF K A) (fun _=>E0) (af (ae 0) (af (ae 4) (af (tUn lY (tC (.int 1))) (am)))))))) (aF (tC (.bl false))) (aZ))) (aF (cb (aA (nJ K A) (fun _=>E0) (af (ae 0) (af (tOp (iF) (tC (.int 1)) (ae 3)) (af (tOp (Dr K) (ae 1) (dZ (am))) (am))))) (aA (nK K A) (fun _=>E0) (af (ae 0) (af (tOp (dW) (tC (.str "a")) (tC (.int 61))) (am)))))))
def KH (K:cW)(A:Adr):TS:=ay (aR (tC (.bl false)) (aI 1)) (ay (iE K (fun EH=>cY (bH A.c_House (fI K A) EH (af (aA (kR K A) (fun _=>E0) am) (af (ae 0) (af (bH A.c_Seals (gk K A) (fun _=>E0) (am)) (am)))))) (gW K A.c_NoBits (aR (tC (.bl true)) (aI 1)) (gr)) (aZ)) (aF (ae 1)))
def DJ (K:cW)(A:Adr):TS:=aF (cb (aA (jc K A) (fun _=>E0) (af (tC (.int 0)) (am))) (cb (aA (jc K A) (fun _=>E0) (af (tC (.int 61)) (am))) (aA (jc K A) (fun _=>E0) (af (tC (.bl true)) (am)))))
def Dq (K:cW)(A:Adr):TS:=ay (bJ (mOr (dv (cZ K (aA (kY K A) (fun _=>E0) (af (tOp (bR K) (ae 3) (tC (.int 0))) (af (tOp (bR K) (ae 5) (tC (.int 0))) (af (ae 9) (af (ae 2) (am)))))))) (dv (cZ K (aA (kY K A) (fun _=>E0) (af (tOp (bR K) (ae 3) (tC (.int 1))) (af (tOp (bR K) (ae 5) (tC (.int 1))) (af (ae 9) (af (ae 2) (am))))))))) (aF (tC (.bl false))) (aZ)) (DJ K A)
def DW (K:cW)(A:Adr):TS:=ay (aR (tSl (xc K) (tOp (cN K) (tCB (jD K) (af (tOp (bR K) (ae 4) (tC (.int 0))) (am))) (tCB (jD K) (af (tOp (bR K) (ae 4) (tC (.int 1))) (am)))) (jk) (nY (tC (.int 12)))) (aI 9)) (Dq K A)
def uW (K:cW)(A:Adr):TS:=ay (iY (rO (af (tC (.int 2)) (af (tCB (wq) (af (tCB (dj K) (af (ae 0) (am))) (af (tC (.int 42)) (am)))) (am)))) (aI 6) (ay (aR (aA (oY K A) (fun _=>E0) (af (tOp (bR K) (ae 0) (ae 6)) (af (ae 6) (am)))) (aI 7)) (ay (aR (tOp (cq) (ae 7) (tC (.int 2))) (aI 8)) (ay (bJ (bF (tOp (cn K) (tOp (cq) (tOp (cJ) (ae 7) (tC (.int 2))) (tC (.int 11))) (tC (.int 10)))) (ay (aR (aM A.c_House "twin" (nN K A) (fun _=>E0) (tOp (bR K) (ae 3) (ae 8)) am) (gX (ae 3) (tOp (eC) (tC (.int 1)) (ae 8)) fH)) (ay (aR (tCB (tw K) (af (tOp (bR K) (ae 4) (ae 8)) (am))) (gX (ae 4) (tOp (eC) (tC (.int 1)) (ae 8)) fH)) (aR (tCB (nQ K) (af (tOp (bR K) (ae 5) (ae 8)) (am))) (gX (ae 5) (tOp (eC) (tC (.int 1)) (ae 8)) fH)))) (aZ)) (bJ (dv (cZ K (aA (kQ K A) (fun _=>E0) (af (tOp (bR K) (ae 3) (ae 8)) (af (tOp (bR K) (ae 4) (ae 8)) (af (tOp (bR K) (ae 5) (ae 8)) (af (tOp (bR K) (ae 0) (ae 6)) (af (tOp (cJ) (ae 7) (tC (.int 22))) (af (ae 2) (am)))))))))) (aF (tC (.bl false))) (aZ)))))) (DW K A)
def DQ (K:cW)(A:Adr):TS:=ay (aR (dZ (af (dZ (am)) (af (dZ (am)) (am)))) (aI 5)) (uW K A)
def CD (K:cW)(A:Adr):TS:=ay (aR (dZ (af (gf) (af (gf) (am)))) (aI 4)) (DQ K A)
def pM (K:cW)(A:Adr):TS:=ay (aR (dZ (af (bH A.c_House (fI K A) (fun _=>E0) (af (ae 1) (af (ae 2) (af (bH A.c_Seals (gk K A) (fun _=>E0) (am)) (am))))) (af (bH A.c_House (fI K A) (fun _=>E0) (af (ae 1) (af (ae 2) (af (bH A.c_Seals (gk K A) (fun _=>E0) (am)) (am))))) (am)))) (aI 3)) (CD K A)
def Ky (K:cW)(A:Adr):TS:=ay (aR (aA (nU K A) (fun _=>E0) (af (aA (kL K A) (fun _=>E0) (af (ae 0) (af (tC (.int 0)) (am)))) (am))) (aI 1)) (ay (aR (tOp (cN K) (tC (.int 1)) (tOp (cq) (aA (kL K A) (fun _=>E0) (af (ae 0) (af (tC (.int 1)) (am)))) (tC (.int 60)))) (aI 2)) (pM K A))
variable {K:cW}{mg:Str→Option pv}{A:Adr}
def tyD:Dat→String
 |.non=>"NoneType"
 |.bl _=>"bool"
 |.int _=>"int"
 |.str _=>"str"
 |.lst _=>"list"
 |.tup _=>"tuple"
 |.dic=>"dict"
theorem bc.ty {H:Hp}{v:V}{d:Dat}(h:bc H v d):tyN H v=some (tyD d):=by
 cases h with
 |lst e _=>unfold tyN;dsimp only;rw[e];rfl
 |tup e _=>unfold tyN;dsimp only;rw[e];rfl
 |dic e=>unfold tyN;dsimp only;obtain⟨kvs,e⟩:=e;rw[e];rfl
 |_=>rfl
mutual
theorem bc.toV {K:cW}{H:Hp}{v:V}{d:Dat}(h:bc H v d)(ok:okD d=true):eO K H v (pS d):=by
 cases h with
 |non=>exact .non
 |bl b=>exact .bl b
 |int i=>exact .int i
 |str z=>exact .str z
 |lst e r=>exact .lst (SqL.of e) (DatWs.toV r ok)
 |tup e r=>exact .tup (SqT.of e) (DatWs.toV r ok)
 |dic e=>cases ok
theorem DatWs.toV {K:cW}{H:Hp}{xs:List V}{ds:List Dat}(h:DatWs H xs ds)(ok:okDs ds=true):DatVs K H xs (toPys ds):=by
 cases h with
 |nil=>exact .nil
 |cons a r=>
  have ok:(okD _&&okDs _)=true:=ok
  rw[Mz]at ok
  exact .cons (bc.toV a ok.1) (DatWs.toV r ok.2)
end
theorem iT {z:Str}(h:cf z=true):Sw z=true:=by
 unfold Sw
 unfold cf at h
 rw[PL]at h⊢
 intro i hi
 have:=of_decide_eq_true (h i hi)
 exact decide_eq_true (by omega)
mutual
theorem jW:∀{d:Dat},okD d=true→(pS d).canLay0=true
 |.non,_=>rfl
 |.bl _,_=>rfl
 |.int _,_=>rfl
 |.str z,h=>iT (LO.mp h).1
 |.lst ds,h=>lay_toPys h
 |.tup ds,h=>lay_toPys h
theorem lay_toPys:∀{ds:List Dat},okDs ds=true→PB (toPys ds)=true
 |[],_=>rfl
 |d::r,h=>by
  have h:(okD d&&okDs r)=true:=h
  rw[Mz]at h
  show((pS d).canLay0&&PB (toPys r))=true
  rw[jW h.1,lay_toPys h.2];rfl
end
theorem DatWs.len {H:Hp}:∀{xs:List V}{ds:List Dat},DatWs H xs ds→xs.length=ds.length
 |_,_,.nil=>rfl
 |_,_,.cons _ r=>by rw[MR,MR,r.len]
mutual
theorem bc.mono {H H':Hp}{v:V}{d:Dat}(s:ax H H')(h:bc H v d):bc H' v d:=by
 cases h with
 |non=>exact .non
 |bl b=>exact .bl b
 |int i=>exact .int i
 |str z=>exact .str z
 |lst e r=>exact .lst (s _ _ e) (DatWs.mono s r)
 |tup e r=>exact .tup (s _ _ e) (DatWs.mono s r)
 |dic e=>exact(let ⟨k,e⟩:=e;.dic ⟨k,s _ _ e⟩)
theorem DatWs.mono {H H':Hp}{xs:List V}{ds:List Dat}(s:ax H H')(h:DatWs H xs ds):DatWs H' xs ds:=by
 cases h with
 |nil=>exact .nil
 |cons a r=>exact .cons (bc.mono s a) (DatWs.mono s r)
end
theorem ixT {K:cW}{H:Hp}{Q:VK}{a:Addr}{xs:List V}{x:V}{i:Int}{j:Nat}(ha:H a=some (.tup xs))(e:i=j)(hx:xs[j]?=some x)(q:Q x H):bR K (.ref a) (.int i) H Q:=by
 subst e
 refine .inl (.inr (.inl ⟨a,xs,j,x,rfl,rfl,SqT.of ha,?_,q⟩))
 have hj:=(LX.mp hx).1
 rw[uf (by omega) (by omega)]
 simp[LQ,hx]
theorem Be (K:cW)(A:Adr):Ln (fG K A) 1:=by rintro vs H Q E ⟨v,d,rfl,_⟩;rfl
theorem Gz (T:Txt K mg A)(vs:List V)(H:Hp)(Q:VK)(E:XK)(h:fG K A vs H Q E):LC K A {nx:=fun _ H'=>Q .non H',rt:=Q} (start ["thing"] vs) H:=by
 obtain⟨v,d,rfl,w,q⟩:=h
 refine⟨by decide,_,w.ty,?_⟩
 cases d
 case int i=>exact Sel.yes rfl ⟨by decide,_,w.ty,q⟩
 case bl b=>exact Sel.yes rfl ⟨by decide,_,w.ty,q⟩
 all_goals exact Sel.no rfl q
theorem DF (K:cW)(A:Adr):Ln (jy K A) 1:=by rintro vs H Q E ⟨v,d,rfl,_⟩;rfl
theorem Gc (T:Txt K mg A)(vs:List V)(H:Hp)(Q:VK)(E:XK)(h:jy K A vs H Q E):LE K A {nx:=fun _ H'=>Q .non H',rt:=Q} (start ["thing"] vs) H:=by
 obtain⟨v,d,rfl,w,q⟩:=h
 refine⟨v,d,rfl,w,?_⟩
 cases w with
 |int i=>
  refine Sel.yes rfl (Sel.dec (fun h0=>⟨⟨by decide,by decide,by decide⟩,?_⟩) (fun h0=>?_))
  ·show Q (.bl (decide (i<10^((60:Int).toNat)))) H
   have e:dD (.int i)=decide (i<10^((60:Int).toNat)):=by
    show decide (0≤i∧i<10^60)=decide (i<10^60)
    by_cases h1:i<10^60
    ·rw[decide_eq_true h1,decide_eq_true ⟨h0,h1⟩]
    ·rw[decide_eq_false h1,decide_eq_false fun z=>h1 z.2]
   rw[←e];exact q
  ·have e:dD (.int i)=false:=decide_eq_false fun z=>h0 z.1
   rw[←e];exact q
 |non=>exact Sel.no rfl ⟨by decide,_,rfl,q⟩
 |bl b=>exact Sel.no rfl ⟨by decide,_,rfl,q⟩
 |str z=>exact Sel.no rfl ⟨by decide,_,rfl,q⟩
 |lst e r=>exact Sel.no rfl ⟨by decide,_,(bc.lst e r).ty,q⟩
 |tup e r=>exact Sel.no rfl ⟨by decide,_,(bc.tup e r).ty,q⟩
 |dic e=>exact Sel.no rfl ⟨by decide,_,(bc.dic e).ty,q⟩
theorem mO {x y:Str}(h1:cf x=true)(h2:cf y=true):cf (x++y)=true:=by
 unfold cf at h1 h2⊢
 show(x.cps++y.cps).all _=true
 rw[Array.all_append,h1,h2];rfl
theorem AW (H:Hp)(m:Key):bc H (kV m) (jV m):=by cases m<;>constructor
theorem qL {k:List Key}(h:okT k=true):1≤k.length∧k.length≤8:=by
 unfold okT at h
 simp only[Mz]at h
 exact of_decide_eq_true h.1.1
theorem Aq {k:List Key}(h:okT k=true):k.all okP=true:=by
 unfold okT at h
 rw[Mz]at h
 exact h.2
theorem qH {k:List Key}{x:Key}(h:okT k=true)(hx:x∈k):okP x=true:=Na.mp (Aq h) x hx
theorem xh {k:List Key}(h:okT k=true):∃z r,k=.inr z::r:=by
 unfold okT at h
 simp only[Mz]at h
 cases k with
 |nil=>cases h.1.2
 |cons x r=>
  cases x with
  |inl i=>cases h.1.2
  |inr z=>exact⟨z,r,rfl⟩
theorem vQ {x:Key}(h:okP x=true):dD (jV x)=true:=by
 cases x with
 |inl i=>exact h
 |inr z=>rfl
theorem tE {i:Int}(h0:0≤i)(h1:i<10^60):i.natAbs.log2<1920:=by
 by_cases e:i.natAbs=0
 ·rw[e];decide
 ·refine(RE e).mpr ?_
  have:i.natAbs<10^60:=by omega
  exact LV this (by decide+kernel)
theorem zJ {x y:Str}(h1:cf x=true)(h2:cf y=true):cf (x++y)=true:=mO h1 h2
theorem vO {z:Str}(h:∀c∈z.cps.toList,c<128):cf z=true:=by
 unfold cf
 rw[PL]
 intro i hi
 exact decide_eq_true (h _ (by simp))
theorem pR {z:Str}(h:cf z=true):∀c∈z.cps.toList,c<128:=by
 intro c hc
 unfold cf at h
 rw[PL]at h
 obtain⟨i,hi,e⟩:=List.getElem_of_mem hc
 have:=of_decide_eq_true (h i (by simpa using hi))
 rw[←e]
 simpa using this
theorem Eh (K:cW)(A:Adr):Ln (oS K A) 1:=by rintro vs H Q E ⟨p,k,rfl,_⟩;rfl
theorem IR (T:Txt K mg A):Rd (oS K A) (KR K A) ["thing"]:=by
 intro vs H Q E h
 obtain⟨p,k,rfl,hp,ok,q⟩:=h
 obtain⟨l1,l8⟩:=qL ok
 obtain⟨z,r,hk⟩:=xh ok
 have ty:tyN H (.ref p)=some "tuple":=by unfold tyN;dsimp only;rw[hp]
 refine⟨by decide,"tuple",ty,Sel.no rfl (.inl (.inr (.inl ⟨_,SqT.of hp,?_⟩)))⟩
 refine Sel.dec (fun h1=>?_) (fun h1=>absurd (by simp;omega) h1)
 refine Sel.ndec (fun h8=>absurd (by simp;omega) h8) (fun h8=>?_)
 refine ixT (j:=0) hp rfl (by rw[hk];rfl) ⟨by decide,"str",rfl,Sel.yes rfl ?_⟩
 refine⟨p,rfl,.inr ⟨⟨_,SqT.of hp⟩,fun D hD=>?_⟩⟩
 have hne:p≠D:=ag hp hD
 have hml:(k.map kV).length=k.length:=by simp
 refine rj (eK.tuple (xs:=k.map kV) .non) (fun i ys H2=>ys=(k.take i).map (fun x=>V.bl true)∧H2=upd H D (.lst ys)) (fun i ys H2 hi ⟨_,e2⟩=>?_) ⟨rfl,rfl⟩ (fun i ys H2 hi ⟨e1,e2⟩=>?_) (fun ys H2 ⟨e1,e2⟩=>?_)
 ·rw[e2];exact SqT.of (by rw[ao hne];exact hp)
 ·subst e2
  have hi':i<k.length:=by omega
  obtain⟨x,hx⟩:∃x,k[i]?=some x:=⟨_,LN hi'⟩
  have hg:(k.map kV).getD i .non=kV x:=by rw[LQ,Ml,hx];rfl
  rw[hg]
  have hs:=vQ (qH ok (Ma hx))
  refine Cz ⟨_,jV x,rfl,AW _ x,?_⟩
  rw[hs]
  have hyl:ys.length=i:=by rw[e1,LJ,Om];omega
  refine⟨aj,by rw[hyl];exact ft (by omega),CWd.next hi ⟨?_,eV⟩⟩
  rw[e1,List.take_add_one,MI,hx];rfl
 ·subst e2
  refine⟨D,k.map fun _=>true,rfl,by rw[aj,e1,hml,Sb,MP];rfl,?_⟩
  have:(k.map fun _=>true).all id=true:=by simp
  rw[this];exact q _ (ax.upd hD)
theorem Dd (K:cW)(A:Adr):Ln (nV K A) 1:=by rintro vs H Q E ⟨x,dx,rfl,_⟩;rfl
theorem GY (T:Txt K mg A):Rd (nV K A) (Ku K A) ["self"]:=by
 intro vs H Q E h
 obtain⟨x,dx,rfl,hx,q⟩:=h
 exact .inr fun d hd=>⟨x,A.c_Numbers,dx,[],rfl,by rw[ao (ag hx hd)];exact hx,T.cl_Numbers,T.na_Numbers_given,by decide,q d hd⟩
theorem fF.mono {H H':Hp}{x d:Addr}{kvs:List (List Key×V)}(s:ax H H')(n:fF A H x d kvs):fF A H' x d kvs:=by
 obtain⟨⟨dx,h1⟩,h2⟩:=n
 exact⟨⟨dx,s _ _ h1⟩,s _ _ h2⟩
theorem fF.hide {H:Hp}{x d:Addr}{kvs:List (List Key×V)}{cs:List Addr}{cvs:List V}(hc:cz H cs cvs)(n:fF A H x d kvs):fF A (cQ cs H) x d kvs:=by
 obtain⟨⟨dx,h1⟩,h2⟩:=n
 exact⟨⟨dx,hc.hide h1 (fun _ z=>nomatch z)⟩,hc.hide h2 (fun _ z=>nomatch z)⟩
theorem Ex (K:cW)(A:Adr):Ln (oZ K A) 2:=by rintro vs H Q E ⟨x,d,p,kvs,k,rfl,_⟩;rfl
theorem Fb (T:Txt K mg A):Rd (oZ K A) (JQ K A) ["self","term"]:=by
 intro vs H Q E h
 obtain⟨x,d,a,kvs,k,rfl,nu,hl,hp,ok,q⟩:=h
 refine⟨a,k,rfl,hp,ok,fun H' s=>Sel.no rfl ?_⟩
 have ta':=s _ _ hp
 obtain⟨⟨dx,hx⟩,hd⟩:=nu.mono s
 have q:=q H' s
 have g:=cF.t hd ta'
 refine⟨x,A.c_Numbers,dx,_,.ref d,rfl,hx,T.cl_Numbers,T.na_Numbers_given,rfl,.inl ⟨d,bY kvs k,rfl,g,?_⟩⟩
 unfold gU hZ at q
 cases e:bY kvs k with
 |some w=>
  rw[e]at q g
  have q:Q w H':=q
  exact Sel.no rfl ⟨x,A.c_Numbers,dx,_,.ref d,rfl,hx,T.cl_Numbers,T.na_Numbers_given,rfl,.inr ⟨d,w,rfl,g,q⟩⟩
 |none=>
  rw[e]at q g
  have q:Q (.int kvs.length) (upd H' d (.dT (bX kvs k (.int kvs.length)))):=q
  have hx':upd H' d (.dT (bX kvs k (.int kvs.length))) x=some (.ins A.c_Numbers dx [("given",.ref d)]):=by rw[ao (bA hx hd (fun z=>nomatch z))];exact hx
  have ha':upd H' d (.dT (bX kvs k (.int kvs.length))) a=some (.tup (k.map kV)):=by rw[ao (bA ta' hd (fun z=>nomatch z))];exact ta'
  refine Sel.yes rfl ⟨x,A.c_Numbers,dx,_,.ref d,rfl,hx,T.cl_Numbers,T.na_Numbers_given,rfl,.inr ⟨d,kvs,rfl,hd,x,A.c_Numbers,dx,_,.ref d,rfl,hx,T.cl_Numbers,T.na_Numbers_given,rfl,.inr ⟨d,_,rfl,.inr ⟨kvs,k,a,hd,rfl,ta',MJ hl (bq (n:=50001) (by decide)),rfl⟩,?_⟩⟩⟩
  have g2:=cF.t (kvs:=bX kvs k (.int kvs.length)) (k:=k) aj ha'
  rw[kh,if_pos rfl]at g2
  exact⟨x,A.c_Numbers,dx,_,.ref d,rfl,hx',T.cl_Numbers,T.na_Numbers_given,rfl,.inr ⟨d,_,rfl,g2,q⟩⟩
theorem Iq (T:Txt K mg A)(a0 b0:V)(H:Hp)(Q:VK)(E:XK)(h:tp K A [a0,b0] H Q E):Cv K A (eQ ["term","numbers"] [a0] [b0]) H Q:=by
 obtain⟨x,d,p,kvs,k,e,nu,hl,hp,ok,h⟩:=h
 cases e
 obtain⟨dx,hx⟩:=nu.ob
 exact⟨x,dx,_,rfl,hx,rfl,x,d,p,kvs,k,rfl,nu,hl,hp,ok,h⟩
theorem Ee {H:Hp}{b p:Addr}{kvs:List (List Key×V)}{kk:List Key}{d:V}(hb:H b=some (.dT kvs))(hp:H p=some (.tup (kk.map kV)))(hl:kvs.length≤50000):
  BN H b (.ref p) d (gU kvs kk d) (hZ H b kvs kk d):=by
 unfold gU hZ
 have g:=cF.t hb hp
 cases e:bY kvs kk with
 |some v=>rw[e]at g;exact .inl ⟨g,if_pos rfl⟩
 |none=>rw[e]at g;exact .inr ⟨g,.inr ⟨kvs,kk,p,hb,rfl,hp,MJ hl (bq (n:=50001) (by decide)),if_neg (by decide)⟩,rfl⟩
theorem tX {z:Str}(h:cf z=true)(l u:Option Int):cf (Of z l u)=true:=by
 refine vO fun c hc=>?_
 unfold Of at hc
 split at hc
 ·exact pR h c hc
 ·simp only[List.toList_toArray,PC]at hc
  obtain⟨i,_,e⟩:=hc
  exact pR h c (by rw[←ND]at e;exact Ma e)
theorem cr.trans {P:Addr}{H H1 H2:Hp}(a:cr P H H1)(b:cr P H1 H2):cr P H H2:=fun x o e n=>b x o (a x o e n) n
theorem cr.new {P p:Addr}{H:Hp}{o:HO}(h:H p=none):cr P H (upd H p o):=fun b u e _=>by rw[ao (ag e h)];exact e
theorem cr.tab {P:Addr}{H:Hp}{o:HO}:cr P H (upd H P o):=fun b u e n=>by rw[ao n];exact e
theorem dk {H:Hp}{P q:Addr}{o:HO}(hP:H P=some o)(hq:H q=none):q≠P:=fun e=>by rw[e,hP]at hq;cases hq
theorem bp {H:Hp}{p q:Addr}{o:HO}(h:upd H p o q=none):q≠p∧H q=none:=by
 by_cases e:q=p
 ·subst e;rw[aj]at h;cases h
 ·rw[ao e]at h;exact⟨e,h⟩
theorem qb:fq []:=fun p hp=>nomatch hp
theorem Sub.rfl' {g:gOp}:Sub g g:=fun _ _ e=>e
theorem Sub.trans {g g1 g2:gOp}(a:Sub g g1)(b:Sub g1 g2):Sub g g2:=fun k v e=>b k v (a k v e)
theorem gL (kvs:List (List Key×Key))(k:List Key):bY (bG kvs) k=(ci kvs k).map kV:=by
 unfold bY bG ci
 rw[List.find?_map]
 simp only[Option.map_map]
 congr 1
theorem uz {kvs:List (List Key×Key)}{k:List Key}{v:Key}{x:List Key×Key}(h:ci kvs k=some v):ci (kvs++[x]) k=some v:=by
 unfold ci at h⊢
 rw[RP]
 cases e:kvs.find? fun p=>decide (p.1=k)with
 |none=>rw[e]at h;cases h
 |some y=>rw[e]at h;exact h
theorem vL {kvs:List (List Key×Key)}{k:List Key}{d:Key}(h:ci kvs k=none):ci (kvs++[(k,d)]) k=some d:=by
 unfold ci at h⊢
 rw[RP]
 cases e:kvs.find? fun p=>decide (p.1=k)with
 |none=>simp
 |some y=>rw[e]at h;cases h
theorem xH {kvs:List (List Key×Key)}{k:List Key}{v:Key}(h:ci kvs k=some v):bY (bG kvs) k=some (kV v):=by rw[gL,h];rfl
theorem jS {kvs:List (List Key×Key)}{k:List Key}{v:Key}(hs:fq kvs)(h:ci kvs k=some v):gc v:=by
 unfold ci at h
 cases e:kvs.find? fun p=>decide (p.1=k)with
 |none=>rw[e]at h;cases h
 |some y=>
  rw[e]at h
  cases h
  exact hs y (List.mem_of_find?_eq_some e)
theorem qt {kvs:List (List Key×Key)}{x:List Key×Key}(h:fq kvs)(hx:gc x.2):fq (kvs++[x]):=fun p hp=>by
 rcases Mu.mp hp with z|z
 ·exact h p z
 ·rw[LZ.mp z];exact hx
theorem gO {k:List Key}{v:Key}(hk:1≤k.length)(h:gc v):sj k v:=by
 cases v with
 |inl i=>exact h
 |inr z=>
  refine⟨h.1,Mh h.2 ?_⟩
  cases k with
  |nil=>simp at hk
  |cons x r=>
   show 62≤((x::r).map szK).sum
   rw[Mo,QL]
   have:62≤szK x:=by cases x with
    |inl i=>exact ah 62
    |inr z=>show 62≤z.length+62;omega
   omega
theorem pI {H:Hp}{b:Addr}{cs:List Addr}{cvs:List V}{kvs:List (List Key×Key)}(kk:List Key)(d:Key)(hs:fq kvs)(hd:gc d)(hb:H b=some (.dT (bG kvs)))(hc:cz H cs cvs)(H1:Hp)(S:ax (cQ cs H) H1):
  ∃(kvs':List (List Key×Key))(v:Key)(H':Hp),gU (bG kvs) kk (kV d)=kV v∧cO cs H (hZ H1 b (bG kvs) kk (kV d))=H'∧H' b=some (.dT (bG kvs'))∧(∀x o,x≠b→H x=some o→H' x=some o)∧kvs'.length≤kvs.length+1∧fq kvs'∧ci kvs' kk=some v∧gc v∧∀k v,ci kvs k=some v→ci kvs' k=some v:=by
 have hbc:b∉cs:=hc.notin hb fun _ z=>nomatch z
 have S2:=ax.hide cs S
 cases e:ci kvs kk with
 |some v=>
  have ev:=xH e
  refine⟨kvs,v,cO cs H H1,by unfold gU;rw[ev];rfl,?_,S2 _ _ hb,fun _ _ _ h=>S2 _ _ h,OA _,hs,e,jS hs e,fun _ _ h=>h⟩
  unfold hZ;rw[ev];rfl
 |none=>
  have ev:bY (bG kvs) kk=none:=by rw[gL,e];rfl
  refine⟨kvs++[(kk,d)],d,upd (cO cs H H1) b (.dT (bG (kvs++[(kk,d)]))),by unfold gU;rw[ev];rfl,?_,aj,fun x o n h=>by rw[ao n];exact S2 _ _ h,by simp,qt hs hd,vL e,hd,fun _ _ h=>uz h⟩
  unfold hZ;rw[ev,if_neg (by decide),tG hbc,vj _ ev]
  unfold bG;rw[MI];rfl
theorem m0 {x:da×Sp}{l:List (da×Sp)}:x∈x::l:=Mg
theorem mS {x y:da×Sp}{l:List (da×Sp)}(h:x∈l):x∈y::l:=LS _ h
theorem br.rfl' {b:Addr}{H:Hp}:br b H H:=fun _ _ _ e=>e
theorem br.trans {b:Addr}{H H1 H2:Hp}(a:br b H H1)(c:br b H1 H2):br b H H2:=fun x o n e=>c x o n (a x o n e)
theorem br.same {b:Addr}{H H':Hp}(S:ax H H'):br b H H':=fun x o _ e=>S x o e
theorem DS (K:cW)(A:Adr):Ln (kR K A) 0:=by rintro vs H Q E ⟨rfl,_⟩;rfl
theorem GI (T:Txt K mg A)(q0:Addr)(hnd:([q0]:List Addr).Nodup)(vs:List V)(H:Hp)(Q:VK)(E:XK)(h:kR K A vs H Q E):Cc K A q0 {nx:=fun σ H'=>(∀p∈([(0,q0)]:List (Nat×Addr)),H' p.2=none)→Q .non (dG [(0,q0)] σ H'),rt:=fun σ v H'=>(∀p∈([(0,q0)]:List (Nat×Addr)),H' p.2=none)→Q v (dG [(0,q0)] σ H')} (L2.start ["numbers"] vs) H:=by
 obtain⟨rfl,⟨ps,hP,tab⟩,q⟩:=h
 intro x dx hx hdx hne
 refine⟨x,dx,rfl,aj,fun d hd=>⟨rfl,?_⟩⟩
 obtain⟨dnx,hd1⟩:=bp hd
 obtain⟨dndx,hd0⟩:=bp hd1
 have xP:=dk hP hx
 have dxP:=dk hP hdx
 have dP:=dk hP hd0
 generalize e2:upd (upd (upd (upd H dx (.own x)) x (.ins A.c_Numbers dx [])) d (.dT [])) x (.ins A.c_Numbers dx [("given",.ref d)])=H2
 have S2:cr A.t_65 H H2:=by
  intro b o e n
  have b1:=ag e hx
  have b2:=ag e hdx
  have b3:=ag e hd0
  rw[←e2,ao b1,ao b3,ao b1,ao b2];exact e
 have hP2:H2 A.t_65=some (.tbl ps):=by rw[←e2,ao (Lt xP),ao (Lt dP),ao (Lt xP),ao (Lt dxP)];exact hP
 have hx2:H2 x=some (.ins A.c_Numbers dx [("given",.ref d)]):=by rw[←e2,aj]
 have hd2:H2 d=some (.dT []):=by rw[←e2,ao dnx,aj]
 have key:∀(c f:Addr)(H3:Hp),cr A.t_65 H2 H3→eE A H3→f≠A.t_65→c≠A.t_65→H3 f=some (dH f dI [q0] c)→H3 c=some (dF c dI.qual)→H3 q0=none→Q (.ref f) (upd H3 q0 (cy q0 (.ref x))):=by
  intro c f H3 S3 tb fP cP hf hc hq
  have S4:=ax.upd (o:=cy q0 (.ref x)) hq
  obtain⟨ps3,t1,t2⟩:=tb
  exact q f d (ci []) _ ((S2.trans S3).trans (cr.new hq)) ⟨ps3,S4 _ _ t1,t2.imp id fun⟨c',z1,z2⟩=>⟨c',z1,S4 _ _ z2⟩⟩ hd0 (.cnt q0 x [] ⟨⟨c,S4 _ _ hf,S4 _ _ hc⟩,.cons aj .nil⟩ ⟨⟨dx,S4 _ _ (S3 _ _ hx2 xP)⟩,S4 _ _ (S3 _ _ hd2 dP)⟩ (Md _) qb rfl)
 rcases tab with rfl|⟨c,rfl,hc⟩
 ·refine⟨#[],hP2,trivial,.inl ⟨rfl,fun c f hc hf hne hq=>?_⟩⟩
  have cP:=dk hP2 hc
  have fP:=dk hP2 hf
  have c1:∀o,upd H2 A.t_65 o c=none:=fun o=>by rw[ao cP];exact hc
  have f1:∀o,upd (upd H2 A.t_65 o) c (dF c dI.qual) f=none:=fun o=>by rw[ao (Lt hne),ao fP];exact hf
  exact key c f _ (cr.tab.trans ((cr.new (c1 _)).trans (cr.new (f1 _)))) ⟨_,by rw[ao (Lt fP),ao (Lt cP),aj],.inr ⟨c,rfl,by rw[ao hne,aj]⟩⟩ fP cP aj (by rw[ao hne,aj]) (hq _ (LZ.mpr rfl))
 ·have cP:c≠A.t_65:=bA hc hP (fun z=>nomatch z)
  have hc2:=S2 _ _ hc cP
  refine⟨_,hP2,trivial,.inr ⟨c,rfl,fun f hf hq=>?_⟩⟩
  have fP:=dk hP2 hf
  have S3:=ax.upd (o:=dH f dI [q0] c) hf
  exact key c f _ (cr.new hf) ⟨_,S3 _ _ hP2,.inr ⟨c,rfl,S3 _ _ hc2⟩⟩ fP cP aj (S3 _ _ hc2) (hq _ (LZ.mpr rfl))
theorem Stp.clo {H:Hp}{f b:Addr}{g:gOp}{n:Nat}(s:Stp A H f b g n):∃ts∈gP K A,∃cs cvs,dY H f ts.1 cs cvs:=by
 cases s with
 |cnt _ _ _ hc=>exact⟨_,m0,_,_,hc⟩
 |sur _ _ hc=>exact⟨_,mS m0,_,_,hc⟩
 |wi _ _ _ _ _ hc=>exact⟨_,mS (mS m0),_,_,hc⟩
 |wt _ _ _ _ _ hc=>exact⟨_,mS (mS (mS m0)),_,_,hc⟩
def stO (b z:Addr)(o:HO):Prop:=(∃φ,o=.ext φ)∨(z=b∧∃kvs,o=.dT kvs)∨∃C dx v,o=HO.ins C dx [(("given":Str),v)]
theorem Stp.keep {H H':Hp}{f b:Addr}{g:List Key→Option Key}{n m:Nat}(s:Stp A H f b g n)(hn:n≤m)(k:∀z o,H z=some o→stO b z o→H' z=some o):Stp A H' f b g m:=by
 have kx:∀z φ,H z=some (.ext φ)→H' z=some (.ext φ):=fun z φ e=>k z _ e (.inl ⟨_,rfl⟩)
 have kd:∀xs,H b=some (.dT xs)→H' b=some (.dT xs):=fun φ e=>k b _ e (.inr (.inl ⟨rfl,_,rfl⟩))
 cases s with
 |cnt q x kvs hc num hl hs hg=>
  obtain⟨⟨dx,h1⟩,h2⟩:=num
  exact .cnt q x kvs (hc.keep kx) ⟨⟨dx,k _ _ h1 (.inr (.inr ⟨_,_,_,rfl⟩))⟩,kd _ h2⟩ (Mh hl hn) hs hg
 |sur q kvs hc hb hl hs hg=>exact .sur q kvs (hc.keep kx) (kd _ hb) (Mh hl hn) hs hg
 |wi q m kvs h1 h2 hc hb hg=>exact .wi q m kvs h1 h2 (hc.keep kx) (kd _ hb) hg
 |wt q m kvs h1 h2 hc hb hg=>exact .wt q m kvs h1 h2 (hc.keep kx) (kd _ hb) hg
theorem Stp.put {H:Hp}{f b x:Addr}{g:gOp}{n m:Nat}{C dx:Addr}{fs:List (Str×V)}{o:HO}(s:Stp A H f b g n)(hn:n≤m)(e:H x=some (.ins C dx fs))(h:∀v,fs≠[(("given":Str),v)]):Stp A (upd H x o) f b g m:=s.keep hn fun z u ez hz=>by
 rw[ao (bA ez e fun q=>?_)]
 ·exact ez
 ·subst q
  rcases hz with⟨_,q⟩|⟨_,_,q⟩|⟨_,_,v,q⟩
  ·cases q
  ·cases q
  ·injection q with _ _ q;exact h v q
theorem Stp.same {H H':Hp}{f b:Addr}{g:gOp}{n m:Nat}(s:Stp A H f b g n)(hn:n≤m)(S:ax H H'):Stp A H' f b g m:=s.keep hn fun z o e _=>S z o e
theorem Stp.bd {H:Hp}{f b:Addr}{g:gOp}{n:Nat}(s:Stp A H f b g n):∃kvs,H b=some (.dT kvs):=by
 cases s with
 |cnt q x kvs hc num hl hs hg=>exact⟨_,num.di⟩
 |sur q kvs hc hb=>exact⟨_,hb⟩
 |wi q m kvs h1 h2 hc hb hg=>exact⟨_,hb⟩
 |wt q m kvs h1 h2 hc hb hg=>exact⟨_,hb⟩
theorem Stp.nb {H:Hp}{f b z:Addr}{g:gOp}{n:Nat}{o:HO}(s:Stp A H f b g n)(e:H z=some o)(h:∀kvs,o≠.dT kvs):z≠b:=fun q=>by
 subst q
 obtain⟨kvs,w⟩:=s.bd
 rw[e]at w;exact h _ (Me w)
theorem rN {m x:Int}(h1:1≤m)(h2:m≤9):0≤x%m∧x%m<9:=⟨NX _ (by omega),Int.lt_of_lt_of_le (NY _ (by omega)) h2⟩
theorem Km:∀n:Fin 9,(((toString (((n:Nat):Int)):String):Str)).length=1∧cf ((toString (((n:Nat):Int)):String):Str)=true:=by decide+kernel
theorem kj {m:Int}{k:List Key}(h1:1≤m)(h2:m≤9):∃z,nj m k=.inr z∧cf z=true∧z.length≤2∧((toString (eT k%m):String):Str).length=1:=by
 have b:=rN (x:=eT k) h1 h2
 obtain⟨j,hj⟩:=MK b.1
 have s:=Km ⟨j,by omega⟩
 have s:((toString ((j:Nat):Int):String):Str).length=1∧cf ((toString ((j:Nat):Int):String):Str)=true:=s
 rw[←hj]at s
 refine⟨_,rfl,zJ (by decide+kernel) s.2,?_,s.1⟩
 show(NS "s"++NS (toString (eT k%m))).cps.size≤2;have:=s.1;unfold RX at this;show((NS "s").cps++(NS (toString (eT k%m))).cps).size≤2;rw[Array.size_append,this];decide
theorem gC {H:Hp}{f b p:Addr}{g:List Key→Option Key}{n:Nat}{k:List Key}{R:VK}(s:Stp A H f b g n)(hn:n≤45000)(hp:H p=some (.tup (k.map kV)))(ok:okT k=true)
  (q:∀(v:Key)(H':Hp)(g':List Key→Option Key),br b H H'→Stp A H' f b g' (n+1)→Sub g g'→g' k=some v→sj k v→R (kV v) H'):sI (gP K A) f [.ref p] H R E0:=by
 have s0:=s
 have hk:=(qL ok).1
 have ll:∀kvs:List (List Key×Key),(bG kvs).length=kvs.length:=fun kvs=>by simp[bG]
 have p60:(50000000:Int)<10^60:=by decide+kernel
 cases s with
 |cnt c x kvs hc num hl hs hg=>
  refine⟨_,m0,_,_,hc,rfl,x,b,p,bG kvs,k,rfl,num.hide hc.cells,by rw[ll];omega,hc.cells.hide hp (fun _ z=>nomatch z),ok,fun H' S=>?_⟩
  obtain⟨dx,hx⟩:=num.ob
  obtain⟨kvs',v,H2,ev,eH,hb',keep,hl',hs',gv,sv,sub⟩:=pI k (.inl ((bG kvs).length:Int)) hs (show 0≤_∧_<_ from⟨by omega,by rw[ll];omega⟩) num.di hc.cells H' S
  rw[show V.int ((bG kvs).length:Int)=kV (.inl ((bG kvs).length:Int))from rfl,ev,eH]
  refine q v H2 (ci kvs') (fun x o n e=>keep x o n e)
   (.cnt c x kvs' (hc.keep fun x φ e=>keep x _ (bA e num.di (fun z=>nomatch z)) e) ⟨⟨dx,keep _ _ (bA hx num.di (fun z=>nomatch z)) hx⟩,hb'⟩ (by omega) hs' rfl) ?_ gv (gO hk sv)
  rw[hg];exact sub
 |sur c kvs hc hb hl hs hg=>
  have bd:0≤3*((bG kvs).length:Int)+5∧3*((bG kvs).length:Int)+5<10^60:=by rw[ll];omega
  obtain⟨kvs',v,H2,ev,eH,hb',keep,hl',hs',gv,sv,sub⟩:=pI k (.inl (3*((bG kvs).length:Int)+5)) hs bd hb hc.cells _ (.refl _)
  refine⟨_,mS m0,_,_,hc,rfl,p,b,k,bG kvs,rfl,hc.cells.hide hp (fun _ z=>nomatch z),hc.cells.hide hb (fun _ z=>nomatch z),by rw[ll];omega,?_⟩
  dsimp only
  rw[show V.int (3*((bG kvs).length:Int)+5)=kV (.inl (3*((bG kvs).length:Int)+5))from rfl,ev,eH]
  refine q v H2 (ci kvs') (fun x o n e=>keep x o n e)
   (.sur c kvs' (hc.keep fun x φ e=>keep x _ (bA e hb (fun z=>nomatch z)) e) hb' (by omega) hs' rfl) ?_ gv (gO hk sv)
  rw[hg];exact sub
 |wi c m kvs h1 h2 hc hb hg=>
  refine⟨_,mS (mS m0),_,_,hc,rfl,p,m,k,rfl,h1,h2,hc.cells.hide hp (fun _ z=>nomatch z),ok,?_⟩
  have S:=ax.hide [c] (.refl (cQ [c] H))
  have b9:=rN (x:=eT k) h1 h2
  exact q (.inl (eT k%m)) _ g (br.same S) (s0.same (OA _) S) Sub.rfl' (by rw[hg]) (show 0≤_∧_<_ from⟨b9.1,by omega⟩)
 |wt c m kvs h1 h2 hc hb hg=>
  refine⟨_,mS (mS (mS m0)),_,_,hc,rfl,p,m,k,rfl,h1,h2,hc.cells.hide hp (fun _ z=>nomatch z),ok,?_⟩
  have S:=ax.hide [c] (.refl (cQ [c] H))
  obtain⟨z,ez,za,zl,_⟩:=kj (k:=k) h1 h2
  exact q (nj m k) _ g (br.same S) (s0.same (OA _) S) Sub.rfl' (by rw[hg]) (gO hk (by rw[ez];exact⟨za,by omega⟩))
theorem Dh (K:cW)(A:Adr):Ln (kW K A) 1:=by rintro vs H Q E ⟨p,k,rfl,_⟩;rfl
theorem Jb (T:Txt K mg A):Rd (kW K A) (KB K A) ["_law_term","_law_total","_law_part","_law_sign"]:=by
 intro vs H Q E h
 obtain⟨p,k,rfl,hp,ok,q⟩:=h
 refine⟨p,rfl,.inr ⟨⟨_,SqT.of hp⟩,?_⟩⟩
 refine zP (xs:=k.map kV) (fun i σ H'=>H'=H∧∃x2 x3,σ=[some (.ref p),some (.int ((k.take i).foldl og 0)),x2,x3]) ⟨rfl,none,none,rfl⟩ ?_ ?_ ?_
 ·rintro i σ _ _ ⟨rfl,_⟩;exact SqT.of hp
 ·rintro i x σ _ hx ⟨rfl,x2,x3,rfl⟩
  obtain⟨kk,hk,rfl⟩:=jx hx
  have okk:okP kk=true:=qH ok (Ma hk)
  have st:=lE og 0 k i kk hk
  cases kk with
  |inl n=>
   refine⟨by decide,"int",rfl,Sel.no rfl ⟨OC (by decide),by decide,rfl,some (.int n),x3,?_⟩⟩
   rw[st];rfl
  |inr z=>
   obtain⟨hz,hl⟩:=LO.mp okk
   have hl:=of_decide_eq_true hl
   refine⟨by decide,"str",rfl,Sel.yes rfl ⟨OC (by decide),.inl ⟨bq (by omega),Rl (by decide),6,rfl,.inr ⟨z,rfl,bq (by omega),tX hz _ _,?_⟩⟩⟩⟩
   generalize ew:Of z none (some 6)=w
   refine DM (eK.str w) (fun j σ H'=>H'=_∧∃x3,σ=[some (.ref p),some (.int ((w.cps.toList.take j).foldl nI ((k.take i).foldl og 0*7+3*(z.length:Int)))),some (.str z),x3]) ⟨rfl,x3,rfl⟩ (fun _ _ _ _ _=>trivial) ?_ ?_
   ·rintro j σ _ hj ⟨rfl,y3,rfl⟩
    refine⟨OC (by decide),rfl,rfl,some (.str ⟨#[w.cps.getD j 0]⟩),?_⟩
    have hj':j<w.cps.size:=hj
    rw[lE nI _ w.cps.toList j (w.cps.getD j 0) (by simp[hj',NE])];rfl
   ·rintro σ _ ⟨rfl,y3,rfl⟩
    refine⟨by decide,rfl,some (.str z),y3,?_⟩
    have e:w.cps.toList.take w.length=w.cps.toList:=QU (by simp[RX])
    rw[st,e]
    show _=[_,some (V.int ((List.foldl nI _ (Of z none (some 6)).cps.toList)%1000000007)),_,_]
    rw[ew];rfl
 ·rintro σ _ ⟨rfl,x2,x3,rfl⟩
  show Q (.int _) _
  have e:k.take (k.map kV).length=k:=QU (by simp)
  rw[e];exact q
theorem Ic (T:Txt K mg A)(a0 b0:V)(H:Hp)(Q:VK)(E:XK)(h:rX K A [a0,b0] H Q E):Ca K A (eQ ["_law_term","_law_book"] [a0] [b0]) H Q:=by
 obtain⟨p,b,k,kvs,e,hp,hb,hl,q⟩:=h
 cases e
 exact⟨.inr (.inr (.inl ⟨rfl,.inr ⟨_,hb⟩⟩)),.inr ⟨b,kvs,rfl,hb,Rl (by decide),b,.ref p,_,_,_,rfl,rfl,Ee hb hp hl,q⟩⟩
theorem GZ (T:Txt K mg A)(a0 b0:V)(H:Hp)(Q:VK)(E:XK)(h:sr K A [a0,b0] H Q E):DD K A (eQ ["_law_one","_law_many"] [a0] [b0]) H Q:=by
 obtain⟨p,m,k,e,h1,h2,hp,ok,q⟩:=h
 cases e
 exact⟨p,k,rfl,hp,ok,by omega,q⟩
theorem Jo (T:Txt K mg A)(a0 b0:V)(H:Hp)(Q:VK)(E:XK)(h:sU K A [a0,b0] H Q E):AT K A (eQ ["_law_other","_law_many"] [a0] [b0]) H Q:=by
 obtain⟨p,m,k,e,h1,h2,hp,ok,q⟩:=h
 cases e
 have b:=rN (x:=eT k) h1 h2
 obtain⟨_,_,_,_,s1⟩:=kj (k:=k) h1 h2
 exact⟨p,k,rfl,hp,ok,by omega,tE b.1 (by omega),Mh (Nat.add_le_add (ah 1) (Oj s1)) (bq (by decide)),q⟩
theorem cr.kt {P:Addr}{H H':Hp}{ps:Array pv}(hP:H P=some (.tbl ps))(k:cr P H H'):ng A H H':=fun z o e n=>k z o e fun q=>by
 subst q;rw[hP]at e;cases e;exact n _ rfl
theorem eE.keep {H H':Hp}(h:eE A H)(k:∀z o,H z=some o→((∃ps,o=.tbl ps)∨∃φ,o=.ext φ)→H' z=some o):eE A H':=by
 obtain⟨ps,h1,h2⟩:=h
 exact⟨ps,k _ _ h1 (.inl ⟨_,rfl⟩),h2.imp id fun⟨c,z1,z2⟩=>⟨c,z1,k _ _ z2 (.inr ⟨_,rfl⟩)⟩⟩
theorem CW (K:cW)(A:Adr):Ln (nU K A) 1:=by rintro vs H Q E ⟨c,rfl,_⟩;rfl
theorem Jf (T:Txt K mg A)(q0 q1:Addr)(hnd:([q0,q1]:List Addr).Nodup)(vs:List V)(H:Hp)(Q:VK)(E:XK)(h:nU K A vs H Q E):Bi K A q0 q1 {nx:=fun σ H'=>(∀p∈([(1,q0),(2,q1)]:List (Nat×Addr)),H' p.2=none)→Q .non (dG [(1,q0),(2,q1)] σ H'),rt:=fun σ v H'=>(∀p∈([(1,q0),(2,q1)]:List (Nat×Addr)),H' p.2=none)→Q v (dG [(1,q0),(2,q1)] σ H')} (L2.start ["_law_cell","_law_book","_law_many"] vs) H:=by
 obtain⟨c,rfl,⟨t0,t1,tn⟩,q⟩:=h
 have n01:q0≠q1:=fun e=>by simp[e]at hnd
 refine .inr fun b hb=>⟨⟨by decide,by decide⟩,by decide,?_⟩
 have m1:1≤1+c/4%9:=by omega
 have m2:1+c/4%9≤9:=by omega
 have bP:b≠A.t_55:=dk t1 hb
 have bC:b≠A.t_65:=dk t0 hb
 have S1:=ax.upd (o:=.dT []) hb
 have hP:=S1 _ _ t1
 have hb1:upd H b (.dT []) b=some (.dT []):=aj
 generalize upd H b (.dT [])=H1 at S1 hP hb1
 have K1:ng A H H1:=fun z o e _=>S1 z o e
 have fin:∀(H4:Hp),(∀p∈([(1,q0),(2,q1)]:List (Nat×Addr)),H4 p.2=none)→ax H4 (upd (upd H4 q0 (cy q0 (.ref b))) q1 (cy q1 (.int (1+c/4%9))))∧upd (upd H4 q0 (cy q0 (.ref b))) q1 (cy q1 (.int (1+c/4%9))) q0=some (cy q0 (.ref b))∧upd (upd H4 q0 (cy q0 (.ref b))) q1 (cy q1 (.int (1+c/4%9))) q1=some (cy q1 (.int (1+c/4%9))):=fun H4 hq=>by
  have a0:H4 q0=none:=hq (1,q0) (by simp)
  have a1:H4 q1=none:=hq (2,q1) (by simp)
  refine⟨(ax.upd a0).trans (ax.upd (by rw[ao (Lt n01)];exact a1)),by rw[ao n01,aj],aj⟩
 have made:∀(t:da)(cs:List Addr)(o2:HO)(cc f:Addr),H1 cc=none→H1 f=none→cc≠f→ng A H (upd (upd (upd H1 A.t_55 o2) cc (dF cc t.qual)) f (dH f t cs cc))∧upd (upd (upd H1 A.t_55 o2) cc (dF cc t.qual)) f (dH f t cs cc) b=some (.dT [])∧upd (upd (upd H1 A.t_55 o2) cc (dF cc t.qual)) f (dH f t cs cc) f=some (dH f t cs cc)∧upd (upd (upd H1 A.t_55 o2) cc (dF cc t.qual)) f (dH f t cs cc) cc=some (dF cc t.qual):=fun t cs o2 cc f hc hf hne=>by
  have cP:=dk hP hc
  have fP:=dk hP hf
  have kk:∀z o,H1 z=some o→z≠A.t_55→upd (upd (upd H1 A.t_55 o2) cc (dF cc t.qual)) f (dH f t cs cc) z=some o:=fun z o e n=>by
   rw[ao (ag e hf),ao (ag e hc),ao n];exact e
  refine⟨fun z o e n=>kk z o (K1 z o e n) fun q=>by subst q;rw[t1]at e;cases e;exact n _ rfl,kk _ _ hb1 bP,aj,by rw[ao hne,aj]⟩
 have kc:∀{t:da}{cs:List Addr}{o2:HO}(cc f:Addr),H1 cc=none→H1 f=none→upd (upd (upd H1 A.t_55 o2) cc (dF cc t.qual)) f (dH f t cs cc) A.t_65=some (.tbl #[]):=fun cc f hc hf=>by
  have e:=S1 _ _ t0
  rw[ao (ag e hf),ao (ag e hc),ao (fun z=>by simp[z]at tn)];exact e
 refine⟨by decide,Sel.dec (fun h=>?_) (fun h=>?_)⟩
 ·refine⟨rfl,⟨#[],S1 _ _ t0,.inl rfl⟩,fun f b' g H2 k2 tb2 hb2 s2 hq=>?_⟩
  obtain⟨S,_,_⟩:=fin H2 hq
  exact q f b' g _ (fun z o e n=>S _ _ (cr.kt (A:=A) (S1 _ _ t0) k2 z o (K1 z o e n) n)) (tb2.keep fun z o e _=>S z o e) (s2.same (ah _) S)
 refine⟨by decide,Sel.dec (fun h=>?_) (fun h=>?_)⟩
 ·refine⟨#[],hP,trivial,.inl ⟨rfl,fun cc f hc hf hne hq=>?_⟩⟩
  obtain⟨k,e1,e2,e3⟩:=made fg [q0] _ cc f hc hf hne
  obtain⟨S,c0,c1⟩:=fin _ hq
  exact q f b (ci []) _ (fun z o e n=>S _ _ (k z o e n)) ⟨#[],S _ _ (kc _ _ hc hf),.inl rfl⟩ (.sur q0 [] ⟨⟨cc,S _ _ e2,S _ _ e3⟩,.cons c0 .nil⟩ (S _ _ e1) (Md _) qb rfl)
 refine⟨by decide,Sel.dec (fun h=>?_) (fun h=>?_)⟩
 ·refine⟨#[],hP,trivial,.inl ⟨rfl,fun cc f hc hf hne hq=>?_⟩⟩
  obtain⟨k,e1,e2,e3⟩:=made fi [q1] _ cc f hc hf hne
  obtain⟨S,c0,c1⟩:=fin _ hq
  exact q f b _ _ (fun z o e n=>S _ _ (k z o e n)) ⟨#[],S _ _ (kc _ _ hc hf),.inl rfl⟩ (.wi q1 _ [] m1 m2 ⟨⟨cc,S _ _ e2,S _ _ e3⟩,.cons c1 .nil⟩ (S _ _ e1) rfl)
 ·refine⟨#[],hP,trivial,.inl ⟨rfl,fun cc f hc hf hne hq=>?_⟩⟩
  obtain⟨k,e1,e2,e3⟩:=made fh [q1] _ cc f hc hf hne
  obtain⟨S,c0,c1⟩:=fin _ hq
  exact q f b _ _ (fun z o e n=>S _ _ (k z o e n)) ⟨#[],S _ _ (kc _ _ hc hf),.inl rfl⟩ (.wt q1 _ [] m1 m2 ⟨⟨cc,S _ _ e2,S _ _ e3⟩,.cons c1 .nil⟩ (S _ _ e1) rfl)
theorem DZ (K:cW)(A:Adr):Ln (jb K A) 3:=by rintro vs H Q E ⟨b,k,d,rfl,_⟩;rfl
theorem ID (T:Txt K mg A):Rd (jb K A) (Kt K A) ["bits","key","depth"]:=by
 intro vs H Q E h
 obtain⟨b,k,d,rfl,hd,q⟩:=h
 exact⟨by omega,q⟩
theorem CU (K:cW)(A:Adr):Ln (oP K A) 2:=by rintro vs H Q E ⟨b,v,d,rfl,_⟩;rfl
theorem Hk (T:Txt K mg A):Rd (oP K A) (Lv K A) ["bits","thing"]:=by
 intro vs H Q E h
 obtain⟨b,v,d,rfl,h0,h1,w,q⟩:=h
 refine⟨v,d,rfl,w,?_⟩
 cases w with
 |int i=>
  refine Sel.yes rfl (Sel.dec (fun h2=>⟨⟨h0,by omega,by decide⟩,?_⟩) (fun h2=>?_))
  ·show Q (.bl (decide (i<1*2^b.toNat))) H
   have e:dN b (.int i)=decide (i<1*2^b.toNat):=by
    show decide (0≤i∧i<2^b.toNat)=_
    rw[Pz]
    by_cases h1:i<2^b.toNat
    ·rw[decide_eq_true h1,decide_eq_true ⟨h2,h1⟩]
    ·rw[decide_eq_false h1,decide_eq_false fun z=>h1 z.2]
   rw[←e];exact q
  ·have e:dN b (.int i)=false:=decide_eq_false fun z=>h2 z.1
   rw[←e];exact q
 |_=>exact Sel.no rfl q
theorem Dj (K:cW)(A:Adr):Ln (nS K A) 1:=by rintro vs H Q E ⟨v,d,rfl,_⟩;rfl
theorem IT (T:Txt K mg A):Rd (nS K A) (Kb K A) ["thing"]:=by
 intro vs H Q E h
 obtain⟨v,d,rfl,w,ok,q⟩:=h
 refine⟨by decide,_,w.ty,?_⟩
 cases w with
 |str z=>
  have hl:=of_decide_eq_true (LO.mp ok).2
  refine Sel.yes rfl (.inl ⟨bq (by omega),?_⟩)
  have e:dQ (.str z)=decide ((z.length:Int)≤60):=by
   show decide (z.length≤60)=_
   by_cases h1:z.length≤60
   ·rw[decide_eq_true h1,decide_eq_true (by omega)]
   ·rw[decide_eq_false h1,decide_eq_false (by omega)]
  show Q (.bl (decide ((z.length:Int)≤60))) H
  rw[←e];exact q
 |_=>exact Sel.no rfl q
theorem Cq (K:cW)(A:Adr):Ln (iz K A) 3:=by rintro vs H Q E ⟨b,k,d,rfl,_⟩;rfl
theorem GM (T:Txt K mg A):Rd (iz K A) (JC K A) ["bits","key","depth"]:=by
 intro vs H Q E h
 obtain⟨b,k,d,rfl,hd,k0,q⟩:=h
 refine⟨by omega,?_⟩
 show Q (.int (MZ (k/2^(b- d- 1).toNat) 1)) H
 have h0:0≤k/2^(b- d- 1).toNat:=Int.ediv_nonneg k0 (Int.le_of_lt (wI _))
 obtain⟨y,hy⟩:=MK h0
 rw[hy]at q⊢
 rw[rE]
 have:((y%2:Nat):Int)=(y:Int)%2:=by omega
 rw[this];exact q
theorem qr {b x y c:Nat}(hx:x<2^b)(hy:y<2^b)(h:lL b x y c):(b:Int)- (Mw (((x^^^y:Nat)):Int):Int)=(c:Int):=by
 obtain⟨hc,he,hd⟩:=h
 have lt:x^^^y<2^(b- c):=by
  have h1:(x^^^y)/2^(b- c)=0:=by
   rw[←MO,Qs,MO,MO,he,Nat.xor_self]
  rcases(Nat.div_eq_zero_iff.mp h1)with h|h
  ·have:=NJ (b- c);omega
  ·exact h
 unfold Mw
 by_cases h0:x^^^y=0
 ·rw[h0]
  have hxy:x=y:=xor_zero h0
  rcases hd with rfl|hd
  ·simp
  ·exact(hd (by rw[hxy])).elim
 ·rw[if_neg (by simpa using h0)]
  rcases hd with rfl|hd
  ·simp at lt;omega
  ·by_cases hcb:c=b
   ·subst hcb;simp at lt;omega
   have ge:2^(b- (c+1))≤x^^^y:=by
    apply MB
    intro hn
    apply hd
    have h1:(x^^^y)/2^(b- (c+1))=0:=Oo (by omega)
    rw[←MO,Qs,MO,MO]at h1
    exact xor_zero h1
   have hl:(x^^^y).log2=b- (c+1):=by
    rw[Nat.log2_eq_iff h0]
    exact⟨ge,by rw[show b- (c+1)+1=b- c by omega];exact lt⟩
   rw[Int.natAbs_natCast,hl]
   omega
theorem CK (K:cW)(A:Adr):Ln (lx K A) 3:=by rintro vs H Q E ⟨b,_,_,_,rfl,_⟩;rfl
theorem Hl (T:Txt K mg A):Rd (lx K A) (KU K A) ["bits","one","other"]:=by
 intro vs H Q E h
 obtain⟨b,x,y,c,rfl,hx,hy,hc,q⟩:=h
 refine⟨rfl,?_⟩
 show Q (.int ((b:Int)- (Mw (NZ x y):Int))) H
 rw[lw,qr hx hy hc]
 exact q
theorem Do (K:cW)(A:Adr):Ln (oF K A) 1:=by rintro vs H Q E ⟨v,d,rfl,_⟩;rfl
theorem EZ (T:Txt K mg A):Rd (oF K A) (LF K A) ["thing"]:=by
 intro vs H Q E h
 obtain⟨v,d,rfl,w,q⟩:=h
 refine⟨v,d,rfl,w,?_⟩
 cases w with
 |int i=>
  refine Sel.yes rfl (Sel.dec (fun h1=>?_) (fun h1=>?_))
  ·have e:dX (.int i)=decide (i≤60):=by
    show decide (1≤i∧i≤60)=_
    by_cases h2:i≤60
    ·rw[decide_eq_true h2,decide_eq_true ⟨h1,h2⟩]
    ·rw[decide_eq_false h2,decide_eq_false fun z=>h2 z.2]
   show Q (.bl (decide (i≤60))) H
   rw[←e];exact q
  ·have e:dX (.int i)=false:=decide_eq_false fun z=>h1 z.1
   rw[←e];exact q
 |_=>exact Sel.no rfl q
theorem ph (B k d:Nat):lp (B:Int) (k:Int) (d:Int)=((st B k d:Nat):Int):=by
 unfold lp st
 rw[show((B:Int)- (d:Int)).toNat=B- d by omega,←fe,←Int.natCast_ediv]
theorem kz {B k d:Nat}(h:d<B):(k:Int)/2^((B:Int)- (d:Int)- 1).toNat%2=((sd B k d:Nat):Int):=by
 unfold sd
 rw[show((B:Int)- (d:Int)- 1).toNat=B- 1- d by omega,←fe]
 omega
def knO (o:HO):Prop:=(∃xs,o=.tup xs)∨∃C dx t m fs,o=HO.ins C dx ((("term":Str),t)::(("mark":Str),m)::fs)
theorem KnA.keep {H H':Hp}{g g':gOp}{x:Addr}{t:Kn Str}{m:Key}(h:KnA A H g x t m)(k:∀z o,H z=some o→knO o→H' z=some o)(s:Sub g g'):KnA A H' g' x t m:=by
 induction h with
 |bare o ht hm ok sz=>exact .bare (k _ _ o (.inr ⟨_,_,_,_,_,rfl⟩)) (k _ _ ht (.inl ⟨_,rfl⟩)) (s _ _ hm) ok sz
 |leaf o ht hm ok sz hz=>exact .leaf (k _ _ o (.inr ⟨_,_,_,_,_,rfl⟩)) (k _ _ ht (.inl ⟨_,rfl⟩)) (s _ _ hm) ok sz hz
 |fork o hl hr ht hm ok sz ih1 ih2=>exact .fork (k _ _ o (.inr ⟨_,_,_,_,_,rfl⟩)) ih1 ih2 (k _ _ ht (.inl ⟨_,rfl⟩)) (s _ _ hm) ok sz
theorem knO.dT {kvs:List (List Key×V)}(h:knO (.dT kvs)):False:=by rcases h with⟨_,h⟩|⟨_,_,_,_,_,h⟩<;>cases h
theorem knO.tab {C dx:Addr}{v:V}{fs:List (Str×V)}(h:knO (.ins C dx ((("stamper":Str),v)::fs))):False:=by
 rcases h with⟨_,h⟩|⟨_,_,_,_,_,h⟩
 ·cases h
 ·injection h with _ _ h;injection h with h;injection h with h;exact absurd h (by decide)
theorem knO.nil {C dx:Addr}(h:knO (.ins C dx [])):False:=by rcases h with⟨_,h⟩|⟨_,_,_,_,_,h⟩<;>cases h
theorem br.kn {H H':Hp}{f b:Addr}{g:gOp}{n:Nat}(s:Stp A H f b g n)(k:br b H H'):∀z o,H z=some o→knO o→H' z=some o:=fun z o e h=>k z o (s.nb e fun kvs q=>by subst q;exact h.dT) e
theorem bM.kn {H H':Hp}{f b x:Addr}{g:gOp}{n:Nat}{u:HO}(s:Stp A H f b g n)(k:bM b x H H')(hx:H x=some u)(hu:¬knO u):∀z o,H z=some o→knO o→H' z=some o:=fun z o e h=>k z o (s.nb e fun kvs q=>by subst q;exact h.dT) (fun q=>by subst q;rw[hx]at e;cases e;exact hu h) e
theorem KnA.kb {H H':Hp}{g g':gOp}{f b x:Addr}{t:Kn Str}{m:Key}{n:Nat}(h:KnA A H g x t m)(s:Stp A H f b g n)(k:br b H H')(sub:Sub g g'):KnA A H' g' x t m:=h.keep (br.kn s k) sub
theorem KnA.same {H H':Hp}{g:gOp}{x:Addr}{t:Kn Str}{m:Key}(h:KnA A H g x t m)(S:ax H H'):KnA A H' g x t m:=h.keep (fun z o e _=>S z o e) Sub.rfl'
theorem KnA.ok {H:Hp}{g:gOp}{x:Addr}{t:Kn Str}{m:Key}(h:KnA A H g x t m):okP m=true∧szK m≤szN t:=by cases h<;>exact⟨‹_›,‹_›⟩
theorem KnA.ob {H:Hp}{g:gOp}{x:Addr}{t:Kn Str}{m:Key}(h:KnA A H g x t m):∃dx p fs,H x=some (.ins (clK A t) dx ((("term":Str),.ref p)::(("mark":Str),kV m)::fs))∧∀nm:Str,(nm="found"∨nm="rows"∨nm="with_key"∨nm="without")→((("term":Str),V.ref p)::(("mark":Str),kV m)::fs).lookup nm=none:=by
 cases h with
 |bare o _ _ _ _=>exact⟨_,_,_,o,fun nm hn=>by rcases hn with rfl|rfl|rfl|rfl<;>rfl⟩
 |leaf o _ _ _ _ _=>exact⟨_,_,_,o,fun nm hn=>by rcases hn with rfl|rfl|rfl|rfl<;>rfl⟩
 |fork o _ _ _ _ _ _=>exact⟨_,_,_,o,fun nm hn=>by rcases hn with rfl|rfl|rfl|rfl<;>rfl⟩
theorem fV (T:Txt K mg A)(t:Kn Str):Cls K (clK A t)∧ba K (clK A t) "mark"∧ba K (clK A t) "term":=by
 cases t
 ·exact⟨T.cl_Bare,T.na_Bare_mark,T.na_Bare_term⟩
 ·exact⟨T.cl_Leaf,T.na_Leaf_mark,T.na_Leaf_term⟩
 ·exact⟨T.cl_Fork,T.na_Fork_mark,T.na_Fork_term⟩
theorem vm:okP (.inr "bare")=true∧okP (.inr "leaf")=true∧okP (.inr "fork")=true:=by refine⟨?_,?_,?_⟩<;>decide+kernel
theorem CF:szK (.inr "bare")=66∧szK (.inr "leaf")=66∧szK (.inr "fork")=66:=by refine⟨?_,?_,?_⟩<;>decide+kernel
theorem okN {i:Int}(h0:0≤i)(h:i<2^60):okP (.inl i)=true:=by
 have p60:(2:Int)^60<10^60:=by decide+kernel
 exact decide_eq_true ⟨h0,by omega⟩
theorem okZ {z:Str}(h:fb z):okP (.inr z)=true:=by
 show(cf z&&decide (z.length≤100000))=true
 rw[h.1,decide_eq_true (by have:=h.2;omega)];rfl
theorem fW {w:Str}{k:List Key}(hw:okP (.inr w)=true)(hk:∀x∈k,okP x=true)(hl:k.length≤7):okT (.inr w::k)=true:=by
 unfold okT
 refine LO.mpr ⟨LO.mpr ⟨decide_eq_true ⟨by simp,by simp;omega⟩,rfl⟩,?_⟩
 rw[List.all_cons,hw]
 exact Na.mpr hk
theorem Fy:okT brT=true:=fW vm.1 (fun _ h=>nomatch h) (Md _)
theorem rS {k:Nat}(h:k<2^60):okP (.inl (k:Int))=true:=okN (by omega) (by omega)
theorem GE {k:Nat}{z:Str}(h:k<2^60)(hz:fb z):okT (lfT k z)=true:=fW vm.2.1 (fun x hx=>by
 rcases gV.mp hx with rfl|hx
 ·exact rS h
 ·rw[LZ.mp hx];exact okZ hz) (show 2≤7 by decide)
theorem Gs {d b:Nat}{l r:Key}(hd:d<60)(hb:b<2^60)(hl:okP l=true)(hr:okP r=true):okT (fkT d b l r)=true:=fW vm.2.2 (fun x hx=>by
 rcases gV.mp hx with rfl|hx
 ·exact rS (by omega)
 ·rcases gV.mp hx with rfl|hx
  ·exact rS hb
  ·rcases gV.mp hx with rfl|hx
   ·exact hl
   ·rw[LZ.mp hx];exact hr) (show 4≤7 by decide)
theorem lU {k:List Key}{v:Key}{n:Nat}(h:sj k v)(hn:szT k≤n)(h2:n+62≤100000):okP v=true∧szK v≤n+62:=by
 cases v with
 |inl i=>exact⟨decide_eq_true h,by show 62≤_;omega⟩
 |inr z=>
  have:=h.2
  refine⟨?_,by show z.length+62≤_;omega⟩
  show(cf z&&decide (z.length≤100000))=true
  rw[h.1,decide_eq_true (by omega)];rfl
theorem IG {k:Nat}{z:Str}(hz:fb z):szT (lfT k z)≤250:=by
 have:=hz.2
 show szK (.inr "leaf")+(62+(z.length+62+0))≤_
 rw[CF.2.1];omega
theorem IP {d b:Nat}{l r:Key}:szT (fkT d b l r)=190+szK l+szK r:=by
 show szK (.inr "fork")+(62+(62+(szK l+(szK r+0))))=_
 rw[CF.2.2];omega
theorem Ab {i:Nat}{σ:L2.St}{H:Hp}{Q:List V→Hp→Prop}{v:V}(h:σ[i]?=some (some v))(q:Q [v] H):af (ae i) am σ H Q:=by
 show(match σ[i]? with|some (some v)=>am σ H fun xs H2=>Q (v::xs) H2|_=>False)
 rw[h];exact q
theorem EE (K:cW)(A:Adr):Ln (jr K A) 3:=by rintro vs H Q E ⟨x,dx,C,f,b,p,g,n,k,rfl,_⟩;rfl
theorem IL (T:Txt K mg A):Rd (jr K A) (JS K A) ["self","stamper","term"]:=by
 intro vs H Q E h
 obtain⟨x,dx,C,f,b,p,g,n,k,rfl,hx,cl,n1,n2,s,hn,hp,ok,q⟩:=h
 refine⟨x,C,dx,[],rfl,hx,cl,n1,by decide,?_⟩
 have s1:Stp A (upd H x (.ins C dx (aK "term" (.ref p) []))) f b g n:=s.put (ah _) hx fun v z=>nomatch z
 have px:p≠x:=bA hp hx (fun z=>nomatch z)
 refine⟨f,rfl,s1.clo,Ab (v:=.ref p) rfl ?_⟩
 refine gC s1 hn (by rw[ao px];exact hp) ok fun v H2 g2 kb s2 sub gv st=>?_
 have hx1:upd H x (.ins C dx (aK "term" (.ref p) [])) x=some (.ins C dx [(("term":Str),.ref p)]):=aj
 have hx2:=kb _ _ (s1.nb hx1 fun _ z=>nomatch z) hx1
 refine⟨x,C,dx,[(("term":Str),.ref p)],rfl,hx2,cl,n2,by show 1<1000;decide,q v g2 _ (fun z o zb zx e=>?_) aj (s2.put (ah _) hx2 fun v z=>?_) sub gv st⟩
 ·rw[ao zx];exact kb _ _ zb (by rw[ao zx];exact e)
 ·injection z with z;injection z with z;exact absurd z (by decide)
theorem Gr (K:cW)(A:Adr):Ln (mD K A) 2:=by rintro vs H Q E ⟨x,dx,f,b,g,n,rfl,_⟩;rfl
theorem KJ (T:Txt K mg A):Rd (mD K A) (T_0 K A) ["self","stamper"]:=by
 intro vs H Q E h
 obtain⟨x,dx,f,b,g,n,rfl,hx,s,hn,q⟩:=h
 refine⟨by show 1≤sizeLine;decide,fun p hp=>?_⟩
 have S:=ax.upd (o:=.tup [.str "bare"]) hp
 refine⟨x,dx,A.c_Bare,f,b,p,g,n,brT,rfl,S _ _ hx,T.cl_Bare,T.na_Bare_term,T.na_Bare_mark,s.same (ah _) S,hn,aj,Fy,fun m g' H' k o s' sub gm st=>?_⟩
 obtain⟨ok,sz⟩:=lU (n:=130) st (by decide+kernel) (by decide)
 have px:p≠x:=Lt (ag hx hp)
 have s1:=s.same (ah n) S
 exact q m g' H' (fun z u zb zx e=>k z u zb zx (S _ _ e)) (.bare o (k _ _ (s1.nb (o:=.tup (brT.map kV)) aj fun _ z=>nomatch z) px aj) gm ok (by omega)) s' sub
theorem CH (K:cW)(A:Adr):Ln (ia K A) 4:=by rintro vs H Q E ⟨x,dx,f,b,g,n,k,z,rfl,_⟩;rfl
theorem II (T:Txt K mg A):Rd (ia K A) (JP K A) ["self","stamper","key","value"]:=by
 intro vs H Q E h
 obtain⟨x,dx,f,b,g,n,kk,z,rfl,hx,s,hn,k60,hz,q⟩:=h
 refine⟨by show 3≤sizeLine;decide,fun p hp=>?_⟩
 have S:=ax.upd (o:=.tup [.str "leaf",.int (kk:Int),.str z]) hp
 refine⟨x,dx,A.c_Leaf,f,b,p,g,n,lfT kk z,rfl,S _ _ hx,T.cl_Leaf,T.na_Leaf_term,T.na_Leaf_mark,s.same (ah _) S,hn,aj,GE k60 hz,fun m g' H' k o s' sub gm st=>?_⟩
 obtain⟨ok,sz⟩:=lU (n:=250) st (IG hz) (by decide)
 have px:p≠x:=Lt (ag hx hp)
 have s1:=s.same (ah n) S
 have hp':=k _ _ (s1.nb (o:=.tup ((lfT kk z).map kV)) aj fun _ z=>nomatch z) px aj
 refine⟨x,A.c_Leaf,dx,_,rfl,o,T.cl_Leaf,T.na_Leaf_key,by show 2<1000;decide,?_⟩
 refine⟨x,A.c_Leaf,dx,_,rfl,aj,T.cl_Leaf,T.na_Leaf_text,by show 3<1000;decide,?_⟩
 rw[eV]
 have e:aK "text" (.str z) (aK "key" (.int (kk:Int)) [("term",.ref p),("mark",kV m)])=([("term",.ref p),("mark",kV m),("key",.int (kk:Int)),("text",.str z)]:List (Str×V)):=rfl
 rw[e]
 refine q m g' _ (fun y u yb yx e=>by rw[ao yx];exact k y u yb yx (S _ _ e)) (.leaf aj (by rw[ao px];exact hp') gm ok (by omega) hz) (s'.put (ah _) o fun v z=>?_) sub
 injection z with z;injection z with z;exact absurd z (by decide)
theorem EY (K:cW)(A:Adr):Ln (iP K A) 6:=by rintro vs H Q E ⟨x,dx,f,b,l,r,g,n,d,e,tl,tr,ml,mr,rfl,_⟩;rfl
theorem JY (T:Txt K mg A):Rd (iP K A) (T_4 K A) ["self","stamper","depth","begin","left","right"]:=by
 intro vs H Q E h
 obtain⟨x,dx,f,b,l,r,g,n,d,e,tl,tr,ml,mr,rfl,hx,s,hn,d60,e60,kl,kr,szs,q⟩:=h
 obtain⟨dl,pl,fl,ol,_⟩:=kl.ob
 obtain⟨dr,pr,fr,or',_⟩:=kr.ob
 refine⟨l,_,dl,_,_,rfl,ol,(fV T tl).1,(fV T tl).2.1,rfl,r,_,dr,_,_,rfl,or',(fV T tr).1,(fV T tr).2.1,rfl,by show 5≤sizeLine;decide,fun p hp=>?_⟩
 have S:=ax.upd (o:=.tup [.str "fork",.int (d:Int),.int (e:Int),kV ml,kV mr]) hp
 refine⟨x,dx,A.c_Fork,f,b,p,g,n,fkT d e ml mr,rfl,S _ _ hx,T.cl_Fork,T.na_Fork_term,T.na_Fork_mark,s.same (ah _) S,hn,aj,Gs d60 e60 kl.ok.1 kr.ok.1,fun m g' H' k o s' sub gm st=>?_⟩
 have zl:=kl.ok.2
 have zr:=kr.ok.2
 obtain⟨ok,sz⟩:=lU (n:=190+szK ml+szK mr) st (Oj IP) (by omega)
 have px:p≠x:=Lt (ag hx hp)
 have s1:=s.same (ah n) S
 have hp':=k _ _ (s1.nb (o:=.tup ((fkT d e ml mr).map kV)) aj fun _ z=>nomatch z) px aj
 have kn:=bM.kn s1 k (S _ _ hx) knO.nil
 refine⟨x,A.c_Fork,dx,_,rfl,o,T.cl_Fork,T.na_Fork_depth,by show 2<1000;decide,?_⟩
 refine⟨x,A.c_Fork,dx,_,rfl,aj,T.cl_Fork,T.na_Fork_begin,by show 3<1000;decide,?_⟩
 refine⟨x,A.c_Fork,dx,_,rfl,aj,T.cl_Fork,T.na_Fork_left,by show 4<1000;decide,?_⟩
 refine⟨x,A.c_Fork,dx,_,rfl,aj,T.cl_Fork,T.na_Fork_right,by show 5<1000;decide,?_⟩
 rw[eV,eV,eV]
 have ef:aK "right" (.ref r) (aK "left" (.ref l) (aK "begin" (.int (e:Int)) (aK "depth" (.int (d:Int)) [("term",.ref p),("mark",kV m)])))=([("term",.ref p),("mark",kV m),("depth",.int (d:Int)),("begin",.int (e:Int)),("left",.ref l),("right",.ref r)]:List (Str×V)):=rfl
 rw[ef]
 have up:∀z u,H z=some u→knO u→upd H' x (.ins A.c_Fork dx [("term",.ref p),("mark",kV m),("depth",.int (d:Int)),("begin",.int (e:Int)),("left",.ref l),("right",.ref r)]) z=some u:=fun z u ez hu=>by
  rw[ao (fun q=>by subst q;rw[hx]at ez;cases ez;exact knO.nil hu)]
  exact kn z u (S _ _ ez) hu
 refine q m g' _ (fun y u yb yx e=>by rw[ao yx];exact k y u yb yx (S _ _ e)) (.fork aj (kl.keep up sub) (kr.keep up sub) (by rw[ao px];exact hp') gm ok (by show _≤300+szN tl+szN tr;omega)) (s'.put (ah _) o fun v z=>?_) sub
 injection z with z;injection z with z;exact absurd z (by decide)
theorem pK {B d key:Nat}{z:Str}{t:Kn Str}:szN (eA B d key z t)=700+szN t:=by
 unfold eA;split
 ·show 300+400+szN t=_;omega
 ·show 300+szN t+400=_;omega
theorem gT {B key:Nat}{z:Str}:∀t:Kn Str,szN (cC B key z t)≤szN t+700
 |.bare=>by show 400≤200+700;omega
 |.leaf k t=>by
  unfold cC;split
  ·show 400≤400+700;omega
  ·rw[pK];omega
 |.fork d b l r=>by
  have h1:=gT (B:=B) (key:=key) (z:=z) l
  have h2:=gT (B:=B) (key:=key) (z:=z) r
  unfold cC;split
  ·split<;>(show 300+_+_≤300+_+_+700;omega)
  ·rw[pK];omega
theorem fm {B key:Nat}:∀t:Kn Str,szN (aQ B key t)≤szN t
 |.bare=>ah _
 |.leaf k t=>by
  unfold aQ;split
  ·show 200≤400;omega
  ·exact ah _
 |.fork d b l r=>by
  have h1:=fm (B:=B) (key:=key) l
  have h2:=fm (B:=B) (key:=key) r
  have e:szN (.fork d b l r)=300+szN l+szN r:=rfl
  unfold aQ;split
  ·cases q:aQ B key l with
   |bare=>show szN r≤_;omega
   |leaf _ _=>rw[q]at h1;show 300+_+_≤_;omega
   |fork _ _ _ _=>rw[q]at h1;show 300+_+_≤_;omega
  ·cases q:aQ B key r with
   |bare=>show szN l≤_;omega
   |leaf _ _=>rw[q]at h2;show 300+_+_≤_;omega
   |fork _ _ _ _=>rw[q]at h2;show 300+_+_≤_;omega
theorem WF.dp {B:Nat}:∀{t:Kn Str}{d0 b0:Nat},b0<2^d0→WF B d0 b0 t→jP B t∧hgt t≤B- d0
 |.bare,_,_,_,_=>⟨trivial,Md _⟩
 |.leaf _ _,_,_,_,_=>⟨trivial,Md _⟩
 |.fork d b l r,d0,b0,hb,h=>by
  obtain⟨h1,h2,h3,h4,h5⟩:=h
  have hbd:b<2^d:=by
   have e:2^d=2^d0*2^(d- d0):=by rw[←Pe];congr 1;omega
   rw[e]
   exact(Pp (NJ _)).mp (by rw[h3];exact hb)
  have e2:2^(d+1)=2*2^d:=by rw[Nat.pow_succ];omega
  obtain⟨a1,a2⟩:=WF.dp (t:=l) (by omega) h4
  obtain⟨b1,b2⟩:=WF.dp (t:=r) (by omega) h5
  exact⟨⟨h2,hbd,a1,b1⟩,by show max (hgt l) (hgt r)+1≤_;omega⟩
theorem WF.szN {B:Nat}:∀{t:Kn Str}{d0 b0:Nat},WF B d0 b0 t→szN t+300≤700*(bg t).length
 |.bare,_,_,h=>h.elim
 |.leaf _ _,_,_,_=>by show 400+300≤700*1;omega
 |.fork d b l r,_,_,h=>by
  have a:=WF.szN h.2.2.2.1
  have b':=WF.szN h.2.2.2.2
  have e:(bg (.fork d b l r)).length=(bg l).length+(bg r).length:=Mi
  show 300+Rs.szN l+Rs.szN r+300≤_
  rw[e];omega
theorem WFo.dp {B:Nat}{t:Kn Str}(h:WFo B t):jP B t∧hgt t≤B:=by
 rcases h with rfl|h
 ·exact⟨trivial,Md _⟩
 ·exact h.dp (by decide)
theorem WFo.szN {B:Nat}{t:Kn Str}(h:WFo B t):szN t≤700*(bg t).length+200:=by
 rcases h with rfl|h
 ·exact ah _
 ·have:=h.szN;omega
theorem WFo.lt {B:Nat}{t:Kn Str}(h:WFo B t):∀p∈bg t,p.1<2^B:=by
 rcases h with rfl|h
 ·exact fun _ z=>nomatch z
 ·exact fun p hp=>(h.mem (Md _) p hp).1
theorem WFo.with {B key:Nat}{z:Str}{t:Kn Str}(h:WFo B t)(hk:key<2^B):WFo B (cC B key z t)∧∀k,aD B k (cC B key z t)=if k=key then some z else aD B k t:=by
 rcases h with rfl|h
 ·exact⟨.inr ⟨hk,Oo (by simpa using hk)⟩,fun k=>rfl⟩
 ·have e:st B key 0=0:=Oo (by simpa using hk)
  obtain⟨a,b⟩:=jK (x:=z) hk (Md _) h e
  exact⟨.inr a,b⟩
theorem WFo.without {B key:Nat}{t:Kn Str}(h:WFo B t):WFo B (aQ B key t)∧∀k,aD B k (aQ B key t)=if k=key then none else aD B k t:=by
 rcases h with rfl|h
 ·exact⟨.inl rfl,fun k=>by show none=_;split<;>rfl⟩
 ·exact gA (Md _) h
theorem WFo.up {B:Nat}{t:Kn Str}(h:WFo B t):gF (bg t)∧∀k,aD B k t=look k (bg t):=by
 rcases h with rfl|h
 ·exact⟨.nil,fun _=>rfl⟩
 ·exact⟨h.up,fun k=>cD h⟩
theorem iN {B key d b:Nat}{l r:Kn Str}:aQ B key (.fork d b l r)=if sd B key d=0 then(if kdK (aQ B key l)=0 then r else .fork d b (aQ B key l) r)else(if kdK (aQ B key r)=0 then l else .fork d b l (aQ B key r)):=by
 rw[aQ]
 split
 ·cases aQ B key l<;>rfl
 ·cases aQ B key r<;>rfl
theorem KnQ.le {H:Hp}{f b:Addr}{g:gOp}{n c c':Nat}{t:Kn Str}{Q:VK}(h:KnQ A H f b g n c' t Q)(hc:c≤c'):KnQ A H f b g n c t Q:=fun y m g' H' kb k s sub=>h y m g' H' kb k (s.same (by omega) ax.rfl') sub
theorem bU {H:Hp}{x dx:Addr}{o u:HO}(hx:H x=none)(hdx:H dx=none)(ne:dx≠x):ax H (upd (upd H dx o) x u):=(ax.upd hdx).trans (ax.upd (by rw[ao (Lt ne)];exact hx))
theorem pE {H:Hp}{x dx f b C:Addr}{g:gOp}{n:Nat}{t:Kn Str}{Q:VK}(hx:H x=none)(hdx:H dx=none)(ne:dx≠x)(q:KnQ A H f b g n 1 t Q):InQ A (upd (upd H dx (.own x)) x (.ins C dx [])) x f b g n t (fun v H2=>v=.non∧Q (.ref x) H2):=
 fun m g' H' k kn s sub=>⟨rfl,q x m g' H' (fun z o zb e=>k z o zb (ag e hx) (bU hx hdx ne _ _ e)) kn s sub⟩
theorem Ap {H:Hp}{x dx f b:Addr}{g:gOp}{n k:Nat}{z:Str}{Q:VK}{E:XK}(hx:H x=none)(hdx:H dx=none)(ne:dx≠x)(s:Stp A H f b g n)(hn:n≤45000)(hk:k<2^60)(hz:fb z)(q:KnQ A H f b g n 1 (.leaf k z) Q):
  ia K A [.ref x,.ref f,.int (k:Int),.str z] (upd (upd H dx (.own x)) x (.ins A.c_Leaf dx [])) (fun v H2=>v=.non∧Q (.ref x) H2) E:=
 ⟨x,dx,f,b,g,n,k,z,rfl,aj,s.same (ah _) (bU hx hdx ne),hn,hk,hz,pE hx hdx ne q⟩
theorem zO {H:Hp}{x dx f b:Addr}{g:gOp}{n:Nat}{Q:VK}{E:XK}(hx:H x=none)(hdx:H dx=none)(ne:dx≠x)(s:Stp A H f b g n)(hn:n≤45000)(q:KnQ A H f b g n 1 .bare Q):
  mD K A [.ref x,.ref f] (upd (upd H dx (.own x)) x (.ins A.c_Bare dx [])) (fun v H2=>v=.non∧Q (.ref x) H2) E:=
 ⟨x,dx,f,b,g,n,rfl,aj,s.same (ah _) (bU hx hdx ne),hn,pE hx hdx ne q⟩
theorem jB {H:Hp}{x dx f b l r:Addr}{g:gOp}{n d e:Nat}{tl tr:Kn Str}{ml mr:Key}{Q:VK}{E:XK}(hx:H x=none)(hdx:H dx=none)(ne:dx≠x)(s:Stp A H f b g n)(hn:n≤45000)(hd:d<60)(he:e<2^60)(kl:KnA A H g l tl ml)(kr:KnA A H g r tr mr)(sz:szN tl+szN tr≤90000)
  (q:KnQ A H f b g n 1 (.fork d e tl tr) Q):iP K A [.ref x,.ref f,.int (d:Int),.int (e:Int),.ref l,.ref r] (upd (upd H dx (.own x)) x (.ins A.c_Fork dx [])) (fun v H2=>v=.non∧Q (.ref x) H2) E:=
 have S:=bU (o:=.own x) (u:=.ins A.c_Fork dx []) hx hdx ne
 ⟨x,dx,f,b,l,r,g,n,d,e,tl,tr,ml,mr,rfl,aj,s.same (ah _) S,hn,hd,he,kl.same S,kr.same S,sz,pE hx hdx ne q⟩
theorem KnA.fk {H:Hp}{g:gOp}{x:Addr}{d b:Nat}{tl tr:Kn Str}{m:Key}(h:KnA A H g x (.fork d b tl tr) m):∃l r ml mr,iG A H x d b l r∧KnA A H g l tl ml∧KnA A H g r tr mr:=by
 cases h with
 |fork o hl hr _ _ _ _=>exact⟨_,_,_,_,⟨_,_,_,o⟩,hl,hr⟩
theorem Ii (K:cW)(A:Adr):Ln (sT K A) 3:=by rintro vs H Q E ⟨x,l,r,d,b,B,key,rfl,_⟩;rfl
theorem LA (T:Txt K mg A):Rd (sT K A) (T_8 K A) ["self","bits","key"]:=by
 intro vs H Q E h
 obtain⟨x,l,r,d,b,B,key,rfl,⟨dx,t,m,o⟩,hd,q⟩:=h
 refine⟨x,_,dx,_,_,rfl,o,T.cl_Fork,T.na_Fork_depth,rfl,_,_,_,rfl,by omega,x,_,dx,_,_,rfl,o,T.cl_Fork,T.na_Fork_begin,rfl,?_⟩
 have e:decide (((st B key d:Nat):Int)=(b:Int))=decide (st B key d=b):=by
  by_cases h:st B key d=b
  ·rw[decide_eq_true h,decide_eq_true (by rw[h])]
  ·rw[decide_eq_false h,decide_eq_false (by omega)]
 show Q (.bl (decide (lp (B:Int) (key:Int) (d:Int)=(b:Int)))) H
 rw[ph,e];exact q
theorem Iz (K:cW)(A:Adr):Ln (lT K A) 3:=by rintro vs H Q E ⟨x,l,r,d,b,B,key,rfl,_⟩;rfl
theorem Lw (T:Txt K mg A):Rd (lT K A) (T_9 K A) ["self","bits","key"]:=by
 intro vs H Q E h
 obtain⟨x,l,r,d,b,B,key,rfl,⟨dx,t,m,o⟩,hd,q⟩:=h
 refine⟨x,_,dx,_,_,rfl,o,T.cl_Fork,T.na_Fork_depth,rfl,_,_,_,rfl,by omega,by omega,?_⟩
 rw[kz hd]
 refine Sel.dec (fun h=>?_) (fun h=>?_)
 ·have h:sd B key d=0:=by have h:((sd B key d:Nat):Int)=0:=h;omega
  rw[if_pos h]at q
  exact⟨x,_,dx,_,_,rfl,o,T.cl_Fork,T.na_Fork_left,rfl,q⟩
 ·have h:¬sd B key d=0:=by have h:¬((sd B key d:Nat):Int)=0:=h;omega
  rw[if_neg h]at q
  exact⟨x,_,dx,_,_,rfl,o,T.cl_Fork,T.na_Fork_right,rfl,q⟩
theorem Ik (K:cW)(A:Adr):Ln (rC K A) 3:=by rintro vs H Q E ⟨x,l,r,d,b,B,key,rfl,_⟩;rfl
theorem Kl (T:Txt K mg A):Rd (rC K A) (T_5 K A) ["self","bits","key"]:=by
 intro vs H Q E h
 obtain⟨x,l,r,d,b,B,key,rfl,⟨dx,t,m,o⟩,hd,q⟩:=h
 refine⟨x,_,dx,_,_,rfl,o,T.cl_Fork,T.na_Fork_depth,rfl,_,_,_,rfl,by omega,by omega,?_⟩
 rw[kz hd]
 refine Sel.dec (fun h=>?_) (fun h=>?_)
 ·have h:sd B key d=0:=by have h:((sd B key d:Nat):Int)=0:=h;omega
  rw[if_pos h]at q
  exact⟨x,_,dx,_,_,rfl,o,T.cl_Fork,T.na_Fork_right,rfl,q⟩
 ·have h:¬sd B key d=0:=by have h:¬((sd B key d:Nat):Int)=0:=h;omega
  rw[if_neg h]at q
  exact⟨x,_,dx,_,_,rfl,o,T.cl_Fork,T.na_Fork_left,rfl,q⟩
theorem FN (K:cW)(A:Adr):Ln (lR K A) 3:=by rintro vs H Q E ⟨x,g,t,m,B,key,rfl,_⟩;rfl
theorem BQ (K:cW)(A:Adr):Ln (jw K A) 3:=by rintro vs H Q E ⟨x,g,t,m,B,key,rfl,_⟩;rfl
theorem EQ (K:cW)(A:Adr)(n:Nat):Ln (ki K A n) 3:=by rintro vs H Q E ⟨x,g,t,m,B,key,rfl,_⟩;rfl
theorem Cd (K:cW)(A:Adr):∀vs H Q E,ki K A 0 vs H Q E→False:=by rintro vs H Q E ⟨x,g,t,m,B,key,rfl,_,_,h,_⟩;omega
theorem Kof.b {H:Hp}{g:gOp}{x:Addr}{t:Kn Str}{m:Key}(h:Kof A H 0 g x t m):t=.bare:=by
 obtain⟨k,e⟩:=h;cases t<;>first|rfl|cases e
theorem kd1 {t:Kn Str}(e:kdK t=1):∃k z,t=.leaf k z:=by cases t<;>first|exact⟨_,_,rfl⟩|cases e
theorem kd2 {t:Kn Str}(e:kdK t=2):∃d b l r,t=.fork d b l r:=by cases t<;>first|exact⟨_,_,_,_,rfl⟩|cases e
theorem xI {H:Hp}{g:gOp}{x:Addr}{t:Kn Str}{m:Key}{sB sL sF:Sp}(nm:Str)(hn:nm="found"∨nm="rows"∨nm="with_key"∨nm="without")(h:KnA A H g x t m)(R:Sp→Prop)(q0:kdK t=0→R sB)(q1:kdK t=1→R sL)(q2:kdK t=2→R sF):
  ∃a C dx fs sp,V.ref x=.ref a∧H a=some (.ins C dx fs)∧(C,sp)∈[(A.c_Bare,sB),(A.c_Leaf,sL),(A.c_Fork,sF)]∧fs.lookup nm=none∧R sp:=by
 obtain⟨dx,p,fs,o,l⟩:=h.ob
 cases t with
 |bare=>exact⟨x,_,_,_,sB,rfl,o,Mg,l nm hn,q0 rfl⟩
 |leaf _ _=>exact⟨x,_,_,_,sL,rfl,o,LS _ Mg,l nm hn,q1 rfl⟩
 |fork _ _ _ _=>exact⟨x,_,_,_,sF,rfl,o,LS _ (LS _ Mg),l nm hn,q2 rfl⟩
theorem kdh {t:Kn Str}{i:Nat}(e:kdK t=i)(hi:i<2):hgt t<70:=by
 cases t with
 |bare=>show 0<70;decide
 |leaf _ _=>show 0<70;decide
 |fork _ _ _ _=>have:2=i:=e;omega
theorem iK {n:Nat}{H:Hp}{Q:VK}{E:XK}{g:gOp}{x:Addr}{t:Kn Str}{m:Key}{B key:Nat}(k:KnA A H g x t m)(dp:jP B t)(hn:hgt t<n)(q:Q (ov (aD B key t)) H):
  ∃a C dx fs sp,V.ref x=.ref a∧H a=some (.ins C dx fs)∧(C,sp)∈[(A.c_Bare,lR K A),(A.c_Leaf,jw K A),(A.c_Fork,ki K A n)]∧fs.lookup ("found":Str)=none∧sp [.ref x,.int (B:Int),.int (key:Int)] H Q E:=
 xI "found" (.inl rfl) k (fun sp=>sp [.ref x,.int (B:Int),.int (key:Int)] H Q E) (fun e=>⟨x,g,t,m,B,key,rfl,⟨k,e⟩,dp,kdh e (by decide),q⟩) (fun e=>⟨x,g,t,m,B,key,rfl,⟨k,e⟩,dp,kdh e (by decide),q⟩) (fun e=>⟨x,g,t,m,B,key,rfl,⟨k,e⟩,dp,hn,q⟩)
theorem KZ (T:Txt K mg A):Rd (lR K A) (T_1 K A) ["self","bits","key"]:=by
 intro vs H Q E h
 obtain⟨x,g,t,m,B,key,rfl,k,_,_,q⟩:=h
 cases k.b
 exact q
theorem HZ (T:Txt K mg A):Rd (jw K A) (KP K A) ["self","bits","key"]:=by
 intro vs H Q E h
 obtain⟨x,g,t,m,B,key,rfl,⟨k,e⟩,_,_,q⟩:=h
 obtain⟨kk,z,rfl⟩:=kd1 e
 cases k with
 | @leaf _ dx _ _ _ _ o _ _ _ _ _=>
   refine⟨x,_,dx,_,_,rfl,o,T.cl_Leaf,T.na_Leaf_key,rfl,Sel.dec (fun h=>?_) (fun h=>?_)⟩
   ·have h:key=kk:=by have h:(key:Int)=(kk:Int):=h;omega
    have q:Q (ov (if key=kk then some z else none)) H:=q
    rw[if_pos h]at q
    exact⟨x,_,dx,_,_,rfl,o,T.cl_Leaf,T.na_Leaf_text,rfl,q⟩
   ·have h:¬key=kk:=by have h:¬(key:Int)=(kk:Int):=h;omega
    have q:Q (ov (if key=kk then some z else none)) H:=q
    rw[if_neg h]at q
    exact q
theorem Kk (T:Txt K mg A)(n:Nat):Rd (ki K A (n+1)) (T_7 K A n) ["self","bits","key"]:=by
 intro vs H Q E h
 obtain⟨x,g,t,m,B,key,rfl,⟨k,e⟩,dp,hn,q⟩:=h
 obtain⟨d,b,tl,tr,rfl⟩:=kd2 e
 obtain⟨l,r,ml,mr,fk,kl,kr⟩:=k.fk
 obtain⟨dx,p,mm,o⟩:=id fk
 have q:Q (ov (if sd B key d=0 then aD B key tl else aD B key tr)) H:=q
 have hh:max (hgt tl) (hgt tr)+1<n+1:=hn
 refine⟨x,dx,_,rfl,o,rfl,x,l,r,d,b,B,key,rfl,fk,dp.1,?_⟩
 by_cases hs:sd B key d=0
 ·rw[if_pos hs]at q⊢
  exact iK (n:=n) kl dp.2.2.1 (by omega) q
 ·rw[if_neg hs]at q⊢
  exact iK (n:=n) kr dp.2.2.2 (by omega) q
theorem BZ (K:cW)(A:Adr):Ln (lJ K A) 5:=by rintro vs H Q E ⟨f,b,x,y,g,n,B,d,key,z,t,m,m',rfl,_⟩;rfl
theorem Cm {B key d:Nat}(h:key<2^B)(hB:B≤60):st B key d<2^60:=by
 have:2^B≤2^60:=Ou (by decide) hB
 exact MJ (Nat.div_le_self _ _) (LV h this)
theorem IQ (T:Txt K mg A):Rd (lJ K A) (JO K A) ["stamper","bits","depth","leaf","knot","begin"]:=by
 intro vs H Q E h
 obtain⟨f,b,x,y,g,n,B,d,key,z,t,m,m',rfl,ks,hn,ky,hd,hk,q⟩:=h
 have B60:=ks.B60
 have sz:=ks.sz
 obtain⟨dy,p,oy⟩:∃dy p,H y=some (.ins A.c_Leaf dy [("term",.ref p),("mark",kV m'),("key",.int (key:Int)),("text",.str z)]):=by cases ky with|leaf o _ _ _ _ _=>exact⟨_,_,o⟩
 refine⟨y,_,dy,_,_,rfl,oy,T.cl_Leaf,T.na_Leaf_key,rfl,_,_,_,rfl,by omega,y,_,dy,_,_,rfl,oy,T.cl_Leaf,T.na_Leaf_key,rfl,_,_,_,rfl,by omega,by omega,?_⟩
 rw[kz hd,ph]
 unfold eA at q
 refine Sel.dec (fun h=>?_) (fun h=>?_)
 ·have h:sd B key d=0:=by have h:((sd B key d:Nat):Int)=0:=h;omega
  rw[if_pos h]at q
  intro x' dx' hx hdx ne
  exact jB hx hdx ne ks.s hn (by omega) (Cm hk B60) ky ks.k (by show 400+_≤_;omega) q
 ·have h:¬sd B key d=0:=by have h:¬((sd B key d:Nat):Int)=0:=h;omega
  rw[if_neg h]at q
  intro x' dx' hx hdx ne
  exact jB hx hdx ne ks.s hn (by omega) (Cm hk B60) ks.k ky (by show _+400≤_;omega) q
theorem FQ (K:cW)(A:Adr):Ln (qi K A) 5:=by rintro vs H Q E ⟨x,f,b,l,r,y,g,n,B,d,e,key,tl,tr,t,m,ml,mr,rfl,_⟩;rfl
theorem JE (T:Txt K mg A):Rd (qi K A) (T_6 K A) ["self","stamper","bits","key","knot"]:=by
 intro vs H Q E h
 obtain⟨x,f,b,l,r,y,g,n,B,d,e,key,tl,tr,t,m,ml,mr,rfl,⟨dx,p,mm,o⟩,kl,kr,ky,s,hn,hd,B60,e60,sz,q⟩:=h
 refine⟨x,_,dx,_,_,rfl,o,T.cl_Fork,T.na_Fork_depth,rfl,_,_,_,rfl,by omega,by omega,?_⟩
 rw[kz hd]
 refine Sel.dec (fun h=>?_) (fun h=>?_)
 ·have h:sd B key d=0:=by have h:((sd B key d:Nat):Int)=0:=h;omega
  rw[if_pos h]at q sz
  refine⟨x,_,dx,_,_,rfl,o,T.cl_Fork,T.na_Fork_depth,rfl,x,_,dx,_,_,rfl,o,T.cl_Fork,T.na_Fork_begin,rfl,x,_,dx,_,_,rfl,o,T.cl_Fork,T.na_Fork_right,rfl,fun x' dx' hx hdx ne=>?_⟩
  exact jB hx hdx ne s hn (by omega) e60 ky kr (by omega) q
 ·have h:¬sd B key d=0:=by have h:¬((sd B key d:Nat):Int)=0:=h;omega
  rw[if_neg h]at q sz
  refine⟨x,_,dx,_,_,rfl,o,T.cl_Fork,T.na_Fork_depth,rfl,x,_,dx,_,_,rfl,o,T.cl_Fork,T.na_Fork_begin,rfl,x,_,dx,_,_,rfl,o,T.cl_Fork,T.na_Fork_left,rfl,fun x' dx' hx hdx ne=>?_⟩
  exact jB hx hdx ne s hn (by omega) e60 kl ky (by omega) q
theorem lV {H H':Hp}{x dx b:Addr}{o u:HO}(hx:H x=none)(hdx:H dx=none)(ne:dx≠x)(k:bM b x (upd (upd H dx o) x u) H'):br b H H':=fun z o zb e=>k z o zb (ag e hx) (bU hx hdx ne _ _ e)
theorem HP (K:cW)(A:Adr):Ln (mC K A) 5:=by rintro vs H Q E ⟨x,f,b,g,n,B,key,z,t,m,rfl,_⟩;rfl
theorem DK (K:cW)(A:Adr):Ln (jf K A) 5:=by rintro vs H Q E ⟨x,f,b,g,n,B,key,z,t,m,rfl,_⟩;rfl
theorem Ez (K:cW)(A:Adr)(j:Nat):∀vs H Q E,ie K A j vs H Q E→vs.length=5:=by rintro vs H Q E ⟨x,f,b,g,n,B,key,z,t,m,rfl,_⟩;rfl
theorem yQ (K:cW)(A:Adr):∀vs H Q E,ie K A 0 vs H Q E→False:=by rintro vs H Q E ⟨x,f,b,g,n,B,key,z,t,m,rfl,_,_,_,_,_,_,h,_⟩;omega
theorem su {B key:Nat}(h:key<2^B)(hB:B≤60):key<2^60:=LV h (Ou (by decide) hB)
theorem Kq (T:Txt K mg A):Rd (mC K A) (T_2 K A) ["self","stamper","bits","key","value"]:=by
 intro vs H Q E h
 obtain⟨x,f,b,g,n,B,key,z,t,m,rfl,ks,e,hn,_,hk,hz,_,_,q⟩:=h
 cases (Kof.b (A:=A) ⟨ks.k,e⟩)
 intro x' dx' hx hdx ne
 exact Ap hx hdx ne ks.s (by omega) (su hk ks.B60) hz (q.le (by show 1≤0+2;decide))
theorem KnQ.after {H H1:Hp}{f b:Addr}{g g1:gOp}{n c c1:Nat}{t:Kn Str}{Q:VK}(q:KnQ A H f b g n (c1+c) t Q)(kb:br b H H1)(sub:Sub g g1):KnQ A H1 f b g1 (n+c1) c t Q:=fun y m g' H' kb' k s sub'=>q y m g' H' (kb.trans kb') k (s.same (by omega) ax.rfl') (sub.trans sub')
theorem Gx (T:Txt K mg A):Rd (jf K A) (JW K A) ["self","stamper","bits","key","value","leaf"]:=by
 intro vs H Q E h
 obtain⟨x,f,b,g,n,B,key,z,t,m,rfl,ks,e,hn,hr,hk,hz,_,_,q⟩:=h
 obtain⟨kk,z',rfl⟩:=kd1 e
 have hkk:kk<2^B:=hr (kk,z') Mg
 intro y dx' hx hdx ne
 refine⟨y,dx',f,b,g,n,key,z,rfl,aj,ks.s.same (ah _) (bU hx hdx ne),by omega,su hk ks.B60,hz,fun m' g1 H1 k2 ky s1 sub=>⟨rfl,?_⟩⟩
 have kb:=lV hx hdx ne k2
 have kx:=ks.k.kb ks.s kb sub
 obtain⟨dy,p,oy⟩:∃dy p,H1 x=some (.ins A.c_Leaf dy [("term",.ref p),("mark",kV m),("key",.int (kk:Int)),("text",.str z')]):=by cases kx with|leaf o _ _ _ _ _=>exact⟨_,_,o⟩
 refine⟨x,_,dy,_,_,rfl,oy,T.cl_Leaf,T.na_Leaf_key,rfl,Sel.dec (fun h=>?_) (fun h=>?_)⟩
 ·have h:key=kk:=by have h:(key:Int)=(kk:Int):=h;omega
  have q:KnQ A H f b g n (0+2) (if key=kk then .leaf key z else eA B (al B key kk) key z (.leaf kk z')) Q:=q
  rw[if_pos h]at q
  exact q y m' g1 H1 kb ky (s1.same (by omega) ax.rfl') sub
 ·have h:¬key=kk:=by have h:¬(key:Int)=(kk:Int):=h;omega
  have q:KnQ A H f b g n (0+2) (if key=kk then .leaf key z else eA B (al B key kk) key z (.leaf kk z')) Q:=q
  rw[if_neg h]at q
  obtain⟨a1,_,_⟩:=ou hk hkk h
  refine⟨x,_,dy,_,_,rfl,oy,T.cl_Leaf,T.na_Leaf_key,rfl,B,key,kk,al B key kk,rfl,hk,hkk,iL hk hkk,f,b,x,y,g1,n+1,B,al B key kk,key,z,.leaf kk z',m,m',rfl,⟨kx,s1,ks.B60,trivial,by show 1≤100;decide,by show 400≤80000;decide⟩,by omega,ky,a1,hk,?_⟩
  exact KnQ.after (c1:=1) (c:=1) q kb sub
theorem jM {j:Nat}{H:Hp}{Q:VK}{E:XK}{f b x:Addr}{g:gOp}{n B key:Nat}{z:Str}{t:Kn Str}{m:Key}(ks:KnS A H f b g n B x t m)(hn:n+hgt t+10≤45000)(hr:∀p∈bg t,p.1<2^B)(hk:key<2^B)(hz:fb z)(hj:hgt t<j)(sz:szN t≤70000)
  (q:KnQ A H f b g n (hgt t+2) (cC B key z t) Q):
  ∃a C dx fs sp,V.ref x=.ref a∧H a=some (.ins C dx fs)∧(C,sp)∈[(A.c_Bare,mC K A),(A.c_Leaf,jf K A),(A.c_Fork,ie K A j)]∧fs.lookup ("with_key":Str)=none∧sp [.ref x,.ref f,.int (B:Int),.int (key:Int),.str z] H Q E:=
 xI "with_key" (.inr (.inr (.inl rfl))) ks.k (fun sp=>sp [.ref x,.ref f,.int (B:Int),.int (key:Int),.str z] H Q E) (fun e=>⟨x,f,b,g,n,B,key,z,t,m,rfl,ks,e,hn,hr,hk,hz,kdh e (by decide),sz,q⟩)
  (fun e=>⟨x,f,b,g,n,B,key,z,t,m,rfl,ks,e,hn,hr,hk,hz,kdh e (by decide),sz,q⟩) (fun e=>⟨x,f,b,g,n,B,key,z,t,m,rfl,ks,e,hn,hr,hk,hz,hj,sz,q⟩)
theorem KnS.side {H:Hp}{f b x y:Addr}{g:gOp}{n B d e:Nat}{tl tr t:Kn Str}{m m':Key}(h:KnS A H f b g n B x (.fork d e tl tr) m)(k:KnA A H g y t m')(ht:t=tl∨t=tr):KnS A H f b g n B y t m'∧szN t≤szN (.fork d e tl tr)∧hgt t+1≤hgt (.fork d e tl tr)∧∀p∈bg t,p∈bg (.fork d e tl tr):=by
 have e1:szN (.fork d e tl tr)=300+szN tl+szN tr:=rfl
 have e2:(bg (.fork d e tl tr)).length=(bg tl).length+(bg tr).length:=Mi
 have e3:hgt (.fork d e tl tr)=max (hgt tl) (hgt tr)+1:=rfl
 have ln:=h.ln
 have sz:=h.sz
 rcases ht with rfl|rfl
 ·exact⟨⟨k,h.s,h.B60,h.dp.2.2.1,by omega,by omega⟩,by omega,by omega,fun p hp=>MU _ hp⟩
 ·exact⟨⟨k,h.s,h.B60,h.dp.2.2.2,by omega,by omega⟩,by omega,by omega,fun p hp=>Mp _ hp⟩
theorem iG.keep {H H':Hp}{x:Addr}{d b:Nat}{l r:Addr}(h:iG A H x d b l r)(k:∀z o,H z=some o→knO o→H' z=some o):iG A H' x d b l r:=by
 obtain⟨dx,t,m,o⟩:=h
 exact⟨dx,t,m,k _ _ o (.inr ⟨_,_,_,_,_,rfl⟩)⟩
theorem IH (T:Txt K mg A)(j:Nat)(vs:List V)(H:Hp)(Q:VK)(E:XK)(h:ie K A (j+1) vs H Q E):JN K A j {nx:=fun _ H'=>Q .non H',rt:=Q} (L2.start ["self","stamper","bits","key","value","depth"] vs) H:=by
 obtain⟨x,f,b,g,n,B,key,z,t,m,rfl,ks,e,hn,hr,hk,hz,hj,sz,q⟩:=h
 obtain⟨d,bb,tl,tr,rfl⟩:=kd2 e
 obtain⟨l,r,ml,mr,fk,kl,kr⟩:=ks.k.fk
 obtain⟨dx,p,mm,o⟩:=id fk
 have dp:=ks.dp
 have B60:=ks.B60
 have b60:bb<2^60:=LV dp.2.1 (Ou (by decide) (by have:=dp.1;omega))
 have q:KnQ A H f b g n (hgt (.fork d bb tl tr)+2) (if st B key d=bb then(if sd B key d=0 then .fork d bb (cC B key z tl) tr else .fork d bb tl (cC B key z tr))else eA B (al d bb (st B key d)) key z (.fork d bb tl tr)) Q:=q
 refine⟨x,dx,_,rfl,o,rfl,x,l,r,d,bb,B,key,rfl,fk,dp.1,?_⟩
 by_cases hb:st B key d=bb
 ·rw[if_pos hb]at q
  rw[decide_eq_true hb]
  refine Sel.no rfl ⟨x,dx,_,rfl,o,rfl,x,dx,_,rfl,o,rfl,x,l,r,d,bb,B,key,rfl,fk,dp.1,?_⟩
  by_cases hs:sd B key d=0
  ·rw[if_pos hs]at q⊢
   obtain⟨k1,k2,k3,k4⟩:=ks.side kl (.inl rfl)
   refine jM (j:=j) k1 (by omega) (fun p hp=>hr p (k4 p hp)) hk hz (by omega) (by omega) fun y m1 g1 H1 kb ky s1 sub=>?_
   have kn:=br.kn ks.s kb
   have s2:=gT (B:=B) (key:=key) (z:=z) tl
   have s3:szN (.fork d bb tl tr)=300+szN tl+szN tr:=rfl
   refine⟨x,f,b,l,r,y,g1,n+(hgt tl+2),B,d,bb,key,tl,tr,cC B key z tl,m1,ml,mr,rfl,fk.keep kn,kl.keep kn sub,kr.keep kn sub,ky,s1,by omega,dp.1,B60,b60,by rw[if_pos hs];omega,?_⟩
   rw[if_pos hs]
   exact KnQ.after (c1:=hgt tl+2) (c:=1) (q.le (by omega)) kb sub
  ·rw[if_neg hs]at q⊢
   obtain⟨k1,k2,k3,k4⟩:=ks.side kr (.inr rfl)
   refine jM (j:=j) k1 (by omega) (fun p hp=>hr p (k4 p hp)) hk hz (by omega) (by omega) fun y m1 g1 H1 kb ky s1 sub=>?_
   have kn:=br.kn ks.s kb
   have s2:=gT (B:=B) (key:=key) (z:=z) tr
   have s3:szN (.fork d bb tl tr)=300+szN tl+szN tr:=rfl
   refine⟨x,f,b,l,r,y,g1,n+(hgt tr+2),B,d,bb,key,tl,tr,cC B key z tr,m1,ml,mr,rfl,fk.keep kn,kl.keep kn sub,kr.keep kn sub,ky,s1,by omega,dp.1,B60,b60,by rw[if_neg hs];omega,?_⟩
   rw[if_neg hs]
   exact KnQ.after (c1:=hgt tr+2) (c:=1) (q.le (by omega)) kb sub
 ·rw[if_neg hb]at q
  rw[decide_eq_false hb]
  refine Sel.yes rfl ⟨x,_,dx,_,_,rfl,o,T.cl_Fork,T.na_Fork_depth,rfl,x,_,dx,_,_,rfl,o,T.cl_Fork,T.na_Fork_begin,rfl,x,_,dx,_,_,rfl,o,T.cl_Fork,T.na_Fork_depth,rfl,_,_,_,rfl,by have:=dp.1;omega,?_⟩
  rw[ph]
  have hst:st B key d<2^d:=by
   have e:2^B=2^d*2^(B- d):=by rw[←Pe];congr 1;have:=dp.1;omega
   exact(Pp (NJ _)).mpr (by rw[←e];exact hk)
  obtain⟨a1,_,_⟩:=ou dp.2.1 hst (Lt hb)
  refine⟨d,bb,st B key d,al d bb (st B key d),rfl,dp.2.1,hst,iL dp.2.1 hst,fun y dy hy hdy ne=>?_⟩
  refine⟨y,dy,f,b,g,n,key,z,rfl,aj,ks.s.same (ah _) (bU hy hdy ne),by omega,su hk B60,hz,fun m' g1 H1 k2 ky s1 sub=>⟨rfl,?_⟩⟩
  have kb:=lV hy hdy ne k2
  refine⟨f,b,x,y,g1,n+1,B,al d bb (st B key d),key,z,.fork d bb tl tr,m,m',rfl,⟨ks.k.kb ks.s kb sub,s1,B60,dp,ks.ln,ks.sz⟩,by omega,ky,by have:=dp.1;omega,hk,?_⟩
  exact KnQ.after (c1:=1) (c:=1) (q.le (by omega)) kb sub
theorem Hg (K:cW)(A:Adr):Ln (lZ K A) 4:=by rintro vs H Q E ⟨x,f,b,g,n,B,key,t,m,rfl,_⟩;rfl
theorem Ei (K:cW)(A:Adr):Ln (jA K A) 4:=by rintro vs H Q E ⟨x,f,b,g,n,B,key,t,m,rfl,_⟩;rfl
theorem Ec (K:cW)(A:Adr)(j:Nat):∀vs H Q E,gQ K A j vs H Q E→vs.length=4:=by rintro vs H Q E ⟨x,f,b,g,n,B,key,t,m,rfl,_⟩;rfl
theorem zp (K:cW)(A:Adr):∀vs H Q E,gQ K A 0 vs H Q E→False:=by rintro vs H Q E ⟨x,f,b,g,n,B,key,t,m,rfl,_,_,_,h,_⟩;omega
theorem Jq (T:Txt K mg A):Rd (lZ K A) (T_3 K A) ["self","stamper","bits","key"]:=by
 intro vs H Q E h
 obtain⟨x,f,b,g,n,B,key,t,m,rfl,ks,e,hn,hj,q⟩:=h
 cases (Kof.b (A:=A) ⟨ks.k,e⟩)
 exact q x m g H br.rfl' ks.k (ks.s.same (by omega) ax.rfl') Sub.rfl'
theorem Fe (T:Txt K mg A):Rd (jA K A) (KD K A) ["self","stamper","bits","key"]:=by
 intro vs H Q E h
 obtain⟨x,f,b,g,n,B,key,t,m,rfl,ks,e,hn,hj,q⟩:=h
 obtain⟨kk,z',rfl⟩:=kd1 e
 obtain⟨dy,p,oy⟩:∃dy p,H x=some (.ins A.c_Leaf dy [("term",.ref p),("mark",kV m),("key",.int (kk:Int)),("text",.str z')]):=by cases ks.k with|leaf o _ _ _ _ _=>exact⟨_,_,o⟩
 have q:KnQ A H f b g n (0+1) (if key=kk then .bare else .leaf kk z') Q:=q
 refine⟨x,_,dy,_,_,rfl,oy,T.cl_Leaf,T.na_Leaf_key,rfl,Sel.dec (fun h=>?_) (fun h=>?_)⟩
 ·have h:key=kk:=by have h:(key:Int)=(kk:Int):=h;omega
  rw[if_pos h]at q
  intro x' dx' hx hdx ne
  exact zO hx hdx ne ks.s (by omega) q
 ·have h:¬key=kk:=by have h:¬(key:Int)=(kk:Int):=h;omega
  rw[if_neg h]at q
  exact q x m g H br.rfl' ks.k (ks.s.same (by omega) ax.rfl') Sub.rfl'
theorem gz {j:Nat}{H:Hp}{Q:VK}{E:XK}{f b x:Addr}{g:gOp}{n B key:Nat}{t:Kn Str}{m:Key}(ks:KnS A H f b g n B x t m)(hn:n+hgt t+10≤45000)(hj:hgt t<j)(q:KnQ A H f b g n (hgt t+1) (aQ B key t) Q):
  ∃a C dx fs sp,V.ref x=.ref a∧H a=some (.ins C dx fs)∧(C,sp)∈[(A.c_Bare,lZ K A),(A.c_Leaf,jA K A),(A.c_Fork,gQ K A j)]∧fs.lookup ("without":Str)=none∧sp [.ref x,.ref f,.int (B:Int),.int (key:Int)] H Q E:=
 xI "without" (.inr (.inr (.inr rfl))) ks.k (fun sp=>sp [.ref x,.ref f,.int (B:Int),.int (key:Int)] H Q E) (fun e=>⟨x,f,b,g,n,B,key,t,m,rfl,ks,e,hn,kdh e (by decide),q⟩)
  (fun e=>⟨x,f,b,g,n,B,key,t,m,rfl,ks,e,hn,kdh e (by decide),q⟩) (fun e=>⟨x,f,b,g,n,B,key,t,m,rfl,ks,e,hn,hj,q⟩)
theorem tJ {H:Hp}{g:gOp}{x:Addr}{t:Kn Str}{m:Key}(T:Txt K mg A)(k:KnA A H g x t m):∃C dx fs,H x=some (.ins C dx fs)∧Cls K C∧kU K C∧Oy K (.ref C) (.ref A.c_Bare)=some (decide (kdK t=0)):=by
 obtain⟨dx,p,fs,o,_⟩:=k.ob
 cases t with
 |bare=>exact⟨_,dx,_,o,T.cl_Bare,T.oi_Bare,T.ko_Bare_Bare⟩
 |leaf _ _=>exact⟨_,dx,_,o,T.cl_Leaf,T.oi_Leaf,T.ko_Leaf_Bare⟩
 |fork _ _ _ _=>exact⟨_,dx,_,o,T.cl_Fork,T.oi_Fork,T.ko_Fork_Bare⟩
theorem FB (T:Txt K mg A)(j:Nat)(vs:List V)(H:Hp)(Q:VK)(E:XK)(h:gQ K A (j+1) vs H Q E):La K A j {nx:=fun _ H'=>Q .non H',rt:=Q} (L2.start ["self","stamper","bits","key","rest"] vs) H:=by
 obtain⟨x,f,b,g,n,B,key,t,m,rfl,ks,e,hn,hj,q⟩:=h
 obtain⟨d,bb,tl,tr,rfl⟩:=kd2 e
 obtain⟨l,r,ml,mr,fk,kl,kr⟩:=ks.k.fk
 obtain⟨dx,p,mm,o⟩:=id fk
 have dp:=ks.dp
 have B60:=ks.B60
 have sz:=ks.sz
 have b60:bb<2^60:=LV dp.2.1 (Ou (by decide) (by have:=dp.1;omega))
 have s3:szN (.fork d bb tl tr)=300+szN tl+szN tr:=rfl
 refine⟨x,dx,_,rfl,o,rfl,x,l,r,d,bb,B,key,rfl,fk,dp.1,?_⟩
 by_cases hs:sd B key d=0
 ·rw[if_pos hs]
  obtain⟨k1,k2,k3,k4⟩:=ks.side kl (.inl rfl)
  refine gz (j:=j) k1 (by omega) (by omega) fun y m1 g1 H1 kb ky s1 sub=>?_
  have kn:=br.kn ks.s kb
  have s2:=fm (B:=B) (key:=key) tl
  have fk1:=fk.keep kn
  obtain⟨dx1,p1,mm1,o1⟩:=id fk1
  obtain⟨C,dz,fz,oz,c1,c2,c3⟩:=tJ T ky
  refine⟨y,C,dz,fz,_,_,rfl,oz,c1,c2,c3,?_⟩
  rw[iN]at q
  rw[if_pos hs]at q
  by_cases hbr:kdK (aQ B key tl)=0
  ·rw[if_pos hbr]at q
   rw[decide_eq_true hbr]
   refine Sel.yes rfl ⟨x,dx1,_,rfl,o1,rfl,x,l,r,d,bb,B,key,rfl,fk1,dp.1,?_⟩
   rw[if_pos hs]
   exact q r mr g1 H1 kb (kr.keep kn sub) (s1.same (by omega) ax.rfl') sub
  ·rw[if_neg hbr]at q
   rw[decide_eq_false hbr]
   refine Sel.no rfl ⟨x,dx1,_,rfl,o1,rfl,x,f,b,l,r,y,g1,n+(hgt tl+1),B,d,bb,key,tl,tr,aQ B key tl,m1,ml,mr,rfl,fk1,kl.keep kn sub,kr.keep kn sub,ky,s1,by omega,dp.1,B60,b60,by rw[if_pos hs];omega,?_⟩
   rw[if_pos hs]
   exact KnQ.after (c1:=hgt tl+1) (c:=1) (q.le (by omega)) kb sub
 ·rw[if_neg hs]
  obtain⟨k1,k2,k3,k4⟩:=ks.side kr (.inr rfl)
  refine gz (j:=j) k1 (by omega) (by omega) fun y m1 g1 H1 kb ky s1 sub=>?_
  have kn:=br.kn ks.s kb
  have s2:=fm (B:=B) (key:=key) tr
  have fk1:=fk.keep kn
  obtain⟨dx1,p1,mm1,o1⟩:=id fk1
  obtain⟨C,dz,fz,oz,c1,c2,c3⟩:=tJ T ky
  refine⟨y,C,dz,fz,_,_,rfl,oz,c1,c2,c3,?_⟩
  rw[iN]at q
  rw[if_neg hs]at q
  by_cases hbr:kdK (aQ B key tr)=0
  ·rw[if_pos hbr]at q
   rw[decide_eq_true hbr]
   refine Sel.yes rfl ⟨x,dx1,_,rfl,o1,rfl,x,l,r,d,bb,B,key,rfl,fk1,dp.1,?_⟩
   rw[if_neg hs]
   exact q l ml g1 H1 kb (kl.keep kn sub) (s1.same (by omega) ax.rfl') sub
  ·rw[if_neg hbr]at q
   rw[decide_eq_false hbr]
   refine Sel.no rfl ⟨x,dx1,_,rfl,o1,rfl,x,f,b,l,r,y,g1,n+(hgt tr+1),B,d,bb,key,tl,tr,aQ B key tr,m1,ml,mr,rfl,fk1,kl.keep kn sub,kr.keep kn sub,ky,s1,by omega,dp.1,B60,b60,by rw[if_neg hs];omega,?_⟩
   rw[if_neg hs]
   exact KnQ.after (c1:=hgt tr+1) (c:=1) (q.le (by omega)) kb sub
theorem iW {σ:L2.St}{H:Hp}{t:TA}{x:Addr}{nm:Str}{L:List (Addr×Sp)}{Q:VK}{E:XK}(vs:List V)(ht:∀R:List V→Hp→Prop,R vs H→t σ H R)(h:∃a C dx fs sp,V.ref x=.ref a∧H a=some (.ins C dx fs)∧(C,sp)∈L∧fs.lookup nm=none∧sp (.ref x::vs) H Q E):
  ∃a C dx fs sp,V.ref x=.ref a∧H a=some (.ins C dx fs)∧(C,sp)∈L∧fs.lookup nm=none∧t σ H fun ws H2=>sp (.ref x::ws) H2 Q E:=by
 obtain⟨a,C,dx,fs,sp,e,o,m,l,q⟩:=h
 exact⟨a,C,dx,fs,sp,e,o,m,l,ht _ q⟩
theorem Cw (K:cW)(A:Adr):Ln (jg K A) 3:=by rintro vs H Q E ⟨x,dx,f,b,g,n,v,d,rfl,_⟩;rfl
theorem wg {d:Dat}(h:dX d=true):∃B:Nat,d=.int (B:Int)∧1≤B∧B≤60:=by
 cases d<;>first|cases h|skip
 rename_i i
 have h:1≤i∧i≤60:=of_decide_eq_true h
 obtain⟨y,hy⟩:=MK (a:=i) (by omega)
 exact⟨y,by rw[hy],by omega,by omega⟩
theorem Ai {B:Nat}{d:Dat}(h:dN (B:Int) d=true):∃k:Nat,d=.int (k:Int)∧k<2^B:=by
 cases d<;>first|cases h|skip
 rename_i i
 have h:0≤i∧i<2^(B:Int).toNat:=of_decide_eq_true h
 obtain⟨y,hy⟩:=MK (a:=i) h.1
 refine⟨y,by rw[hy],?_⟩
 have h2:=h.2
 rw[hy,show(B:Int).toNat=B by omega,←fe]at h2
 omega
theorem AL {d:Dat}(ok:okD d=true)(h:dQ d=true):∃z,d=.str z∧fb z:=by
 cases d<;>first|cases h|skip
 rename_i z
 exact⟨z,rfl,(LO.mp ok).1,of_decide_eq_true h⟩
theorem bc.int_inv {H:Hp}{v:V}{i:Int}(h:bc H v (.int i)):v=.int i:=by cases h;rfl
theorem bc.str_inv {H:Hp}{v:V}{z:Str}(h:bc H v (.str z)):v=.str z:=by cases h;rfl
theorem Ga (T:Txt K mg A)(vs:List V)(H:Hp)(Q:VK)(E:XK)(h:jg K A vs H Q E):CO K A E {nx:=fun _ H'=>Q .non H',rt:=Q} (L2.start ["self","stamper","bits"] vs) H:=by
 obtain⟨x,dx,f,b,g,n,v,d,rfl,hx,hd,s,hn,qE,q⟩:=h
 refine⟨v,d,rfl,hd,?_⟩
 cases hb:dX d with
 |false=>exact Sel.yes rfl (qE hb)
 |true=>
  obtain⟨B,rfl,B1,B60⟩:=wg hb
  cases hd.int_inv
  have q:=q B rfl B1 B60
  refine Sel.no rfl ⟨x,A.c_Table,dx,[],rfl,hx,T.cl_Table,T.na_Table_stamper,by decide,?_⟩
  refine⟨x,A.c_Table,dx,_,rfl,aj,T.cl_Table,T.na_Table_bits,by show 1<1000;decide,?_⟩
  rw[eV]
  have e2:aK "bits" (.int (B:Int)) (aK "stamper" (.ref f) [])=([("stamper",.ref f),("bits",.int (B:Int))]:List (Str×V)):=rfl
  rw[e2]
  have hx1:upd H x (.ins A.c_Table dx [("stamper",.ref f),("bits",.int (B:Int))]) x=some (.ins A.c_Table dx [("stamper",.ref f),("bits",.int (B:Int))]):=aj
  have s1:Stp A (upd H x (.ins A.c_Table dx [("stamper",.ref f),("bits",.int (B:Int))])) f b g n:=s.put (ah _) hx fun v z=>nomatch z
  intro y dy hy hdy ne
  refine⟨y,dy,f,b,g,n,rfl,aj,s1.same (ah _) (bU hy hdy ne),hn,fun m g1 H1 k2 ky s2 sub=>⟨rfl,?_⟩⟩
  have kb:=lV hy hdy ne k2
  have hx2:=kb _ _ (s1.nb hx1 fun _ z=>nomatch z) hx1
  refine⟨x,A.c_Table,dx,_,rfl,hx2,T.cl_Table,T.na_Table_top,by show 2<1000;decide,?_⟩
  have e3:aK "top" (.ref y) ([("stamper",.ref f),("bits",.int (B:Int))]:List (Str×V))=([("stamper",.ref f),("bits",.int (B:Int)),("top",.ref y)]:List (Str×V)):=rfl
  rw[e3]
  have ky':∀z u,H1 z=some u→knO u→upd H1 x (.ins A.c_Table dx [("stamper",.ref f),("bits",.int (B:Int)),("top",.ref y)]) z=some u:=fun z u ez hu=>by
   rw[ao (fun q=>by subst q;rw[hx2]at ez;cases ez;exact hu.tab)];exact ez
  refine q m g1 _ (fun z o zb zx e=>by rw[ao zx];exact kb z o zb (by rw[ao zx];exact e)) ⟨⟨dx,y,aj,ky.keep ky' Sub.rfl'⟩,B1,B60,.inl rfl⟩ (s2.put (ah _) hx2 fun v z=>?_) sub
  injection z with z;injection z with z;exact absurd z (by decide)
theorem Es (K:cW)(A:Adr):Ln (jt K A) 2:=by rintro vs H Q E ⟨x,f,g,B,t,m,v,d,rfl,_⟩;rfl
theorem Gy (T:Txt K mg A)(vs:List V)(H:Hp)(Q:VK)(E:XK)(h:jt K A vs H Q E):AR K A E {nx:=fun _ H'=>Q .non H',rt:=Q} (L2.start ["self","key"] vs) H:=by
 obtain⟨x,f,g,B,t,m,v,d,rfl,ta,hd,qE,q⟩:=h
 obtain⟨dx,y,o,ky⟩:=ta.ob
 have B60:=ta.B60
 refine⟨x,_,dx,_,_,rfl,o,T.cl_Table,T.na_Table_bits,rfl,(B:Int),v,d,rfl,by omega,by omega,hd,?_⟩
 cases hb:dN (B:Int) d with
 |false=>exact Sel.yes rfl (qE hb)
 |true=>
  obtain⟨key,rfl,hk⟩:=Ai hb
  cases hd.int_inv
  refine Sel.no rfl ⟨x,_,dx,_,_,rfl,o,T.cl_Table,T.na_Table_top,rfl,?_⟩
  exact iW [.int (B:Int),.int (key:Int)] (fun R r=>⟨x,_,dx,_,_,rfl,o,T.cl_Table,T.na_Table_bits,rfl,r⟩) (iK ky ta.wf.dp.1 (by have:=ta.wf.dp.2;omega) (q key rfl hk))
theorem El (K:cW)(A:Adr):Ln (oi K A) 1:=by rintro vs H Q E ⟨x,f,g,B,t,m,rfl,_⟩;rfl
theorem Gm (T:Txt K mg A):Rd (oi K A) (JL K A) ["self"]:=by
 intro vs H Q E h
 obtain⟨x,f,g,B,t,m,rfl,ta,q⟩:=h
 obtain⟨dx,y,o,ky⟩:=ta.ob
 obtain⟨dy,p,fs,oy,_⟩:=ky.ob
 exact⟨x,_,dx,_,_,rfl,o,T.cl_Table,T.na_Table_top,rfl,y,_,dy,_,_,rfl,oy,(fV T t).1,(fV T t).2.1,rfl,q⟩
theorem DE (K:cW)(A:Adr):Ln (lj K A) 3:=by rintro vs H Q E ⟨x,f,b,g,n,B,t,m,v,w,d,e,rfl,_⟩;rfl
theorem TbA.top {H H1:Hp}{g g1:gOp}{x f b y:Addr}{B n n1:Nat}{t':Kn Str}{m':Key}{dx:Addr}{y0:Addr}(o:H x=some (.ins A.c_Table dx [("stamper",.ref f),("bits",.int (B:Int)),("top",.ref y0)]))(s:Stp A H f b g n)(kb:br b H H1)(ky:KnA A H1 g1 y t' m')(s1:Stp A H1 f b g1 n1)(B1:1≤B)(B60:B≤60)(wf:WFo B t'):
  H1 x=some (.ins A.c_Table dx [("stamper",.ref f),("bits",.int (B:Int)),("top",.ref y0)])∧bM b x H (upd H1 x (.ins A.c_Table dx [("stamper",.ref f),("bits",.int (B:Int)),("top",.ref y)]))∧TbA A (upd H1 x (.ins A.c_Table dx [("stamper",.ref f),("bits",.int (B:Int)),("top",.ref y)])) g1 x f B t' m'∧Stp A (upd H1 x (.ins A.c_Table dx [("stamper",.ref f),("bits",.int (B:Int)),("top",.ref y)])) f b g1 n1:=by
 have hx2:=kb _ _ (s.nb o fun _ z=>nomatch z) o
 have ky':∀z u,H1 z=some u→knO u→upd H1 x (.ins A.c_Table dx [("stamper",.ref f),("bits",.int (B:Int)),("top",.ref y)]) z=some u:=fun z u ez hu=>by
  rw[ao (fun q=>by subst q;rw[hx2]at ez;cases ez;exact hu.tab)];exact ez
 refine⟨hx2,fun z o zb zx e=>by rw[ao zx];exact kb z o zb e,⟨⟨dx,y,aj,ky.keep ky' Sub.rfl'⟩,B1,B60,wf⟩,s1.put (ah _) hx2 fun v z=>?_⟩
 injection z with z;injection z with z;exact absurd z (by decide)
theorem TbS.kn {H:Hp}{x f b:Addr}{g:gOp}{n B:Nat}{t:Kn Str}{m:Key}(h:TbS A H x f b g n B t m):∃dx y,H x=some (.ins A.c_Table dx [("stamper",.ref f),("bits",.int (B:Int)),("top",.ref y)])∧KnS A H f b g n B y t m∧szN t≤70000∧hgt t≤60:=by
 obtain⟨dx,y,o,ky⟩:=h.ta.ob
 have ln:=h.ln
 have sz:=h.ta.wf.szN
 have dp:=h.ta.wf.dp
 have B60:=h.ta.B60
 exact⟨dx,y,o,⟨ky,h.s,B60,dp.1,by omega,by omega⟩,by omega,by omega⟩
theorem Jh (T:Txt K mg A)(vs:List V)(H:Hp)(Q:VK)(E:XK)(h:lj K A vs H Q E):DG K A E {nx:=fun _ H'=>Q .non H',rt:=Q} (L2.start ["self","key","value","before"] vs) H:=by
 obtain⟨x,f,b,g,n,B,t,m,v,w,d,e,rfl,ts,hn,hd,he,ok,qE,q⟩:=h
 obtain⟨dx,y,o,ks,sz,hg⟩:=ts.kn
 refine⟨x,dx,_,rfl,o,rfl,x,f,g,B,t,m,v,d,rfl,ts.ta,hd,qE,fun key ed hk=>?_⟩
 obtain⟨qV,qz⟩:=q key ed hk
 refine⟨w,e,rfl,he,ok,?_⟩
 cases hv:dQ e with
 |false=>exact Sel.yes rfl (qV hv)
 |true=>
  obtain⟨z,rfl,hz⟩:=AL ok hv
  cases he.str_inv
  subst ed
  cases hd.int_inv
  refine Sel.no rfl ⟨x,_,dx,_,_,rfl,o,T.cl_Table,T.na_Table_top,rfl,?_⟩
  refine iW [.ref f,.int (B:Int),.int (key:Int),.str z] (fun R r=>⟨x,_,dx,_,_,rfl,o,T.cl_Table,T.na_Table_stamper,rfl,x,_,dx,_,_,rfl,o,T.cl_Table,T.na_Table_bits,rfl,r⟩)
   (jM ks (by omega) ts.ta.wf.lt hk hz (by omega) sz fun y' m' g1 H1 kb ky s1 sub=>?_)
  obtain⟨hx2,k2,ta2,s2⟩:=TbA.top o ts.s kb ky s1 ts.ta.B1 ts.ta.B60 (ts.ta.wf.with hk).1
  exact⟨x,A.c_Table,dx,_,rfl,hx2,T.cl_Table,T.na_Table_top,by show 3<1000;decide,qz z rfl hz m' g1 _ k2 ta2 (s2.same (by omega) ax.rfl') sub⟩
theorem DH (K:cW)(A:Adr):Ln (lr K A) 2:=by rintro vs H Q E ⟨x,f,b,g,n,B,t,m,v,d,rfl,_⟩;rfl
theorem Hw (T:Txt K mg A)(vs:List V)(H:Hp)(Q:VK)(E:XK)(h:lr K A vs H Q E):Dy K A E {nx:=fun _ H'=>Q .non H',rt:=Q} (L2.start ["self","key","before"] vs) H:=by
 obtain⟨x,f,b,g,n,B,t,m,v,d,rfl,ts,hn,hd,qE,q⟩:=h
 obtain⟨dx,y,o,ks,sz,hg⟩:=ts.kn
 refine⟨x,dx,_,rfl,o,rfl,x,f,g,B,t,m,v,d,rfl,ts.ta,hd,qE,fun key ed hk=>?_⟩
 obtain⟨qM,qz⟩:=q key ed hk
 subst ed
 cases hd.int_inv
 cases hf:aD B key t with
 |none=>exact Sel.yes rfl (qM hf)
 |some z=>
  refine Sel.no rfl ⟨x,_,dx,_,_,rfl,o,T.cl_Table,T.na_Table_top,rfl,?_⟩
  refine iW [.ref f,.int (B:Int),.int (key:Int)] (fun R r=>⟨x,_,dx,_,_,rfl,o,T.cl_Table,T.na_Table_stamper,rfl,x,_,dx,_,_,rfl,o,T.cl_Table,T.na_Table_bits,rfl,r⟩)
   (gz ks (by omega) (by omega) fun y' m' g1 H1 kb ky s1 sub=>?_)
  obtain⟨hx2,k2,ta2,s2⟩:=TbA.top o ts.s kb ky s1 ts.ta.B1 ts.ta.B60 ts.ta.wf.without.1
  exact⟨x,A.c_Table,dx,_,rfl,hx2,T.cl_Table,T.na_Table_top,by show 3<1000;decide,qz z hf m' g1 _ k2 ta2 (s2.same (by omega) ax.rfl') sub⟩
theorem BL {x:Int}(h:x.natAbs<2^64):Mw x≤64:=by
 unfold Mw
 split
 ·omega
 ·rename_i h0
  have:x.natAbs.log2<64:=(RE (by simpa using h0)).mpr h
  omega
theorem pG {x y:Int}(h0:0≤y)(h:y<2^64):IntMulOk x y:=OC (BL (by omega))
theorem wA {zs:List Str}(h:∀z∈zs,cf z=true):cf (Txt.join "" zs)=true:=by
 rw[qP]
 induction zs with
 |nil=>decide+kernel
 |cons z r ih=>exact mO (h z Mg) (ih fun y hy=>h y (LS _ hy))
theorem Ct (K:cW)(A:Adr):Ln (kL K A) 2:=by rintro vs H Q E ⟨a,ns,k,rfl,_⟩;rfl
theorem ER (T:Txt K mg A):Rd (kL K A) (Kv K A) ["_law_script","_law_k"]:=by
 intro vs H Q E h
 obtain⟨a,ns,k,rfl,hs,h0,q⟩:=h
 refine .inl (.inl ⟨_,hs,Sel.dec (fun h=>?_) (fun h=>q 0)⟩)
 obtain⟨v,hv⟩:=kZ h0 h
 obtain⟨j,_,hj,_⟩:=eU hv
 obtain⟨z,_,rfl⟩:=jx hj
 exact .inl (.inl ⟨a,_,k,_,rfl,rfl,hs,hv,q z⟩)
theorem DO (K:cW)(A:Adr):Ln (lg K A) 2:=by rintro vs H Q E ⟨b,_,rfl,_⟩;rfl
theorem Gn (T:Txt K mg A):Rd (lg K A) (LB K A) ["_law_cell","_law_bits","_law_top"]:=by
 intro vs H Q E h
 obtain⟨c,B,rfl,B1,B60,q⟩:=h
 refine⟨⟨by omega,by omega,by decide⟩,?_⟩
 have e:(1:Int)*2^(B:Int).toNat=((2^B:Nat):Int):=by rw[show(B:Int).toNat=B by omega,Pz,fe]
 have hp:0<((2^B:Nat):Int):=by have:=NJ B;omega
 rw[e]
 have fin:∀i:Int,0≤i→i<((2^B:Nat):Int)→Q (.int i) H:=fun i h0 h1=>by
  obtain⟨y,rfl⟩:=MK h0
  exact q y (by omega)
 have md:∀i:Int,0≤i%((2^B:Nat):Int)∧i%((2^B:Nat):Int)<((2^B:Nat):Int):=fun i=>⟨NX _ (by omega),NY _ hp⟩
 refine⟨by decide,Sel.dec (fun h=>?_) (fun h=>?_)⟩
 ·exact⟨⟨by decide,by decide⟩,hp,fin _ (md _).1 (md _).2⟩
 refine⟨by decide,Sel.dec (fun h=>?_) (fun h=>?_)⟩
 ·exact⟨⟨by decide,by decide⟩,pG (by decide) (by decide),hp,fin _ (md _).1 (md _).2⟩
 ·refine⟨⟨by decide,by decide⟩,hp,fin _ ?_ ?_⟩
  ·have:=(md (c/3)).2;omega
  ·have:=(md (c/3)).1;omega
theorem AS {H:Hp}{Q:VK}{a:Addr}{xs:List V}{i:Int}(ha:H a=some (.lst xs))(h0:0≤i)(h1:i<xs.length)(q:∀v∈xs,Q v H):bR K (.ref a) (.int i) H Q:=by
 obtain⟨v,hv⟩:=kZ h0 h1
 obtain⟨j,_,hj,_⟩:=eU hv
 exact .inl (.inl ⟨a,xs,i,v,rfl,rfl,SqL.of ha,hv,q v (Ma hj)⟩)
theorem fQ {B key:Nat}(h:key<2^B):dN (B:Int) (.int (key:Int))=true:=by
 refine decide_eq_true ⟨by omega,?_⟩
 rw[show(B:Int).toNat=B by omega,←fe];omega
theorem qX {z:Str}(h:fb z):dQ (.str z)=true:=decide_eq_true h.2
def wW (o:HO):Prop:=(∃xs,o=.lst xs)∨(∃xs,o=.tup xs)∨∃kvs,o=.dK kvs
mutual
theorem bc.keep {H H':Hp}{v:V}{d:Dat}(k:∀z o,H z=some o→wW o→H' z=some o)(h:bc H v d):bc H' v d:=by
 cases h with
 |non=>exact .non
 |bl b=>exact .bl b
 |int i=>exact .int i
 |str z=>exact .str z
 |lst e r=>exact .lst (k _ _ e (.inl ⟨_,rfl⟩)) (DatWs.keep k r)
 |tup e r=>exact .tup (k _ _ e (.inr (.inl ⟨_,rfl⟩))) (DatWs.keep k r)
 |dic e=>obtain⟨kvs,e⟩:=e;exact .dic ⟨kvs,k _ _ e (.inr (.inr ⟨_,rfl⟩))⟩
theorem DatWs.keep {H H':Hp}{xs:List V}{ds:List Dat}(k:∀z o,H z=some o→wW o→H' z=some o)(h:DatWs H xs ds):DatWs H' xs ds:=by
 cases h with
 |nil=>exact .nil
 |cons h r=>exact .cons (bc.keep k h) (DatWs.keep k r)
end
theorem cr.dat {P:Addr}{H H':Hp}{ps:Array pv}(hP:H P=some (.tbl ps))(k:cr P H H'):∀z o,H z=some o→wW o→H' z=some o:=fun z o e h=>k z o e fun q=>by
 subst q;rw[hP]at e;cases e
 rcases h with⟨_,h⟩|⟨_,h⟩|⟨_,h⟩<;>cases h
theorem mq (kn:List (Nat×Str)):dOf kn=gs (kn.map fun p=>((p.1:Int),V.str p.2)):=by
 unfold dOf gs;rw[MP];rfl
theorem jT {k:Nat}{z:Str}:∀{l:List (Nat×Str)},(l.map (·.1)).Nodup→(look k l=some z↔(k,z)∈l)
 |[],_=>by constructor<;>intro h<;>cases h
 |(a,b)::l,nd=>by
  have nd':=Mc.mp nd
  unfold look
  by_cases e:k=a
  ·rw[if_pos e]
   constructor
   ·intro h;cases h;rw[e];exact Mg
   ·intro h
    rcases gV.mp h with h|h
    ·cases h;rfl
    ·exact absurd (MH.mpr ⟨_,h,rfl⟩) (by rw[e];exact nd'.1)
  ·rw[if_neg e,jT nd'.2]
   constructor
   ·intro h;exact LS _ h
   ·intro h
    rcases gV.mp h with h|h
    ·cases h;exact absurd rfl e
    ·exact h
theorem Kno.sorted {B:Nat}{kn rs:List (Nat×Str)}{t:Kn Str}(h:Kno B kn t)(wf:WFo B t)(pm:rs.Perm kn)(up:gF rs):rs=bg t:=by
 refine tP up wf.up.1 fun k=>?_
 rw[←wf.up.2,←h.eq]
 have nd:(rs.map (·.1)).Nodup:=(pm.map (·.1)).nodup_iff.mpr h.nd
 have key:∀z,look k rs=some z↔look k kn=some z:=fun z=>by rw[jT nd,jT h.nd,pm.mem_iff]
 cases e:look k kn with
 |none=>
  cases e2:look k rs with
  |none=>rfl
  |some z=>rw[(key z).mp e2]at e;cases e
 |some z=>exact(key z).mpr e
def fR (p:Nat×Str):Int×V:=((p.1:Int),V.str p.2)
theorem rF (a k:Nat):decide ((NP (a:Int):Key)=NP (k:Int))=decide (k=a):=by
 by_cases h:k=a
 ·rw[h,decide_eq_true rfl,decide_eq_true rfl]
 ·rw[decide_eq_false h,decide_eq_false fun z=>h (by have:=PM z;omega)]
theorem gG (kn:List (Nat×Str))(k:Nat):bY (dOf kn) (.inl (k:Int))=(look k kn).map V.str:=by
 unfold bY dOf
 induction kn with
 |nil=>rfl
 |cons p kn ih=>
  rw[Mo,NH,rF]
  unfold look
  by_cases h:k=p.1
  ·rw[decide_eq_true h,if_pos h];rfl
  ·rw[decide_eq_false h,if_neg h];exact ih
def eM (kn:List (Nat×Str))(k:Nat)(z:Str):List (Nat×Str):=if (kn.any fun p=>decide (k=p.1))=true then kn.map (fun p=>if k=p.1 then(p.1,z)else p)else kn++[(k,z)]
theorem zV (kn:List (Nat×Str))(k:Nat)(z:Str):bX (dOf kn) (.inl (k:Int)) (.str z)=dOf (eM kn k z):=by
 unfold bX eM dOf
 have e1:((kn.map fun p=>((NP (p.1:Int):Key),V.str p.2)).any fun kv=>decide (kv.1=NP (k:Int)))=kn.any fun p=>decide (k=p.1):=by
  rw[List.any_map];congr 1;funext p;exact rF p.1 k
 rw[e1]
 by_cases h:(kn.any fun p=>decide (k=p.1))=true
 ·rw[if_pos h,if_pos h,MP,MP]
  refine NO fun p _=>?_
  have d:=rF p.1 k
  show(if (NP (p.1:Int):Key)=NP (k:Int)then _ else _)=_
  by_cases hk:k=p.1
  ·rw[if_pos (by rw[hk])];show _=((NP ((if k=p.1 then(p.1,z)else p).1:Int):Key),V.str (if k=p.1 then(p.1,z)else p).2);rw[if_pos hk]
  ·rw[if_neg fun q=>hk (by have:=PM q;omega)];show _=((NP ((if k=p.1 then(p.1,z)else p).1:Int):Key),V.str (if k=p.1 then(p.1,z)else p).2);rw[if_neg hk]
 ·rw[if_neg h,if_neg h,MI];rfl
theorem qh {k:Nat}{z:Str}:∀(kn:List (Nat×Str))(k':Nat),look k' (kn.map fun p=>if k=p.1 then(p.1,z)else p)=if k'=k then(look k kn).map fun _=>z else look k' kn
 |[],k'=>by show none=_;split<;>rfl
 |p::kn,k'=>by
  have ih:=qh (k:=k) (z:=z) kn k'
  obtain⟨a,y⟩:=p
  rw[Mo]
  by_cases h:k=a
  ·subst h
   rw[if_pos rfl]
   show(if k'=k then some z else look k' _)=_
   by_cases h2:k'=k
   ·rw[if_pos h2,if_pos h2];show _=Tr _ (if k=k then some y else _);rw[if_pos rfl];rfl
   ·rw[if_neg h2,if_neg h2,ih,if_neg h2];show _=if k'=k then some y else _;rw[if_neg h2]
  ·rw[if_neg h]
   show(if k'=a then some y else look k' _)=_
   by_cases h2:k'=a
   ·subst h2
    rw[if_pos rfl,if_neg (Lt h)];show _=if k'=k' then some y else _;rw[if_pos rfl]
   ·rw[if_neg h2,ih]
    show _=if k'=k then Tr _ (if k=a then some y else look k kn)else if k'=a then some y else look k' kn
    rw[if_neg h,if_neg h2]
theorem uu {k:Nat}{kn:List (Nat×Str)}:(kn.any fun p=>decide (k=p.1))=(look k kn).isSome:=by
 induction kn with
 |nil=>rfl
 |cons p kn ih=>
  rw[PD,ih]
  show _=(if k=p.1 then some p.2 else look k kn).isSome
  by_cases h:k=p.1
  ·rw[decide_eq_true h,if_pos h];rfl
  ·rw[decide_eq_false h,if_neg h,SK]
theorem xg (kn:List (Nat×Str))(k:Nat)(z:Str)(k':Nat):look k' (eM kn k z)=if k'=k then some z else look k' kn:=by
 unfold eM
 rw[uu]
 by_cases h:(look k kn).isSome=true
 ·rw[if_pos h,qh]
  split
  ·obtain⟨y,hy⟩:=Mr.mp h;rw[hy];rfl
  ·rfl
 ·rw[if_neg h,jH]
  by_cases h2:k'=k
  ·rw[if_pos h2,h2]
   have:look k kn=none:=by cases e:look k kn<;>first|rfl|(rw[e]at h;exact absurd rfl h)
   rw[this];show(if k=k then some z else none)=_;rw[if_pos rfl]
  ·rw[if_neg h2];show(look k' kn).or (if k'=k then some z else none)=_;rw[if_neg h2,Option.or_none]
theorem qU {kn:List (Nat×Str)}{k:Nat}{z:Str}(h:(kn.map (·.1)).Nodup):((eM kn k z).map (·.1)).Nodup∧(eM kn k z).length≤kn.length+1:=by
 unfold eM
 by_cases hk:(kn.any fun p=>decide (k=p.1))=true
 ·rw[if_pos hk,MP,LJ]
  have e:(kn.map ((fun p:Nat×Str=>p.1)∘fun p=>if k=p.1 then(p.1,z)else p))=kn.map (·.1):=NO fun p _=>by show(if k=p.1 then(p.1,z)else p).1=p.1;split<;>rfl
  rw[e];exact⟨h,OA _⟩
 ·rw[if_neg hk,MI,Mi]
  refine⟨RO.mpr ⟨h,Pa _ _,fun a ha b hb e=>?_⟩,ah _⟩
  have e:a=k:=by rw[LZ.mp hb]at e;exact e
  obtain⟨p,hp,e2⟩:=MH.mp ha
  exact hk (List.any_eq_true.mpr ⟨p,hp,decide_eq_true (by rw[←e];exact e2.symm)⟩)
theorem Kno.put {B:Nat}{kn:List (Nat×Str)}{t:Kn Str}{key:Nat}{z:Str}(h:Kno B kn t)(wf:WFo B t)(hk:key<2^B)(ln:kn.length<63):Kno B (eM kn key z) (cC B key z t):=by
 obtain⟨a,b⟩:=qU (k:=key) (z:=z) h.nd
 exact⟨a,by omega,fun k=>by rw[xg,(wf.with hk).2,h.eq]⟩
theorem FC {z:Str}(h:fb z):okD (.str z)=true:=by
 show(cf z&&decide (z.length≤100000))=true
 rw[h.1,decide_eq_true (by have:=h.2;omega)];rfl
def lsO (o:HO):Prop:=(∃xs,o=.lst xs)∨∃ob u,o=.frz ob u
def KL (H H':Hp):Prop:=∀z o,H z=some o→lsO o→H' z=some o
theorem SqL.kl {a:Addr}{xs:List V}{H H':Hp}(h:SqL K H a xs)(k:KL H H'):SqL K H' a xs:=by
 rcases h with h|h
 ·rcases h with h|⟨o,h⟩
  ·exact .inl (.inl (k _ _ h (.inl ⟨_,rfl⟩)))
  ·exact .inl (.inr ⟨o,k _ _ h (.inr ⟨_,_,rfl⟩)⟩)
 ·exact .inr h
theorem Kno.perm {B:Nat}{kn:List (Nat×Str)}{t:Kn Str}(h:Kno B kn t)(wf:WFo B t):(bg t).Perm kn:=by
 have pm:=List.mergeSort_perm kn (fun a b=>decide (a.1≤b.1))
 have so:=List.pairwise_mergeSort (le:=fun(a b:Nat×Str)=>decide (a.1≤b.1)) (fun a b c h1 h2=>by simp only[decide_eq_true_eq]at*;omega) (fun a b=>by simp only[Bool.or_eq_true,decide_eq_true_eq];omega) kn
 have nd:((kn.mergeSort (fun a b=>decide (a.1≤b.1))).map (·.1)).Nodup:=(pm.map (·.1)).nodup_iff.mpr h.nd
 have nd2:=OT.mp nd
 have up:gF (kn.mergeSort (fun a b=>decide (a.1≤b.1))):=(so.and nd2).imp fun{a b} z=>by
  have z1:=of_decide_eq_true z.1
  have z2:=z.2
  omega
 rw[←h.sorted wf pm up];exact pm
theorem Kno.len {B:Nat}{kn:List (Nat×Str)}{t:Kn Str}(h:Kno B kn t)(wf:WFo B t):(bg t).length=kn.length:=(h.perm wf).length_eq
theorem Kno.keys {B:Nat}{kn:List (Nat×Str)}{t:Kn Str}(h:Kno B kn t)(wf:WFo B t):oA B kn:=fun p hp=>wf.lt p ((h.perm wf).mem_iff.mpr hp)
theorem Cf (K:cW)(A:Adr):Ln (oY K A) 2:=by rintro vs H Q E ⟨c,k,rfl,_⟩;rfl
theorem Jp (T:Txt K mg A):Rd (oY K A) (JD K A) ["_law_cell","_law_k"]:=by
 intro vs H Q E h
 obtain⟨c,k,rfl,q⟩:=h
 exact⟨by decide,pG (by decide) (by decide),pG (by decide) (by decide),by decide,q _ (NX _ (by decide))⟩
theorem CZ (K:cW)(A:Adr):Ln (oU K A) 1:=by rintro vs H Q E ⟨i,rfl,_⟩;rfl
theorem Fs (T:Txt K mg A):Rd (oU K A) (JR K A) ["_law_found"]:=by
 intro vs H Q E h
 obtain⟨i,rfl,q⟩:=h
 exact⟨by decide,"int",rfl,Sel.yes rfl ⟨by decide,"int",rfl,q⟩⟩
theorem AM (K:cW)(A:Adr):Ln (iq K A) 2:=by rintro vs H Q E ⟨o,rfl,_⟩;rfl
theorem Hj (T:Txt K mg A):Rd (iq K A) (Lg K A) ["_law_found","_law_due"]:=by
 intro vs H Q E h
 obtain⟨o,rfl,q⟩:=h
 cases o with
 |none=>exact Sel.yes rfl q
 |some z=>
  refine Sel.no rfl ⟨by decide,"str",rfl,Sel.yes rfl ?_⟩
  show Q (.bl (decide (z=z))) H
  rw[decide_eq_true rfl];exact q
def sR (ns:List Int):Dat:=.lst (ns.map Dat.int)
theorem gY (ns:List Int):okD (sR ns)=true:=by
 show okDs (ns.map Dat.int)=true
 induction ns with
 |nil=>rfl
 |cons n r ih=>show(true&&okDs (r.map Dat.int))=true;rw[ih];rfl
theorem pB {H:Hp}{l:Addr}{ns:List Int}(hl:H l=some (.lst (ns.map V.int))):bc H (.ref l) (sR ns):=by
 refine .lst hl ?_
 clear hl
 induction ns with
 |nil=>exact .nil
 |cons n r ih=>exact .cons (.int n) ih
theorem vg (ns:List Int):(pS (sR ns)).depth≤150:=by
 have e:Oq (toPys (ns.map Dat.int))≤0:=by
  induction ns with
  |nil=>exact Md _
  |cons r rs ih=>show max 0 (Oq (toPys (rs.map Dat.int)))≤0;omega
 show Oq (toPys (ns.map Dat.int))+1≤150
 omega
theorem BA {H:Hp}{Q:VK}{l p:Addr}{ns:List Int}(hl:H l=some (.lst (ns.map V.int)))(hp:H p=some (.lst []))(q:Q (.bl (decide (ns=[]))) H):cn K (.ref l) (.ref p) H Q:=by
 refine .inr (.inl ⟨_,_,(pB hl).toV (gY ns),(pB (ns:=[]) hp).toV (gY []),jW (gY ns),jW (gY []),vg ns,?_⟩)
 cases ns with
 |nil=>exact q
 |cons n r=>exact q
theorem BC (K:cW)(A:Adr):Ln (nv K A) 4:=by rintro vs H Q E ⟨kd,c,nb,B,kn,rfl,_⟩;rfl
theorem Ie (T:Txt K mg A):Rd (nv K A) (KS K A) ["_law_known","_law_cell","_law_number","_law_bits","_law_keys","_law_way","_law_key_here"]:=by
 intro vs H Q E h
 obtain⟨kd,c,nb,B,kn,rfl,hk,ln,kb,B1,B60,q⟩:=h
 refine .inr ⟨kd,kn.map fR,rfl,by rw[hk,mq];rfl,by rw[LJ];omega,fun l ns hl pm _=>⟨by decide,?_⟩⟩
 have S1:=ax.upd (o:=.lst (ns.map V.int)) hl
 have hl1:upd H l (.lst (ns.map V.int)) l=some (.lst (ns.map V.int)):=aj
 generalize upd H l (.lst (ns.map V.int))=H1 at S1 hl1
 have mem:∀i∈ns,∃k:Nat,i=(k:Int)∧k<2^B:=fun i hi=>by
  have:=pm.mem_iff.mp hi
  rw[MP]at this
  obtain⟨p,hp,rfl⟩:=MH.mp this
  exact⟨p.1,rfl,kb p hp⟩
 have first:∀H2,ax H1 H2→lg K A [.int c,.int (B:Int)] H2 Q E0:=fun H2 S2=>⟨c,B,rfl,B1,B60,fun k hk=>q k H2 (S1.trans S2) hk⟩
 refine Sel.dec (fun h=>?_) (fun h=>?_)
 ·exact Sel.yes rfl (first H1 (.refl _))
 refine⟨by show 0≤sizeLine;decide,fun p hp=>?_⟩
 have S2:=ax.upd (o:=.lst []) hp
 refine BA (S2 _ _ hl1) aj (Sel.dec (fun h2=>?_) (fun h2=>?_))
 ·exact first _ S2
 have hl2:=S2 _ _ hl1
 generalize upd H1 p (.lst [])=H2 at S2 hl2
 have l0:0<(ns.length:Int):=by
  cases ns with
  |nil=>exact absurd rfl h2
  |cons n r=>show 0<((r.length+1:Nat):Int);omega
 have ml:(ns.map V.int).length=ns.length:=LJ _
 refine⟨⟨by decide,by decide⟩,.inl (.inl ⟨_,SqL.of hl2,?_⟩)⟩
 rw[ml]
 refine⟨l0,AS hl2 (NX _ (by omega)) (by rw[ml];exact NY _ l0) fun v hv=>?_⟩
 obtain⟨i,hi,rfl⟩:=MH.mp hv
 obtain⟨k,rfl,hkB⟩:=mem i hi
 refine Sel.dec (fun h3=>?_) (fun h3=>?_)
 ·exact q k H2 (S1.trans S2) hkB
 have j0:=NX (nb/303) (b:=(B:Int)) (by omega)
 have j1:=NY (nb/303) (b:=(B:Int)) (by omega)
 refine⟨⟨by decide,by decide⟩,by omega,⟨j0,by omega,by decide⟩,?_⟩
 obtain⟨j,hj⟩:=MK j0
 show Q (.int (NZ (k:Int) (1*2^(nb/303%(B:Int)).toNat))) H2
 rw[hj,show((j:Nat):Int).toNat=j by omega,Pz,←fe,lw]
 exact q _ H2 (S1.trans S2) (Nat.xor_lt_two_pow hkB (Nat.pow_lt_pow_right (by decide) (by omega)))
theorem hJ {B:Nat}(h1:1≤B)(h2:B≤60):dX (.int (B:Int))=true:=decide_eq_true ⟨by omega,by omega⟩
theorem xU {H:Hp}{x dx f b:Addr}{g:gOp}{n B:Nat}{Q:VK}{E:XK}(hx:H x=none)(hdx:H dx=none)(ne:dx≠x)(s:Stp A H f b g n)(hn:n≤45000)(B1:1≤B)(B60:B≤60)(q:∀(m:Key)(g':gOp)(H':Hp),br b H H'→TbA A H' g' x f B .bare m→Stp A H' f b g' (n+1)→Sub g g'→Q .non H'):
  jg K A [.ref x,.ref f,.int (B:Int)] (upd (upd H dx (.own x)) x (.ins A.c_Table dx [])) Q E:=by
 have S1:=bU (o:=.own x) (u:=.ins A.c_Table dx []) hx hdx ne
 refine⟨x,dx,f,b,g,n,_,.int (B:Int),rfl,aj,.int _,s.same (ah _) S1,hn,fun h=>?_,fun B' eB _ _ m g2 H2 k2 ta2 s2 sub2=>?_⟩
 ·rw[hJ B1 B60]at h;cases h
 ·have:B'=B:=by have:=Dat.int.inj eB;omega
  subst this
  exact q m g2 H2 (fun z o zb e=>k2 z o zb (ag e hx) (S1 _ _ e)) ta2 s2 sub2
theorem AQ (K:cW)(A:Adr):Ln (lq K A) 1:=by rintro vs H Q E ⟨x,f,b,g,n,B,t,m,rfl,_⟩;rfl
theorem Fd (T:Txt K mg A):Rd (lq K A) (Lo K A) ["self","other"]:=by
 intro vs H Q E h
 obtain⟨x,f,b,g,n,B,t,m,rfl,ts,hn,q⟩:=h
 obtain⟨dx,y0,o,k0⟩:=ts.ta.ob
 refine⟨x,_,dx,_,_,rfl,o,T.cl_Table,T.na_Table_stamper,rfl,x,_,dx,_,_,rfl,o,T.cl_Table,T.na_Table_bits,rfl,fun y dy hy hdy ne=>?_⟩
 refine xU hy hdy ne ts.s hn ts.ta.B1 ts.ta.B60 fun m2 g2 H2 kb ta2 s2 sub=>⟨rfl,?_⟩
 have hx2:=kb _ _ (ts.s.nb o fun _ z=>nomatch z) o
 have k2:KnA A H2 g2 y0 t m:=k0.kb ts.s kb sub
 obtain⟨dy2,y2,oy,_⟩:=ta2.ob
 obtain⟨_,k3,ta3,s3⟩:=TbA.top oy s2 br.rfl' k2 s2 ts.ta.B1 ts.ta.B60 ts.ta.wf
 have xy:x≠y:=ag o hy
 refine⟨x,_,dx,_,_,rfl,hx2,T.cl_Table,T.na_Table_top,rfl,y,A.c_Table,dy2,_,rfl,oy,T.cl_Table,T.na_Table_top,by show 3<1000;decide,?_⟩
 have k3':KnA A _ g2 y0 t m:=k2.keep (fun z u e hu=>k3 z u (s2.nb e fun _ q=>(by subst q;exact hu.dT)) (fun q=>by subst q;rw[oy]at e;cases e;exact hu.tab) e) Sub.rfl'
 refine q y g2 _ (fun z u zb e=>k3 z u zb (ag e hy) (kb z u zb e)) hy ⟨⟨⟨dx,y0,k3 _ _ (s2.nb hx2 fun _ z=>nomatch z) xy hx2,k3'⟩,ts.ta.B1,ts.ta.B60,ts.ta.wf⟩,s3,ts.ln⟩ ta3 sub
def gy (kn:List (Nat×Str))(k:Nat):List (Nat×Str):=kn.filter fun p=>decide (k≠p.1)
theorem wG (kn:List (Nat×Str))(k:Nat):iu (dOf kn) (.inl (k:Int))=dOf (gy kn k):=by
 unfold iu gy dOf
 rw[List.filter_map]
 congr 1
 refine List.filter_congr fun p _=>?_
 show decide ((NP (p.1:Int):Key)≠NP (k:Int))=_
 exact decide_eq_decide.mpr ⟨fun z w=>z (by rw[w]),fun z w=>z (by have:=PM w;omega)⟩
theorem uc (kn:List (Nat×Str))(k k':Nat):look k' (gy kn k)=if k'=k then none else look k' kn:=by
 unfold gy
 induction kn with
 |nil=>show none=_;split<;>rfl
 |cons p kn ih=>
  obtain⟨a,z⟩:=p
  rw[Qa]
  by_cases h:k=a
  ·subst h
   rw[if_neg (by simp),ih]
   by_cases h2:k'=k
   ·rw[if_pos h2,if_pos h2]
   ·rw[if_neg h2,if_neg h2];show _=if k'=k then some z else _;rw[if_neg h2]
  ·rw[if_pos (decide_eq_true h)]
   show(if k'=a then some z else look k' _)=if k'=k then none else if k'=a then some z else look k' kn
   rw[ih]
   by_cases h2:k'=a
   ·rw[if_pos h2,if_pos h2,if_neg (fun q=>h (by rw[←q,h2]))]
   ·rw[if_neg h2,if_neg h2]
theorem Kno.drop {B:Nat}{kn:List (Nat×Str)}{t:Kn Str}{key:Nat}(h:Kno B kn t)(wf:WFo B t):Kno B (gy kn key) (aQ B key t)∧(gy kn key).length≤kn.length:=by
 have l:=Rc (fun p:Nat×Str=>decide (key≠p.1)) kn
 refine⟨⟨((List.filter_sublist (p:=fun p:Nat×Str=>decide (key≠p.1)) (l:=kn)).map Prod.fst).nodup h.nd,Mh l h.ln,fun k=>?_⟩,l⟩
 rw[uc,wf.without.2,h.eq]
theorem pY (o:Option Str):(o.map V.str).getD .non=ov o:=by cases o<;>rfl
theorem kK {H:Hp}{kd:Addr}{kvs:List (Key×V)}(h:H kd=some (.dK kvs)):tyV K "dict" (.ref kd) H:=.inr (.inr (.inl ⟨rfl,.inl ⟨_,h⟩⟩))
theorem TbA.same {H H':Hp}{g:gOp}{x f:Addr}{B:Nat}{t:Kn Str}{m:Key}(h:TbA A H g x f B t m)(S:ax H H'):TbA A H' g x f B t m:=by
 obtain⟨dx,y,o,ky⟩:=h.ob
 exact⟨⟨dx,y,S _ _ o,ky.same S⟩,h.B1,h.B60,h.wf⟩
theorem TbA.keep {H H':Hp}{g g':gOp}{x f:Addr}{B:Nat}{t:Kn Str}{m:Key}(h:TbA A H g x f B t m)(kx:∀o,H x=some o→H' x=some o)(k:∀z o,H z=some o→knO o→H' z=some o)(sub:Sub g g'):TbA A H' g' x f B t m:=by
 obtain⟨dx,y,o,ky⟩:=h.ob
 exact⟨⟨dx,y,kx _ o,ky.keep k sub⟩,h.B1,h.B60,h.wf⟩
theorem TbA.kb {H H':Hp}{g g' g0:gOp}{x f b:Addr}{B n:Nat}{t:Kn Str}{m:Key}(h:TbA A H g x f B t m)(s:Stp A H f b g0 n)(kb:br b H H')(sub:Sub g g'):TbA A H' g' x f B t m:=by
 obtain⟨dx,y,o,ky⟩:=h.ob
 exact h.keep (fun u e=>kb _ _ (s.nb o fun _ z=>nomatch z) e) (fun z u e hu=>kb z u (s.nb e fun _ q=>(by subst q;exact hu.dT)) e) sub
theorem qC {B:Nat}{ns:List Int}{kn:List (Nat×Str)}(pm:ns.Perm ((kn.map fR).map (·.1)))(kb:oA B kn):∃ks:List Nat,ns=ks.map (fun k:Nat=>(k:Int))∧∀k∈ks,k<2^B:=by
 have key:∀i∈ns,∃p∈kn,i=(p.1:Int):=fun i hi=>by
  have:=pm.mem_iff.mp hi
  rw[MP]at this
  obtain⟨p,hp,rfl⟩:=MH.mp this
  exact⟨p,hp,rfl⟩
 refine⟨ns.map Int.toNat,?_,fun k hk=>?_⟩
 ·rw[MP]
  refine(List.map_id ns).symm.trans (NO fun i hi=>?_)
  obtain⟨p,_,rfl⟩:=key i hi
  show(p.1:Int)=(((p.1:Int).toNat:Nat):Int)
  omega
 ·obtain⟨i,hi,rfl⟩:=MH.mp hk
  obtain⟨p,hp,rfl⟩:=key i hi
  have:=kb p hp
  rw[show(p.1:Int).toNat=p.1 by omega];exact this
theorem uO {m e:Nat}(h:2≤m)(he:m≤2^e):∃k,gx m=2^k∧k<e:=by
 refine⟨Qi (m- 1),rfl,?_⟩
 have h1:=Qf (n:=m- 1) (by omega)
 exact(QK (by decide:1<2)).mp (by omega:2^Qi (m- 1)<2^e)
theorem Bl (K:cW)(A:Adr):Ln (pc K A) 1:=by rintro vs H Q E ⟨m,rfl,_⟩;rfl
theorem GX (T:Txt K mg A)(vs:List V)(H:Hp)(Q:VK)(E:XK)(h:pc K A vs H Q E):Ks K A {nx:=fun _ H'=>Q .non H',rt:=Q} (start ["many"] vs) H:=by
 obtain⟨m,rfl,h2,h60,q⟩:=h
 obtain⟨k,ek,hk⟩:=uO h2 h60
 have e:(Mw ((m:Int)- 1):Int)- 1=((Qi (m- 1):Nat):Int):=by
  unfold Mw
  rw[if_neg (by simp;omega)]
  have:((m:Int)- 1).natAbs=m- 1:=by omega
  rw[this];omega
 have hl:Qi (m- 1)<60:=by
  have h1:=Qf (n:=m- 1) (by omega)
  exact(QK (by decide:1<2)).mp (by omega:2^Qi (m- 1)<2^60)
 refine⟨rfl,?_⟩
 show((0≤(Mw ((m:Int)- 1):Int)- 1∧_∧_)∧Q (.int (1*2^((Mw ((m:Int)- 1):Int)- 1).toNat)) H)
 rw[e]
 refine⟨⟨by omega,by omega,by decide⟩,?_⟩
 rw[Pz,OW,←fe]
 exact q
theorem tM {H:Hp}(x:Key):bc H (kV x) (jV x):=by
 cases x with
 |inl i=>exact .int i
 |inr z=>exact .str z
theorem ixL {K:cW}{H:Hp}{Q:VK}{a:Addr}{xs:List V}{x:V}{i:Int}{j:Nat}(ha:H a=some (.lst xs))(e:i=j)(hx:xs[j]?=some x)(q:Q x H):bR K (.ref a) (.int i) H Q:=by
 subst e
 refine .inl (.inl ⟨a,xs,j,x,rfl,rfl,SqL.of ha,?_,q⟩)
 have hj:=(LX.mp hx).1
 rw[uf (by omega) (by omega)]
 simp[LQ,hx]
theorem mM {e:Key}(h:okP e=true):dD (jV e)=true:=by
 cases e with
 |inl i=>exact h
 |inr z=>rfl
theorem Ae {K:cW}{H:Hp}{Q:VK}{L:Addr}{qs:List V}{p:V}(hL:H L=some (.lst (qs++[p])))(q:Q p H):bR K (.ref L) (.int (-1)) H Q:=
 .inl (.inl ⟨L,_,-1,p,rfl,rfl,SqL.of hL,wl _ _,q⟩)
theorem zR {n:Nat}(h:2≤n):1≤gx n∧gx n<n:=by
 unfold gx
 have h1:=Qf (n:=n- 1) (by omega)
 exact⟨Nat.one_le_two_pow,by omega⟩
theorem CA (K:cW)(A:Adr):Ln (ji K A) 1:=by rintro vs H Q E ⟨v,d,rfl,_⟩;rfl
theorem FH (T:Txt K mg A):Rd (ji K A) (KC K A) ["thing"]:=by
 intro vs H Q E h
 obtain⟨v,d,rfl,w,q⟩:=h
 refine⟨_,d,rfl,w,?_⟩
 cases w with
 |int i=>
  refine Sel.yes rfl (Sel.dec (fun h0=>⟨by decide,?_⟩) (fun h0=>?_))
  ·show Q (.bl (decide (i<1*2^(60:Int).toNat))) H
   have e:cV (.int i)=decide (i<1*2^(60:Int).toNat):=by
    show decide (0≤i∧i<2^60)=decide (i<1*2^60)
    by_cases h1:i<2^60
    ·rw[decide_eq_true ⟨h0,h1⟩,decide_eq_true (by omega)]
    ·rw[decide_eq_false fun z=>h1 z.2,decide_eq_false (by omega)]
   rw[←e];exact q
  ·have e:cV (.int i)=false:=decide_eq_false fun z=>h0 z.1
   rw[←e];exact q
 |non=>exact Sel.no rfl q
 |bl b=>exact Sel.no rfl q
 |str z=>exact Sel.no rfl q
 |lst e r=>exact Sel.no rfl q
 |tup e r=>exact Sel.no rfl q
 |dic e=>exact Sel.no rfl q
theorem mW {d:Dat}(h:cV d=true):∃c:Nat,d=.int (c:Int)∧c<2^60:=by
 cases d with
 |int i=>
  obtain⟨h0,h1⟩:0≤i∧i<2^60:=of_decide_eq_true h
  exact⟨i.toNat,by rw[RH h0],by omega⟩
 |non=>cases h
 |bl b=>cases h
 |str z=>cases h
 |lst e=>cases h
 |tup e=>cases h
 |dic=>cases h
theorem ko {i:Int}(h0:0≤i)(h1:i<2^60):cV (.int i)=true:=decide_eq_true ⟨h0,h1⟩
theorem Bv (K:cW)(A:Adr):Ln (nP K A) 1:=by rintro vs H Q E ⟨v,d,rfl,_⟩;rfl
theorem Fw (T:Txt K mg A):Rd (nP K A) (JT K A) ["thing"]:=by
 intro vs H Q E h
 obtain⟨v,d,rfl,w,q⟩:=h
 cases w with
 | @tup a xs ds ea r=>
   have ty:tyN H (.ref a)=some "tuple":=by unfold tyN;dsimp only;rw[ea]
   refine⟨by decide,"tuple",ty,Sel.t (.inl (.inr (.inl ⟨_,SqT.of ea,?_⟩)))⟩
   have hl:=r.len
   by_cases h2:ds.length=2
   ·refine Sel.yes (decide_eq_true (by omega)) ?_
    cases r with
    |nil=>cases h2
    |cons r1 r=>
    cases r with
    |nil=>cases h2
    |cons r2 r=>
    cases r with
    |cons r3 r=>simp at h2
    |nil=>
    refine ixT (j:=0) ea rfl rfl ⟨_,_,rfl,r1,?_⟩
    refine Sel.mk (fun hc=>?_) (fun hc=>?_)
    ·refine ixT (j:=1) ea rfl rfl ⟨_,_,rfl,r2,?_⟩
     have q:Q (.bl (cV _&&dD _)) H:=q
     rw[hc,Bool.true_and]at q;exact q
    ·have q:Q (.bl (cV _&&dD _)) H:=q
     rw[hc,Qx]at q;exact q
   ·refine Sel.no (decide_eq_false (by omega)) ?_
    have e:ja (.tup ds)=false:=by
     match ds,h2 with
     |[],_=>rfl
     |[_],_=>rfl
     |[_,_],h=>exact absurd rfl h
     |_::_::_::_,_=>rfl
    rw[e]at q;exact q
 |int i=>exact⟨by decide,_,rfl,Sel.f q⟩
 |non=>exact⟨by decide,_,rfl,Sel.f q⟩
 |bl b=>exact⟨by decide,_,rfl,Sel.f q⟩
 |str z=>exact⟨by decide,_,rfl,Sel.f q⟩
 |lst e r=>exact⟨by decide,_,(bc.lst e r).ty,Sel.f q⟩
 |dic e=>exact⟨by decide,_,(bc.dic e).ty,Sel.f q⟩
theorem AY (K:cW)(A:Adr):Ln (nG K A) 1:=by rintro vs H Q E ⟨v,d,rfl,_⟩;rfl
theorem GD (T:Txt K mg A):Rd (nG K A) (Kj K A) ["thing"]:=by
 intro vs H Q E h
 obtain⟨v,d,rfl,w,e,q⟩:=h
 refine⟨v,d,rfl,w,?_⟩
 rw[e];exact Sel.f q
theorem Cb (K:cW)(A:Adr):Ln (nA K A) 2:=by rintro vs H Q E ⟨v,d,w,e,rfl,_⟩;rfl
theorem Jg (T:Txt K mg A):Rd (nA K A) (KQ K A) ["count","place"]:=by
 intro vs H Q E h
 obtain⟨v,d,w,e,rfl,hd,he,q⟩:=h
 refine⟨v,d,rfl,hd,?_⟩
 unfold bW at q
 cases hc:cV d with
 |false=>rw[hc]at q;exact Sel.f q
 |true=>
  rw[hc]at q
  obtain⟨c,rfl,c2⟩:=mW hc
  cases hd.int_inv
  refine Sel.t ⟨w,e,rfl,he,?_⟩
  cases he with
  |int i=>
   refine Sel.yes rfl (Sel.dec (fun h0=>?_) (fun h0=>?_))
   ·show Q (.bl (decide (i<(c:Int)))) H
    have ee:decide (0≤i∧i<(c:Int))=decide (i<(c:Int)):=by
     by_cases h1:i<(c:Int)
     ·rw[decide_eq_true ⟨h0,h1⟩,decide_eq_true h1]
     ·rw[decide_eq_false fun z=>h1 z.2,decide_eq_false h1]
    rw[←ee];exact q
   ·have ee:decide (0≤i∧i<(c:Int))=false:=decide_eq_false fun z=>h0 z.1
    rw[←ee];exact q
  |non=>exact Sel.no rfl q
  |bl b=>exact Sel.no rfl q
  |str z=>exact Sel.no rfl q
  |lst e r=>exact Sel.no rfl q
  |tup e r=>exact Sel.no rfl q
  |dic e=>exact Sel.no rfl q
theorem tZ {d e:Dat}(h:bW d e=true):∃c el:Nat,d=.int (c:Int)∧e=.int (el:Int)∧el<c∧c<2^60:=by
 unfold bW at h
 obtain⟨h1,h2⟩:=LO.mp h
 obtain⟨h3,h4⟩:=LO.mp h1
 obtain⟨c,rfl,c2⟩:=mW h3
 cases e with
 |int i=>
  obtain⟨a,b⟩:0≤i∧i<(c:Int):=of_decide_eq_true h2
  exact⟨c,i.toNat,rfl,by rw[RH a],by omega,c2⟩
 |non=>cases h4
 |bl b=>cases h4
 |str z=>cases h4
 |lst e=>cases h4
 |tup e=>cases h4
 |dic=>cases h4
theorem uh {c e:Int}(h0:0≤e)(h1:e<c)(h2:c<2^60):bW (.int c) (.int e)=true:=by
 unfold bW
 rw[ko (by omega) h2]
 show decide (0≤e∧e<c)=true
 exact decide_eq_true ⟨h0,h1⟩
theorem hU {c el:Nat}(h1:el<c)(h2:c<2^60):bW (.int (c:Int)) (.int (el:Int))=true:=uh (by omega) (by omega) (by omega)
theorem AK (kvs:List (List Key×Key))(k:List Key)(v:Key):∃kvs',bG kvs'=bX (bG kvs) k (kV v)∧kvs'.length≤kvs.length+1∧∀j,ci kvs' j=if j=k then some v else ci kvs j:=by
 have fin:∀kvs':List (List Key×Key),bG kvs'=bX (bG kvs) k (kV v)→∀j,ci kvs' j=if j=k then some v else ci kvs j:=by
  intro kvs' e j
  have h:=gL kvs' j
  rw[e,kh,gL]at h
  by_cases hj:j=k
  ·rw[if_pos hj]at h⊢
   cases g:ci kvs' j with
   |none=>rw[g]at h;cases h
   |some w=>rw[g]at h;rw[pN (Me h)]
  ·rw[if_neg hj]at h⊢
   cases g:ci kvs' j with
   |none=>
    rw[g]at h
    cases g2:ci kvs j with
    |none=>rfl
    |some w=>rw[g2]at h;cases h
   |some w=>
    rw[g]at h
    cases g2:ci kvs j with
    |none=>rw[g2]at h;cases h
    |some u=>rw[g2]at h;rw[pN (Me h)]
 by_cases c:((bG kvs).any fun kv=>decide (kv.1=k))=true
 ·have e:bG (kvs.map fun kv=>if kv.1=k then(kv.1,v)else kv)=bX (bG kvs) k (kV v):=by
   unfold bX
   rw[if_pos c]
   unfold bG
   rw[MP,MP]
   apply NO
   intro p _
   show((if p.1=k then(p.1,v)else p).1,kV (if p.1=k then(p.1,v)else p).2)=if p.1=k then(p.1,kV v)else(p.1,kV p.2)
   by_cases h:p.1=k
   ·rw[if_pos h,if_pos h]
   ·rw[if_neg h,if_neg h]
  exact⟨_,e,by rw[LJ];omega,fin _ e⟩
 ·have e:bG (kvs++[(k,v)])=bX (bG kvs) k (kV v):=by
   unfold bX
   rw[if_neg c]
   unfold bG
   rw[MI];rfl
  exact⟨_,e,by simp,fin _ e⟩
theorem okW:okP (.inr "void")=true∧okP (.inr "entry")=true∧okP (.inr "joint")=true∧okP (.inr "row")=true:=by decide+kernel
theorem tF {e:Key}(h:okP e=true):okT [.inr "entry",e]=true:=fW okW.2.1 (fun x hx=>by rw[LZ.mp hx];exact h) (show 1≤7 by decide)
theorem uC {x y:Key}(hx:okP x=true)(hy:okP y=true):okT [.inr "joint",x,y]=true:=fW okW.2.2.1 (fun z hz=>by
 rcases gV.mp hz with h|h
 ·rw[h];exact hx
 ·rw[LZ.mp h];exact hy) (show 2≤7 by decide)
theorem pJ:okT [.inr "void"]=true:=fW okW.1 (fun _ h=>nomatch h) (by decide)
theorem okC {c:Nat}(h:c<2^60):okP (.inl (c:Int))=true:=by
 have p60:(2:Int)^60<10^60:=by decide+kernel
 have k:∀i:Int,0≤i→i<10^60→okP (.inl i)=true:=fun i h0 h1=>decide_eq_true ⟨h0,h1⟩
 exact k _ (by omega) (by omega)
theorem qW {c:Nat}{v:Key}(h:c<2^60)(ok:okP v=true):okT [.inr "row",.inl (c:Int),v]=true:=fW okW.2.2.2 (fun x hx=>by
 rcases gV.mp hx with rfl|hx
 ·exact okC h
 ·rw[LZ.mp hx];exact ok) (by show 2≤7;decide)
theorem jm {v:Key}(h:gc v):smE v:=by
 cases v with
 |inl i=>exact⟨decide_eq_true h,by show 62≤130;decide⟩
 |inr z=>
  have h:cf z=true∧z.length≤62:=h
  exact⟨by show(cf z&&decide (z.length≤100000))=true;rw[h.1,decide_eq_true (by omega)];rfl,by show z.length+62≤130;omega⟩
theorem Stp.small {H:Hp}{f b:Addr}{g:List Key→Option Key}{n:Nat}{k:List Key}{v:Key}(s:Stp A H f b g n)(h:g k=some v):smE v:=by
 cases s with
 |cnt q x kvs hc num hl hs hg=>subst hg;exact jm (jS hs h)
 |sur q kvs hc hb hl hs hg=>subst hg;exact jm (jS hs h)
 |wi q m kvs h1 h2 hc hb hg=>
  subst hg
  cases h
  obtain⟨z1,z2⟩:=rN (x:=eT k) h1 h2
  exact jm (v:=.inl (eT k%m)) ⟨z1,by omega⟩
 |wt q m kvs h1 h2 hc hb hg=>
  subst hg
  cases h
  obtain⟨z,e,z1,z2,_⟩:=kj (k:=k) h1 h2
  rw[e];exact jm (v:=.inr z) ⟨z1,by omega⟩
theorem Stp.setD {H:Hp}{f b D:Addr}{g:gOp}{n m:Nat}{xs:List (List Key×V)}{o:HO}(s:Stp A H f b g n)(hD:H D=some (.dT xs))(h1:D≠b)(hn:n≤m):Stp A (upd H D o) f b g m:=s.keep hn fun z u e hz=>by
 rw[ao fun q=>?_]
 ·exact e
 ·subst q
  rw[hD]at e;cases e
  rcases hz with⟨_,q⟩|⟨q,_⟩|⟨_,_,_,q⟩
  ·cases q
  ·exact h1 q
  ·cases q
theorem Stp.setL {H:Hp}{f b L:Addr}{g:gOp}{n:Nat}{xs:List V}{o:HO}(s:Stp A H f b g n)(hL:H L=some (.lst xs)):Stp A (upd H L o) f b g n:=s.keep (ah _) fun z u e hz=>by
 rw[ao fun q=>?_]
 ·exact e
 ·subst q
  rw[hL]at e;cases e
  rcases hz with⟨_,q⟩|⟨_,_,q⟩|⟨_,_,_,q⟩<;>cases q
theorem cR.same {H H':Hp}{x f L D:Addr}{es:List Key}{kvs:List (List Key×Key)}(r:cR A H x f L D es kvs)(S:ax H H'):cR A H' x f L D es kvs:=by
 obtain⟨dx,hx⟩:=r.ob
 exact⟨⟨dx,S _ _ hx⟩,S _ _ r.hl,S _ _ r.hd,r.en,r.le,r.cs⟩
section
variable {H H':Hp}{x f L D b:Addr}{es:List Key}{kvs:List (List Key×Key)}{g g':gOp}{n m:Nat}
theorem eR.same (r:eR A H x f L D b es kvs g n)(S:ax H H')(hn:n≤m):eR A H' x f L D b es kvs g m:=⟨r.r.same S,r.s.same hn S,r.db,Mh r.kl hn⟩
theorem eR.call (r:eR A H x f L D b es kvs g n)(kb:br b H H')(s:Stp A H' f b g' m)(hn:n≤m):eR A H' x f L D b es kvs g' m:=by
 obtain⟨dx,hx⟩:=r.r.ob
 exact⟨⟨⟨dx,kb _ _ (r.s.nb hx (fun _ z=>nomatch z)) hx⟩,kb _ _ (r.s.nb r.r.hl (fun _ z=>nomatch z)) r.r.hl,kb _ _ r.db r.r.hd,r.r.en,r.r.le,r.r.cs⟩,s,r.db,Mh r.kl hn⟩
theorem eR.n2 (r:eR A H x f L D b es kvs g n){z:Addr}{o:HO}(h:H z=some o)(h2:∀kvs,o≠.dT kvs):z≠b∧z≠D:=⟨r.s.nb h h2,bA h r.r.hd (h2 _)⟩
theorem bM.trans {H1 H2:Hp}(a:bM b D H H1)(c:bM b D H1 H2):bM b D H H2:=fun x o n n' e=>c x o n n' (a x o n n' e)
theorem bM.same (S:ax H H'):bM b D H H':=fun x o _ _ e=>S x o e
theorem bM.kb (k:br b H H'):bM b D H H':=fun x o n _ e=>k x o n e
end
theorem Cr (K:cW)(A:Adr)(n:Nat):Ln (ox K A n) 3:=by rintro vs H Q E ⟨x,f,L,D,b,es,kvs,g,n,a,m,rfl,_⟩;rfl
theorem Gf (T:Txt K mg A)(n:Nat)(vs:List V)(H:Hp)(Q:VK)(E:XK)(h:ox K A n vs H Q E):Jv K A n {nx:=fun _ H'=>Q .non H',rt:=Q} (L2.start ["self","first","many","ahead"] vs) H:=by
 obtain⟨x,f,L,D,b,es,kvs,g,N,a,m,rfl,r,ham,hm,hN,q⟩:=h
 obtain⟨dx,hx⟩:=r.r.ob
 have l60:=r.r.le
 refine Sel.dec (fun h=>?_) (fun h=>?_)
 ·obtain rfl:m=0:=by omega
  exact⟨bq (show 1≤1000000 by decide),fun p hp=>q p [.inr "void"] kvs g _ (bM.same (ax.upd hp)) (r.same (ax.upd hp) (ah _)) Sub.rfl' aj pJ⟩
 refine Sel.dec (fun h=>?_) (fun h=>?_)
 ·obtain rfl:m=1:=by omega
  obtain⟨e,he⟩:∃e,es[a]?=some e:=⟨_,LN (by omega)⟩
  have en:=r.r.en e (Ma he)
  exact⟨x,A.c_Row,dx,_,.ref L,rfl,hx,T.cl_Row,T.na_Row_entries,rfl,ixL r.r.hl rfl (by rw[Ml,he];rfl) ⟨bq (show 2≤1000000 by decide),fun p hp=>q p [.inr "entry",e] kvs g _ (bM.same (ax.upd hp)) (r.same (ax.upd hp) (ah _)) Sub.rfl' aj (tF en.1)⟩⟩
 ·have h2:2≤m:=by omega
  obtain⟨g1,g2⟩:=zR h2
  refine⟨m,rfl,h2,by omega,x,dx,_,rfl,hx,rfl,x,f,L,D,b,es,kvs,g,N,a,gx m,rfl,r,by omega,by omega,by omega,fun v1 kvs1 g1' H1 k1 r1 s1 ok1=>?_⟩
  obtain⟨dx1,hx1⟩:=r1.r.ob
  refine⟨x,dx1,_,rfl,hx1,rfl,x,f,L,D,b,es,kvs1,g1',_,a+gx m,m- gx m,?_,r1,by omega,by omega,by omega,fun v2 kvs2 g2' H2 k2 r2 s2 ok2=>?_⟩
  ·rw[Int.natCast_add,Int.ofNat_sub (by omega)]
  ·exact⟨bq (show 3≤1000000 by decide),fun p hp=>q p [.inr "joint",v1,v2] kvs2 g2' _ ((k1.trans k2).trans (bM.same (ax.upd hp))) (r2.same (ax.upd hp) (by omega)) (s1.trans s2) aj (uC ok1.1 ok2.1)⟩
theorem Co (K:cW)(A:Adr)(n:Nat):Ln (fE K A n) 3:=by rintro vs H Q E ⟨x,f,L,D,b,es,kvs,g,n,a,m,rfl,_⟩;rfl
theorem yP (K:cW)(A:Adr):∀vs H Q E,fE K A 0 vs H Q E→False:=by rintro vs H Q E ⟨x,f,L,D,b,es,kvs,g,n,a,m,_,_,_,h,_⟩;omega
theorem Ig (T:Txt K mg A)(n:Nat):Rd (fE K A (n+1)) (LH K A n) ["self","first","many","part"]:=by
 intro vs H Q E h
 obtain⟨x,f,L,D,b,es,kvs,g,N,a,m,rfl,r,ham,hm,hN,q⟩:=h
 have l60:=r.r.le
 refine⟨bq (show 2≤1000000 by decide),fun p hp=>?_⟩
 have S1:ax H (upd H p (.tup [.int (a:Int),.int (m:Int)])):=ax.upd hp
 have r1:=r.same S1 (ah _)
 have hp1:upd H p (.tup [.int (a:Int),.int (m:Int)]) p=some (.tup (([.inl (a:Int),.inl (m:Int)]:List Key).map kV)):=aj
 generalize upd H p (.tup [.int (a:Int),.int (m:Int)])=H1 at S1 r1 hp1
 obtain⟨dx,hx1⟩:=r1.r.ob
 have g1:=cF.t r1.r.hd hp1
 rw[gL]at g1
 refine⟨x,A.c_Row,dx,_,.ref D,rfl,hx1,T.cl_Row,T.na_Row_tops,rfl,.inl ⟨D,_,rfl,g1,?_⟩⟩
 cases e:ci kvs [.inl (a:Int),.inl (m:Int)]with
 |some v=>
  rw[e]at g1
  refine Sel.no rfl ⟨x,A.c_Row,dx,_,.ref D,rfl,hx1,T.cl_Row,T.na_Row_tops,rfl,.inr ⟨D,_,rfl,g1,?_⟩⟩
  exact q v kvs g H1 (bM.same S1) (r1.same ax.rfl' (by omega)) Sub.rfl' (r.r.cs _ _ e)
 |none=>
  refine Sel.yes rfl ⟨x,dx,_,f,rfl,hx1,rfl,r1.s.clo,x,dx,_,rfl,hx1,rfl,x,f,L,D,b,es,kvs,g,N,a,m,rfl,r1,ham,by omega,hN,fun p2 k kvs2 g2 H2 k2 r2 s2 hp2 okk=>?_⟩
  dsimp only[am]
  refine gC r2.s (by omega) hp2 okk fun v H3 g3 kb s3 sub3 gv st=>?_
  have r3:=r2.call kb s3 (OA _)
  obtain⟨np,np'⟩:=r1.n2 hp1 (fun _ z=>nomatch z)
  have hp3:=kb _ _ np (k2 _ _ np np' hp1)
  obtain⟨dx3,hx3⟩:=r3.r.ob
  obtain⟨kvs4,e4,l4,f4⟩:=AK kvs2 [.inl (a:Int),.inl (m:Int)] v
  have kl:=r2.kl
  have ll:(bG kvs2).length=kvs2.length:=by simp[bG]
  refine⟨x,A.c_Row,dx3,_,.ref D,rfl,hx3,T.cl_Row,T.na_Row_tops,rfl,.inr ⟨D,_,rfl,.inr ⟨_,[.inl (a:Int),.inl (m:Int)],p,r3.r.hd,rfl,hp3,MJ (m:=50000) (by omega) (bq (n:=50001) (by decide)),rfl⟩,?_⟩⟩
  have xD:x≠D:=bA hx3 r3.r.hd (fun z=>nomatch z)
  have LD:L≠D:=bA r3.r.hl r3.r.hd (fun z=>nomatch z)
  have pD:p≠D:=np'
  have sv:smE v:=s3.small gv
  have gg:=cF.t (H:=upd H3 D (.dT (bX (bG kvs2) [.inl (a:Int),.inl (m:Int)] (kV v)))) (kvs:=bX (bG kvs2) [.inl (a:Int),.inl (m:Int)] (kV v)) (k:=[.inl (a:Int),.inl (m:Int)]) aj (by rw[ao pD];exact hp3)
  rw[kh,if_pos rfl]at gg
  refine⟨x,A.c_Row,dx3,_,.ref D,rfl,by rw[ao xD];exact hx3,T.cl_Row,T.na_Row_tops,rfl,.inr ⟨D,_,rfl,gg,?_⟩⟩
  have K4:bM b D H3 (upd H3 D (.dT (bX (bG kvs2) [.inl (a:Int),.inl (m:Int)] (kV v)))):=fun z o _ n e=>by rw[ao n];exact e
  refine q v kvs4 g3 _ ((((bM.same S1).trans k2).trans (bM.kb kb)).trans K4) ⟨⟨⟨dx3,by rw[ao xD];exact hx3⟩,by rw[ao LD];exact r3.r.hl,by rw[e4];exact aj,r3.r.en,r3.r.le,?_⟩,r3.s.setD r3.r.hd r3.db (by omega),r3.db,by omega⟩ (s2.trans sub3) sv
  intro k' v' e'
  rw[f4]at e'
  by_cases hk:k'=[.inl (a:Int),.inl (m:Int)]
  ·rw[if_pos hk]at e'
   obtain rfl:=Me e'
   exact sv
  ·rw[if_neg hk]at e'
   exact r3.r.cs _ _ e'
theorem Dn (K:cW)(A:Adr):Ln (kG K A) 2:=by rintro vs H Q E ⟨x,dx,f,rfl,_⟩;rfl
theorem GL (T:Txt K mg A):Rd (kG K A) (Kx K A) ["self","stamper"]:=by
 intro vs H Q E h
 obtain⟨x,dx,f,rfl,hx,q⟩:=h
 refine⟨x,A.c_Row,dx,[],rfl,hx,T.cl_Row,T.na_Row_stamper,by decide,Md _,fun L hL=>?_⟩
 obtain⟨Lx,hL⟩:=bp hL
 refine⟨x,A.c_Row,dx,_,rfl,by rw[ao (Lt Lx)];exact aj,T.cl_Row,T.na_Row_entries,by show 1<1000;decide,.inr fun D hD=>?_⟩
 obtain⟨Dx,hD⟩:=bp hD
 obtain⟨DL,hD⟩:=bp hD
 obtain⟨_,hD⟩:=bp hD
 refine⟨x,A.c_Row,dx,_,rfl,by rw[ao (Lt Dx)];exact aj,T.cl_Row,T.na_Row_tops,by show 2<1000;decide,q L D _ (fun z o zx e=>?_) hL hD (Lt DL) aj ?_ ?_⟩
 ·rw[ao zx,ao (ag e hD),ao zx,ao (ag e hL),ao zx];exact e
 ·rw[ao Lx,ao (Lt DL),ao Lx];exact aj
 ·rw[ao Dx];exact aj
theorem CS (K:cW)(A:Adr):Ln (gn K A) 1:=by rintro vs H Q E ⟨x,f,L,D,es,kvs,rfl,_⟩;rfl
theorem GK (T:Txt K mg A):Rd (gn K A) (Lz K A) ["self"]:=by
 intro vs H Q E h
 obtain⟨x,f,L,D,es,kvs,rfl,r,q⟩:=h
 obtain⟨dx,hx⟩:=r.ob
 refine⟨x,A.c_Row,dx,_,.ref L,rfl,hx,T.cl_Row,T.na_Row_entries,rfl,.inl (.inl ⟨_,SqL.of r.hl,?_⟩)⟩
 rw[LJ];exact q
theorem CY (K:cW)(A:Adr):Ln (oE K A) 2:=by rintro vs H Q E ⟨x,f,L,D,es,kvs,e,rfl,_⟩;rfl
theorem HM (T:Txt K mg A):Rd (oE K A) (JJ K A) ["self","entry"]:=by
 intro vs H Q E h
 obtain⟨x,f,L,D,es,kvs,e,rfl,r,en,le,q⟩:=h
 obtain⟨dx,hx⟩:=r.ob
 have q:Q (.int (es.length:Int)) (upd H L (.lst (es.map kV++[kV e]))):=by
  rw[MI]at q;exact q
 refine⟨_,_,rfl,tM e,Sel.no (by rw[mM en.1];rfl) ⟨x,A.c_Row,dx,_,.ref L,rfl,hx,T.cl_Row,T.na_Row_entries,rfl,.inl ⟨rfl,_,SqL.of r.hl⟩,L,_,_,rfl,rfl,r.hl,?_,?_⟩⟩
 ·rw[LJ];exact LV le (bq (by decide))
 ·have hL:x≠L:=bA hx r.hl (fun z=>nomatch z)
  refine⟨x,A.c_Row,dx,_,.ref L,rfl,by rw[ao hL];exact hx,T.cl_Row,T.na_Row_entries,rfl,.inl (.inl ⟨_,SqL.of aj,?_⟩)⟩
  have e:(((es.map kV++[kV e]).length:Nat):Int)- 1=(es.length:Int):=by simp
  show Q (.int ((((es.map kV++[kV _]).length:Nat):Int)- 1)) _
  rw[e];exact q
theorem De (K:cW)(A:Adr):Ln (pb K A) 2:=by rintro vs H Q E ⟨c,p,rfl,_⟩;rfl
theorem FE (T:Txt K mg A):Rd (pb K A) (Kp K A) ["count","elder"]:=by
 intro vs H Q E h
 obtain⟨c,p,rfl,h0,h1,h2,q⟩:=h
 refine⟨_,_,rfl,.int c,Sel.yes (ko (by omega) (by omega)) ⟨_,_,rfl,.int p,Sel.yes rfl (Sel.yes (decide_eq_true h0) ?_)⟩⟩
 show Q (.bl (decide (p≤c))) H
 rw[decide_eq_true h1];exact q
theorem EF (K:cW)(A:Adr):Ln (nq K A) 3:=by rintro vs H Q E ⟨x,f,L,D,es,kvs,c,p,rfl,_⟩;rfl
theorem Gt (T:Txt K mg A):Rd (nq K A) (Lc K A) ["self","count","elder"]:=by
 intro vs H Q E h
 obtain⟨x,f,L,D,es,kvs,c,p,rfl,r,h0,h1,h2,q⟩:=h
 obtain⟨dx,hx⟩:=r.ob
 have:=r.le
 refine⟨c,p,rfl,h0,h1,by omega,Sel.t ⟨x,dx,_,rfl,hx,rfl,x,f,L,D,es,kvs,rfl,r,?_⟩⟩
 show Q (.bl (decide (c≤(es.length:Int)))) H
 rw[decide_eq_true h2];exact q
theorem Bb (K:cW)(A:Adr):Ln (oh K A) 3:=by rintro vs H Q E ⟨x,f,L,D,es,kvs,v,d,rfl,_⟩;rfl
theorem Fh (T:Txt K mg A):Rd (oh K A) (Kw K A) ["self","count","place"]:=by
 intro vs H Q E h
 obtain⟨x,f,L,D,es,kvs,v,d,rfl,r,w,q⟩:=h
 obtain⟨dx,hx⟩:=r.ob
 refine⟨_,_,v,d,rfl,.int _,w,?_⟩
 cases hp:bW (.int (es.length:Int)) d with
 |false=>rw[hp]at q;exact Sel.no rfl q
 |true=>
  rw[hp]at q
  refine Sel.yes rfl ⟨x,dx,_,rfl,hx,rfl,x,f,L,D,es,kvs,rfl,r,?_⟩
  show Q (.bl (decide ((es.length:Int)≤(es.length:Int)))) H
  rw[decide_eq_true (Int.le_refl _)];exact q
theorem EG (K:cW)(A:Adr):Ln (nO K A) 2:=by rintro vs H Q E ⟨x,f,L,D,b,es,kvs,g,n,c,rfl,_⟩;rfl
theorem FJ (T:Txt K mg A):Rd (nO K A) (Jx K A) ["self","count"]:=by
 intro vs H Q E h
 obtain⟨x,f,L,D,b,es,kvs,g,n,c,rfl,r,hc,hn,q⟩:=h
 obtain⟨dx,hx⟩:=r.r.ob
 have l60:=r.r.le
 refine⟨x,dx,_,rfl,hx,rfl,x,dx,_,rfl,hx,rfl,x,f,L,D,es,kvs,rfl,r.r,x,f,L,D,es,kvs,_,_,rfl,r.r,by omega,by omega,by omega,Sel.f ?_⟩
 refine⟨x,dx,_,f,rfl,hx,rfl,r.s.clo,x,dx,_,rfl,hx,rfl,x,f,L,D,b,es,kvs,g,n,0,c,rfl,r,by omega,by omega,by omega,fun v kvs1 g1 H1 k1 r1 s1 ok1=>⟨bq (show 3≤1000000 by decide),fun p hp=>?_⟩⟩
 have S2:ax H1 (upd H1 p (.tup [.str "row",.int (c:Int),kV v])):=ax.upd hp
 have hp2:upd H1 p (.tup [.str "row",.int (c:Int),kV v]) p=some (.tup (([.inr "row",.inl (c:Int),v]:List Key).map kV)):=aj
 have r2:=r1.same S2 (ah _)
 dsimp only[am]
 refine gC r2.s (by omega) hp2 (qW (by omega) ok1.1) fun w H3 g3 kb s3 sub3 gv st=>?_
 exact q w kvs1 g3 H3 ((k1.trans (bM.same S2)).trans (bM.kb kb)) ((r2.call kb s3 (OA _)).same ax.rfl' (by omega)) (s1.trans sub3) (s3.small gv)
theorem CG (K:cW)(A:Adr):Ln (nR K A) 1:=by rintro vs H Q E ⟨x,f,L,D,es,kvs,rfl,_⟩;rfl
theorem Hr (T:Txt K mg A):Rd (nR K A) (Ke K A) ["self","other"]:=by
 intro vs H Q E h
 obtain⟨x,f,L,D,es,kvs,rfl,r,q⟩:=h
 obtain⟨dx,hx⟩:=r.ob
 refine⟨x,A.c_Row,dx,_,.ref f,rfl,hx,T.cl_Row,T.na_Row_stamper,rfl,fun y dy hy hdy ne=>?_⟩
 refine⟨y,dy,f,rfl,aj,fun L1 D1 H1 keep hL1 hD1 LD h1 h2 h3=>⟨rfl,?_⟩⟩
 obtain⟨L1y,hL1⟩:=bp hL1
 obtain⟨_,hL1⟩:=bp hL1
 obtain⟨D1y,hD1⟩:=bp hD1
 obtain⟨_,hD1⟩:=bp hD1
 have S1:ax H H1:=fun z o e=>keep z o (ag e hy) (by rw[ao (ag e hy),ao (ag e hdy)];exact e)
 refine⟨x,A.c_Row,dx,_,.ref L,rfl,S1 _ _ hx,T.cl_Row,T.na_Row_entries,rfl,L,_,rfl,.inl (SqL.of (S1 _ _ r.hl)),fun L2 hL2=>?_⟩
 have yL2:y≠L2:=ag h1 hL2
 refine⟨y,A.c_Row,dy,_,rfl,by rw[ao yL2];exact h1,T.cl_Row,T.na_Row_entries,by show 3<1000;decide,q y L2 D1 _ (fun z o e=>?_) hy (S1.free hL2) hD1 (Lt yL2) D1y (Lt (ag h3 hL2)) ⟨⟨dy,aj⟩,?_,?_,r.en,r.le,fun k v e=>(nomatch e)⟩⟩
 ·rw[ao (ag e hy),ao (ag (S1 _ _ e) hL2)];exact S1 _ _ e
 ·rw[ao (Lt yL2)];exact aj
 ·rw[ao D1y,ao (ag h3 hL2)];exact h3
theorem Ep (K:cW)(A:Adr):Ln (oI K A) 1:=by rintro vs H Q E ⟨f,b,g,n,rfl,_⟩;rfl
theorem EU (T:Txt K mg A):Rd (oI K A) (JZ K A) ["stamper"]:=by
 intro vs H Q E h
 obtain⟨f,b,g,n,rfl,s,hn,q⟩:=h
 refine⟨bq (show 1≤1000000 by decide),fun p1 hp1=>?_⟩
 have S1:ax H (upd H p1 (.tup [.str "void"])):=ax.upd hp1
 have s1:=s.same (ah _) S1
 generalize upd H p1 (.tup [.str "void"])=H1 at S1 s1
 refine⟨f,rfl,s1.clo,bq (show 1≤1000000 by decide),fun p0 hp0=>?_⟩
 have S2:ax H1 (upd H1 p0 (.tup [.str "void"])):=ax.upd hp0
 have s2:=s1.same (ah _) S2
 have hk2:upd H1 p0 (.tup [.str "void"]) p0=some (.tup (([.inr "void"]:List Key).map kV)):=aj
 generalize upd H1 p0 (.tup [.str "void"])=H2 at S2 s2 hk2
 dsimp only[am]
 refine gC s2 (by omega) hk2 pJ fun w H3 g3 kb s3 sub3 gv st=>⟨bq (show 3≤1000000 by decide),fun p2 hp2=>⟨bq (show 2≤1000000 by decide),fun L hL=>?_⟩⟩
 have S4:ax H3 (upd (upd H3 p2 (.tup [.str "row",.int 0,kV w])) L (.lst [.ref p1,.ref p2])):=(ax.upd hp2).trans (ax.upd hL)
 refine q L p1 p2 w g3 _ (((br.same S1).trans (br.same S2)).trans (kb.trans (br.same S4))) (s3.same (ah _) S4) sub3 aj ?_ (s3.small gv)
 rw[ao (Lt (bp hL).1)];exact aj
theorem Eo (K:cW)(A:Adr):Ln (oK K A) 1:=by rintro vs H Q E ⟨f,b,g,n,rfl,_⟩;rfl
theorem ES (T:Txt K mg A):Rd (oK K A) (Lh K A) ["stamper"]:=by
 intro vs H Q E h
 obtain⟨f,b,g,n,rfl,s,hn,q⟩:=h
 refine⟨f,rfl,s.clo,f,b,g,n,rfl,s,hn,fun L p1 p2 v g1 H1 k1 s1 sub1 hL hp2 okv=>?_⟩
 refine Ae (qs:=[.ref p1]) hL ?_
 dsimp only[am]
 refine gC s1 (by omega) (k:=[.inr "row",.inl 0,v]) hp2 (qW (c:=0) (by decide) okv.1) fun w H3 g3 kb s3 sub3 gv st=>⟨bq (show 2≤1000000 by decide),fun p hp=>?_⟩
 exact q p w g3 _ (k1.trans (kb.trans (br.same (ax.upd hp)))) (s3.same (ah _) (ax.upd hp)) (sub1.trans sub3) aj (s3.small gv)
theorem DU (K:cW)(A:Adr):Ln (gk K A) 1:=by rintro vs H Q E ⟨x,dx,rfl,_⟩;rfl
theorem Jl (T:Txt K mg A):Rd (gk K A) (Ly K A) ["self"]:=by
 intro vs H Q E h
 obtain⟨x,dx,rfl,hx,q⟩:=h
 refine .inr fun d hd=>?_
 exact⟨x,A.c_Seals,dx,[],rfl,by rw[ao (ag hx hd)];exact hx,T.cl_Seals,T.na_Seals_sealed,by decide,q d hd⟩
theorem ye {c:Nat}{mk:Key}(h:c<2^60)(ok:okP mk=true):ja (.tup [.int (c:Int),jV mk])=true:=by
 show(cV (.int (c:Int))&&dD (jV mk))=true
 rw[ko (by omega) (by omega),mM ok];rfl
theorem Bz (K:cW)(A:Adr):Ln (ku K A) 2:=by rintro vs H Q E ⟨x,d,p,n,c,v,rfl,_⟩;rfl
theorem Gg (T:Txt K mg A):Rd (ku K A) (Kr K A) ["self","head"]:=by
 intro vs H Q E h
 obtain⟨x,d,p,n,c,v,rfl,se,hn,hp,hc,ok,q⟩:=h
 obtain⟨dx,hx⟩:=se.ob
 obtain⟨kvs,hd,hl⟩:=se.di
 refine⟨_,_,rfl,.tup hp (.cons (.int _) (.cons (tM v) .nil)),ye hc ok,?_⟩
 refine⟨x,A.c_Seals,dx,_,.ref d,rfl,hx,T.cl_Seals,T.na_Seals_sealed,rfl,?_⟩
 exact .inr ⟨d,_,rfl,ir.t (k:=[.inl (c:Int),v]) hd hp (MJ (m:=50000) (by omega) (bq (n:=50001) (by decide))),q _ (Mh (eh _ _ _) (by omega))⟩
section
variable {H H' H'':Hp}{l l':List Addr}{b x z:Addr}{o:HO}
theorem KM.same (S:ax H H'):KM l H H':=fun z o _ e=>S z o e
theorem KM.trans (a:KM l H H')(c:KM l H' H''):KM l H H'':=fun z o n e=>c z o n (a z o n e)
theorem KM.sub (a:KM l H H')(h:∀z∈l,z∈l'):KM l' H H':=fun z o n e=>a z o (fun m=>n (h z m)) e
theorem KM.kb (k:br b H H')(h:b∈l):KM l H H':=fun z o n e=>k z o (fun q=>n (q▸h)) e
theorem KM.k2 (k:bM b x H H')(h:b∈l)(h2:x∈l):KM l H H':=fun z o n e=>k z o (fun q=>n (q▸h)) (fun q=>n (q▸h2)) e
theorem KM.upd (h:x∈l):KM l H (L2.upd H x o):=fun z u n e=>by
 have:z≠x:=fun q=>n (by rw[q];exact h)
 rw[ao this];exact e
def NkS (l:List Addr)(H:Hp):Prop:=∀z∈l,∀o,H z=some o→¬knO o
theorem knO.lst {xs:List V}(h:knO (.lst xs)):False:=by rcases h with⟨_,h⟩|⟨_,_,_,_,_,h⟩<;>cases h
theorem knO.dK {xs:List (Key×V)}(h:knO (.dK xs)):False:=by rcases h with⟨_,h⟩|⟨_,_,_,_,_,h⟩<;>cases h
theorem knO.house {C dx:Addr}{v:V}{fs:List (Str×V)}(h:knO (.ins C dx ((("table":Str),v)::fs))):False:=by
 rcases h with⟨_,h⟩|⟨_,_,_,_,_,h⟩
 ·cases h
 ·injection h with _ _ h;injection h with h;injection h with h;exact absurd h (by decide)
theorem NkS.nil:NkS [] H:=fun _ h=>nomatch h
theorem NkS.cons (e:H x=some o)(n:¬knO o)(h:NkS l H):NkS (x::l) H:=fun z hz u eu=>by
 rcases gV.mp hz with q|q
 ·subst q;rw[e]at eu;cases eu;exact n
 ·exact h z q u eu
theorem NkS.bd {f:Addr}{g:gOp}{n:Nat}(s:Stp A H f b g n)(h:NkS l H):NkS (b::l) H:=by
 obtain⟨kvs,e⟩:=s.bd
 exact .cons e (fun q=>q.dT) h
end
section
variable {H H':Hp}{g g':gOp}{x y f:Addr}{n n' B:Nat}{t:Kn Str}{m:Key}{l:List Addr}
theorem TbA.km (h:TbA A H g y f B t m)(k:KM l H H')(hs:NkS l H)(hy:y∉l)(sub:Sub g g'):TbA A H' g' y f B t m:=h.keep (fun u e=>k _ _ hy e) (fun z u e hu=>k _ _ (fun hz=>hs z hz u e hu) e) sub
theorem TmA.km:∀{ys:List Addr}{ts:List (Kn Str)},TmA A H g f B ys ts→KM l H H'→NkS l H→(∀y∈ys,y∉l)→Sub g g'→TmA A H' g' f B ys ts
 |_,_,.nil,_,_,_,_=>.nil
 |_,_,.cons ⟨m,r⟩ p,k,hs,hy,sub=>.cons ⟨m,r.km k hs (hy _ Mg) sub⟩ (TmA.km p k hs (fun y h=>hy y (LS _ h)) sub)
theorem cR.km {L D:Addr}{es:List Key}{kvs:List (List Key×Key)}(r:cR A H x f L D es kvs)(k:KM l H H')(h1:x∉l)(h2:L∉l)(h3:D∉l):cR A H' x f L D es kvs:=by
 obtain⟨dx,hx⟩:=r.ob
 exact⟨⟨dx,k _ _ h1 hx⟩,k _ _ h2 r.hl,k _ _ h3 r.hd,r.en,r.le,r.cs⟩
theorem SeA.km {d:Addr}(r:SeA A H x d n)(k:KM l H H')(h1:x∉l)(h2:d∉l)(hn:n≤n'):SeA A H' x d n':=by
 obtain⟨dx,hx⟩:=r.ob
 obtain⟨kvs,hd,hl⟩:=r.di
 exact⟨⟨dx,k _ _ h1 hx⟩,⟨kvs,k _ _ h2 hd,Mh hl hn⟩⟩
theorem HoA.km {a:HA}(h:HoA A H x a)(k:KM l H H')(h1:x∉l):HoA A H' x a:=by
 obtain⟨dx,hx⟩:=h
 exact⟨dx,k _ _ h1 hx⟩
theorem HsA.km {a:HA}{ts:List (Kn Str)}{ys:List Addr}(h:HsA A H g x f n B a t ts ys)(k:KM l H H')(hs:NkS l H)(sub:Sub g g')(hn:n≤n')(h1:x∉l)(h2:a.tb∉l)(h3:a.ro∉l)(h4:a.L∉l)(h5:a.D∉l)(h6:a.ml∉l)(h7:∀y∈ys,y∉l)(h8:SeA A H' a.sl a.sd n'):HsA A H' g' x f n' B a t ts ys:=by
 obtain⟨m,ta⟩:=h.ta
 obtain⟨es,kvs,r,e1,e2⟩:=h.ro
 exact⟨h.ob.km k h1,⟨m,ta.km k hs h2 sub⟩,⟨es,kvs,r.km k h3 h4 h5,e1,Mh e2 hn⟩,k _ _ h6 h.hm,h.tm.km k hs h7 sub,h8⟩
theorem HsA.same {a:HA}{ts:List (Kn Str)}{ys:List Addr}(h:HsA A H g x f n B a t ts ys)(S:ax H H')(hn:n≤n'):HsA A H' g x f n' B a t ts ys:=
 h.km (l:=[]) (KM.same S) NkS.nil Sub.rfl' hn (nofun) (nofun) (nofun) (nofun) (nofun) (nofun) (fun _ _=>nofun) (h.se.km (l:=[]) (KM.same S) (nofun) (nofun) hn)
def muO (o:HO):Prop:=(∃kvs,o=.dT kvs)∨(∃kvs,o=.dK kvs)∨(∃xs,o=.lst xs)∨∃C dx v w fs,o=HO.ins C dx ((("stamper":Str),v)::(("bits":Str),w)::fs)
def MuS (l:List Addr)(H:Hp):Prop:=∀z∈l,∃o,H z=some o∧muO o
theorem knO.mu {o:HO}(h:knO o):¬muO o:=by
 rintro(⟨_,rfl⟩|⟨_,rfl⟩|⟨_,rfl⟩|⟨_,_,_,_,_,rfl⟩)
 ·exact h.dT
 ·exact h.dK
 ·exact h.lst
 ·exact h.tab
theorem MuS.nk (h:MuS l H):NkS l H:=fun z hz o e k=>by
 obtain⟨u,e2,h2⟩:=h z hz
 rw[e]at e2;cases e2;exact k.mu h2
theorem MuS.no {o:HO}(h:MuS l H)(e:H x=some o)(n:¬muO o):x∉l:=fun hx=>by
 obtain⟨u,e2,h2⟩:=h x hx
 rw[e]at e2;cases e2;exact n h2
theorem AX {C dx:Addr}{w:Str}{v:V}{fs:List (Str×V)}(h:w≠"stamper"):¬muO (.ins C dx ((w,v)::fs)):=by
 rintro(⟨_,e⟩|⟨_,e⟩|⟨_,e⟩|⟨_,_,_,_,_,e⟩)
 ·cases e
 ·cases e
 ·cases e
 ·injection e with _ _ e;injection e with e;injection e with e;exact h e
theorem KG {C dx:Addr}{w:Str}{u v:V}{fs:List (Str×V)}(h:w≠"bits"):¬muO (.ins C dx ((("stamper":Str),u)::(w,v)::fs)):=by
 rintro(⟨_,e⟩|⟨_,e⟩|⟨_,e⟩|⟨_,_,_,_,_,e⟩)
 ·cases e
 ·cases e
 ·cases e
 ·injection e with _ _ e;injection e with _ e;injection e with e;injection e with e;exact h e
theorem HsA.noX {a:HA}{ts:List (Kn Str)}{ys:List Addr}(h:HsA A H g x f n B a t ts ys)(m:MuS l H):x∉l∧a.ro∉l∧a.sl∉l:=by
 obtain⟨dx,hx⟩:=h.ob
 obtain⟨es,kvs,r,_⟩:=h.ro
 obtain⟨dr,hr⟩:=r.ob
 obtain⟨ds,hs⟩:=h.se.ob
 exact⟨m.no hx (AX (by decide)),m.no hr (KG (by decide)),m.no hs (AX (by decide))⟩
end
theorem Da (K:cW)(A:Adr):Ln (jl K A) 3:=by rintro vs H Q E ⟨x,a,v,w,rfl,_⟩;rfl
theorem IB (T:Txt K mg A)(vs:List V)(H:Hp)(Q:VK)(E:XK)(h:jl K A vs H Q E):CJ K A E {nx:=fun _ H'=>Q .non H',rt:=Q} (L2.start ["self","key","value"] vs) H:=by
 obtain⟨x,a,v,w,rfl,⟨dx,hx⟩,⟨f,g,B,t,m,ta⟩,q⟩:=h
 obtain⟨dt,y,o,_⟩:=ta.ob
 exact⟨x,_,dx,_,_,rfl,hx,T.cl_House,T.na_House_table,rfl,a.tb,dt,_,rfl,o,rfl,q⟩
theorem CN (K:cW)(A:Adr):Ln (ly K A) 2:=by rintro vs H Q E ⟨x,a,v,rfl,_⟩;rfl
theorem Gp (T:Txt K mg A)(vs:List V)(H:Hp)(Q:VK)(E:XK)(h:ly K A vs H Q E):BU K A E {nx:=fun _ H'=>Q .non H',rt:=Q} (L2.start ["self","key"] vs) H:=by
 obtain⟨x,a,v,rfl,⟨dx,hx⟩,⟨f,g,B,t,m,ta⟩,q⟩:=h
 obtain⟨dt,y,o,_⟩:=ta.ob
 exact⟨x,_,dx,_,_,rfl,hx,T.cl_House,T.na_House_table,rfl,a.tb,dt,_,rfl,o,rfl,q⟩
theorem TmA.get {H:Hp}{g:gOp}{f:Addr}{B:Nat}:∀{ys:List Addr}{ts:List (Kn Str)}{p:Nat}{t:Kn Str},TmA A H g f B ys ts→ts[p]?=some t→∃y m,ys[p]?=some y∧TbA A H g y f B t m
 |_,_,0,_,.cons ⟨m,r⟩ _,h=>by cases h;exact⟨_,m,rfl,r⟩
 |_,_,p+1,_,.cons _ r,h=>TmA.get r (p:=p) h
theorem Bg (K:cW)(A:Adr):Ln (iy K A) 3:=by rintro vs H Q E ⟨x,f,g,n,B,a,t,ts,ys,v,w,d,e,rfl,_⟩;rfl
theorem EN (T:Txt K mg A)(vs:List V)(H:Hp)(Q:VK)(E:XK)(h:iy K A vs H Q E):Bc K A E {nx:=fun _ H'=>Q .non H',rt:=Q} (L2.start ["self","place","key"] vs) H:=by
 obtain⟨x,f,g,n,B,a,t,ts,ys,v,w,d,e,rfl,h,wd,we,q1,q2⟩:=h
 obtain⟨dx,hx⟩:=h.ob
 obtain⟨es,kvs,r,le,_⟩:=h.ro
 obtain⟨dr,hr⟩:=r.ob
 have l60:=r.le
 refine⟨x,_,dx,_,_,rfl,hx,T.cl_House,T.na_House_row,rfl,a.ro,dr,_,rfl,hr,rfl,x,_,dx,_,_,rfl,hx,T.cl_House,T.na_House_row,rfl,a.ro,dr,_,rfl,hr,rfl,a.ro,f,a.L,a.D,es,kvs,rfl,r,a.ro,f,a.L,a.D,es,kvs,v,d,rfl,r,wd,?_⟩
 rw[le]
 cases hp:bW (.int (ts.length:Int)) d with
 |false=>exact Sel.t (q1 hp)
 |true=>
  obtain⟨c,p,ec,rfl,lt,_⟩:=tZ hp
  have ec:c=ts.length:=by have:=Dat.int.inj ec;omega
  subst ec
  cases wd.int_inv
  obtain⟨t',ht⟩:∃t',ts[p]? =some t':=⟨_,LN lt⟩
  obtain⟨y,m,hy,ty⟩:=h.tm.get ht
  obtain⟨dy,y0,oy,_⟩:=ty.ob
  obtain⟨k1,k2⟩:=q2 p t' rfl ht
  refine Sel.f ⟨x,_,dx,_,_,rfl,hx,T.cl_House,T.na_House_makes,rfl,ixL (j:=p) h.hm rfl (by rw[Ml,hy];rfl) ⟨y,dy,_,rfl,oy,rfl,y,f,g,B,t',m,w,e,rfl,ty,we,k1,k2⟩⟩
theorem DY (K:cW)(A:Adr):Ln (oX K A) 1:=by rintro vs H Q E ⟨x,f,b,g,n,B,a,t,ts,ys,rfl,_⟩;rfl
theorem Iw (T:Txt K mg A):Rd (oX K A) (Jw K A) ["self","count"]:=by
 intro vs H Q E h
 obtain⟨x,f,b,g,n,B,a,t,ts,ys,rfl,h,hd,s,hn,q⟩:=h
 obtain⟨dx,hx⟩:=h.ob
 obtain⟨es,kvs,r,le,lk⟩:=h.ro
 obtain⟨dr,hr⟩:=r.ob
 have nd:=hd.nd
 simp only[Mc,gV,pz,or_false,not_or]at nd
 obtain⟨⟨n1,n2,n3,n4,n5⟩,⟨n6,n7,n8,n9⟩,⟨n10,n11,n12⟩,⟨n13,n14⟩,⟨n15,_⟩⟩:=nd
 refine⟨x,_,dx,_,_,rfl,hx,T.cl_House,T.na_House_row,rfl,a.ro,dr,_,rfl,hr,rfl,a.ro,f,a.L,a.D,es,kvs,rfl,r,?_⟩
 refine⟨x,_,dx,_,_,rfl,hx,T.cl_House,T.na_House_row,rfl,a.ro,dr,_,rfl,hr,rfl,a.ro,f,a.L,a.D,b,es,kvs,g,n,es.length,rfl,⟨r,s,Lt n3,lk⟩,ah _,by omega,fun v kvs' g' H' k2 r' sub sv=>⟨bq (show 2≤1000000 by decide),fun p hp=>?_⟩⟩
 have S1:=ax.upd (o:=.tup [V.int (es.length:Int),kV v]) hp
 have hp1:upd H' p (.tup [V.int (es.length:Int),kV v]) p=some (.tup [V.int (es.length:Int),kV v]):=aj
 rw[le]at S1 hp1⊢
 generalize upd H' p (.tup [V.int (ts.length:Int),kV v])=H1 at*
 obtain⟨kb,eb⟩:=s.bd
 have nk:NkS [b,a.D] H:=.bd s (.cons r.hd (fun q=>q.dT) .nil)
 have mu:MuS [b,a.D] H:=fun z hz=>by
  simp only[gV,pz,or_false]at hz
  rcases hz with rfl|rfl
  ·exact⟨_,eb,.inl ⟨_,rfl⟩⟩
  ·exact⟨_,r.hd,.inl ⟨_,rfl⟩⟩
 obtain⟨m1,m2,m3⟩:=h.noX mu
 have km:KM [b,a.D] H H':=KM.k2 k2 (by simp) (by simp)
 have two:∀{z:Addr},z≠b→z≠a.D→z∉[b,a.D]:=fun h1 h2 q=>by
  simp only[gV,pz,or_false]at q
  exact q.elim h1 h2
 obtain⟨m,ta⟩:=h.ta
 have h2:HsA A H' g' x f (n+200) B a t ts ys:=⟨h.ob.km km m1,⟨m,ta.km km nk (two (Lt n1) n7) sub⟩,⟨es,kvs',r'.r,le,r'.kl⟩,km _ _ (two (Lt n4) (Lt n13)) h.hm,h.tm.km km nk (fun y hy=>?_) sub,h.se.km km m3 (two (Lt n5) (Lt n14)) (by omega)⟩
 ·exact q p v g' H1 (fun z o z1 z2 e=>S1 _ _ (k2 z o z1 z2 e)) (h2.same S1 (ah _)) (r'.s.same (ah _) S1) sub hp1 sv
 ·obtain⟨i,hi⟩:=Nc.mp hy
  have hlt:i<ts.length:=by rw[←h.tm.length];exact(LX.mp hi).1
  obtain⟨y',m',hy',ty⟩:=h.tm.get (LN hlt)
  rw[hi]at hy';cases hy'
  obtain⟨dy,y0,oy,_⟩:=ty.ob
  exact two (s.nb oy fun _ z=>nomatch z) (bA oy r.hd fun z=>nomatch z)
theorem bx {z b x:Addr}(h1:z≠b)(h2:z≠x):z∉[b,x]:=fun q=>by
 simp only[gV,pz,or_false]at q
 exact q.elim h1 h2
theorem ar {z b:Addr}(h1:z≠b):z∉[b]:=fun q=>h1 (LZ.mp q)
theorem Cg (K:cW)(A:Adr):Ln (fI K A) 4:=by rintro vs H Q E ⟨x,dx,f,b,sl,sd,g,n,v,d,rfl,_⟩;rfl
theorem FI (T:Txt K mg A)(vs:List V)(H:Hp)(Q:VK)(E:XK)(h:fI K A vs H Q E):EK K A E {nx:=fun _ H'=>Q .non H',rt:=Q} (L2.start ["self","stamper","bits","seals"] vs) H:=by
 obtain⟨x,dx,f,b,sl,sd,g,n,v,d,rfl,hx,wd,s,hn,se,sdb,qE,q⟩:=h
 obtain⟨dsl,hsl⟩:=se.ob
 obtain⟨kvs0,hsd,lsd⟩:=se.di
 obtain⟨kb0,eb⟩:=s.bd
 intro tb dtb htb hdtb ne1
 have S1:=bU (o:=.own tb) (u:=.ins A.c_Table dtb []) htb hdtb ne1
 refine⟨tb,dtb,f,b,g,n,v,d,rfl,aj,wd.mono S1,s.same (ah _) S1,by omega,fun hb=>qE hb _ S1,fun B ed B1 B60 m g1 H1 k1 ta s1 sub1=>⟨rfl,?_⟩⟩
 have q:=q B ed B1 B60
 clear qE
 have K1:KM [b,x] H H1:=fun z o zn e=>k1 z o (fun w=>zn (by simp[w])) (ag e htb) (S1 _ _ e)
 have xb:x≠b:=s.nb hx fun _ z=>nomatch z
 have hx1:H1 x=some (.ins A.c_House dx []):=k1 _ _ xb (ag hx htb) (S1 _ _ hx)
 have tbx:tb≠x:=Lt (ag hx htb)
 clear k1 S1
 refine⟨x,A.c_House,dx,[],rfl,hx1,T.cl_House,T.na_House_table,by decide,?_⟩
 have ta2:TbA A (upd H1 x (.ins A.c_House dx (aK "table" (.ref tb) []))) g1 tb f B .bare m:=ta.km (l:=[x]) (KM.upd (by simp)) (.cons hx1 (fun k=>k.nil) .nil) (ar tbx) Sub.rfl'
 have s2:=s1.put (o:=.ins A.c_House dx (aK "table" (.ref tb) [])) (ah _) hx1 (fun v z=>nomatch z)
 have K2:KM [b,x] H (upd H1 x (.ins A.c_House dx (aK "table" (.ref tb) []))):=K1.trans (KM.upd (by simp))
 have hx2:upd H1 x (.ins A.c_House dx (aK "table" (.ref tb) [])) x=some (.ins A.c_House dx [("table",.ref tb)]):=aj
 generalize upd H1 x (.ins A.c_House dx (aK "table" (.ref tb) []))=H2 at*
 clear K1 hx1 ta s1
 intro ro dro hro hdro ne2
 have S2:=bU (o:=.own ro) (u:=.ins A.c_Row dro []) hro hdro ne2
 refine⟨ro,dro,f,rfl,aj,fun L D H3 k3 hL hD LD e1 e2 e3=>⟨rfl,?_⟩⟩
 have S3:ax H2 H3:=fun z o e=>k3 z o (ag e hro) (S2 _ _ e)
 obtain⟨Lro,hL⟩:=bp hL
 obtain⟨_,hL⟩:=bp hL
 obtain⟨Dro,hD⟩:=bp hD
 obtain⟨_,hD⟩:=bp hD
 have hx3:=S3 _ _ hx2
 have ta3:=ta2.same S3
 have s3:=s2.same (ah _) S3
 have K3:KM [b,x] H H3:=K2.trans (KM.same S3)
 have tbro:tb≠ro:=by obtain⟨_,_,o,_⟩:=ta2.ob;exact ag o hro
 have tbL:tb≠L:=by obtain⟨_,_,o,_⟩:=ta2.ob;exact ag o hL
 have tbD:tb≠D:=by obtain⟨_,_,o,_⟩:=ta2.ob;exact ag o hD
 have xL:x≠L:=ag hx2 hL
 have xD:x≠D:=ag hx2 hD
 have xro:x≠ro:=ag hx2 hro
 have Db:D≠b:=by obtain⟨_,eb⟩:=s2.bd;exact Lt (ag eb hD)
 have fr:∀{z:Addr},z≠x→H2 z=none→H z=none:=fun{z} zx hz=>by
  cases e:H z with
  |none=>rfl
  |some o=>
   by_cases zb:z=b
   ·subst zb;obtain⟨_,eb⟩:=s2.bd;rw[hz]at eb;cases eb
   ·rw[K2 z o (bx zb zx) e]at hz;cases hz
 have fro:=fr (Lt xro) hro
 have fL:=fr (Lt xL) hL
 have fD:=fr (Lt xD) hD
 refine⟨x,A.c_House,dx,_,rfl,hx3,T.cl_House,T.na_House_row,by show 1<1000;decide,?_⟩
 have nk3:NkS [x] H3:=.cons hx3 (fun k=>k.house) .nil
 have K3x:∀{o:HO},KM [x] H3 (upd H3 x o):=KM.upd (by simp)
 have ta4:TbA A (upd H3 x (.ins A.c_House dx (aK "row" (.ref ro) [("table",.ref tb)]))) g1 tb f B .bare m:=ta3.km K3x nk3 (ar tbx) Sub.rfl'
 have s4:=s3.put (o:=.ins A.c_House dx (aK "row" (.ref ro) [("table",.ref tb)])) (ah _) hx3 (fun v z=>by injection z with z;injection z with z;exact absurd z (by decide))
 have r3:cR A H3 ro f L D [] []:=⟨⟨dro,e1⟩,e2,e3,fun _ h=>(nomatch h),Md _,fun k v h=>(nomatch h)⟩
 have r4:cR A (upd H3 x (.ins A.c_House dx (aK "row" (.ref ro) [("table",.ref tb)]))) ro f L D [] []:=r3.km K3x (ar (Lt xro)) (ar (Lt xL)) (ar (Lt xD))
 have K4:KM [b,x] H (upd H3 x (.ins A.c_House dx (aK "row" (.ref ro) [("table",.ref tb)]))):=K3.trans (KM.upd (by simp))
 have hx4:upd H3 x (.ins A.c_House dx (aK "row" (.ref ro) [("table",.ref tb)])) x=some (.ins A.c_House dx [("table",.ref tb),("row",.ref ro)]):=aj
 generalize upd H3 x (.ins A.c_House dx (aK "row" (.ref ro) [("table",.ref tb)]))=H4 at*
 clear ta2 ta3 s2 s3 K2 K3 r3 nk3 k3 S2 S3 fr
 refine⟨Md _,fun ml hml=>?_⟩
 have S5:=ax.upd (o:=.lst []) hml
 have e5:upd H4 ml (.lst []) ml=some (.lst (([]:List Addr).map V.ref)):=aj
 have tbml:tb≠ml:=by obtain⟨_,_,o,_⟩:=ta4.ob;exact ag o hml
 have xml:x≠ml:=ag hx4 hml
 have mlL:L≠ml:=ag r4.hl hml
 have mlD:D≠ml:=ag r4.hd hml
 have mlro:ro≠ml:=by obtain⟨_,o⟩:=r4.ob;exact ag o hml
 have fml:H ml=none:=by
  cases e:H ml with
  |none=>rfl
  |some o=>
   by_cases zb:ml=b
   ·subst zb;obtain⟨_,eb⟩:=s4.bd;rw[hml]at eb;cases eb
   ·rw[K4 _ o (bx zb (Lt xml)) e]at hml;cases hml
 have ta5:=ta4.same S5
 have s5:=s4.same (ah _) S5
 have r5:=r4.same S5
 have hx5:=S5 _ _ hx4
 have K5:KM [b,x] H (upd H4 ml (.lst [])):=K4.trans (KM.same S5)
 generalize upd H4 ml (.lst [])=H5 at*
 clear ta4 s4 r4 hx4 K4 S5
 refine⟨x,A.c_House,dx,_,rfl,hx5,T.cl_House,T.na_House_makes,by show 2<1000;decide,?_⟩
 have two:∀{o u:HO},KM [x] H5 (upd (upd H5 x o) x u):=(KM.upd (by simp)).trans (KM.upd (by simp))
 refine⟨x,A.c_House,dx,_,rfl,aj,T.cl_House,T.na_House_seals,by show 3<1000;decide,?_⟩
 have nk5:NkS [x] H5:=.cons hx5 (fun k=>k.house) .nil
 have s6a:=s5.put (o:=.ins A.c_House dx (aK "makes" (.ref ml) [("table",.ref tb),("row",.ref ro)])) (ah _) hx5 (fun v z=>by injection z with _ z;cases z)
 have s6:=s6a.put (o:=.ins A.c_House dx (aK "seals" (.ref sl) (aK "makes" (.ref ml) [("table",.ref tb),("row",.ref ro)]))) (ah _) aj (fun v z=>by injection z with _ z;cases z)
 have ta6:=ta5.km (two (o:=.ins A.c_House dx (aK "makes" (.ref ml) [("table",.ref tb),("row",.ref ro)])) (u:=.ins A.c_House dx (aK "seals" (.ref sl) (aK "makes" (.ref ml) [("table",.ref tb),("row",.ref ro)])))) nk5 (ar tbx) Sub.rfl'
 have r6:=r5.km (two (o:=.ins A.c_House dx (aK "makes" (.ref ml) [("table",.ref tb),("row",.ref ro)])) (u:=.ins A.c_House dx (aK "seals" (.ref sl) (aK "makes" (.ref ml) [("table",.ref tb),("row",.ref ro)])))) (ar (Lt xro)) (ar (Lt xL)) (ar (Lt xD))
 have e6:=two (o:=.ins A.c_House dx (aK "makes" (.ref ml) [("table",.ref tb),("row",.ref ro)])) (u:=.ins A.c_House dx (aK "seals" (.ref sl) (aK "makes" (.ref ml) [("table",.ref tb),("row",.ref ro)]))) _ _ (ar (Lt xml)) e5
 have K6:KM [b,x] H (upd (upd H5 x (.ins A.c_House dx (aK "makes" (.ref ml) [("table",.ref tb),("row",.ref ro)]))) x (.ins A.c_House dx (aK "seals" (.ref sl) (aK "makes" (.ref ml) [("table",.ref tb),("row",.ref ro)])))):=K5.trans ((KM.upd (by simp)).trans (KM.upd (by simp)))
 have hx6:upd (upd H5 x (.ins A.c_House dx (aK "makes" (.ref ml) [("table",.ref tb),("row",.ref ro)]))) x (.ins A.c_House dx (aK "seals" (.ref sl) (aK "makes" (.ref ml) [("table",.ref tb),("row",.ref ro)]))) x=some (.ins A.c_House dx [("table",.ref tb),("row",.ref ro),("makes",.ref ml),("seals",.ref sl)]):=aj
 generalize upd (upd H5 x (.ins A.c_House dx (aK "makes" (.ref ml) [("table",.ref tb),("row",.ref ro)]))) x (.ins A.c_House dx (aK "seals" (.ref sl) (aK "makes" (.ref ml) [("table",.ref tb),("row",.ref ro)])))=H6 at*
 clear ta5 s5 s6a r5 hx5 K5 two nk5
 have slx:sl≠x:=fun z=>by subst z;rw[hx]at hsl;injection hsl with h;injection h with _ _ h;cases h
 have slsd:sl≠sd:=bA hsl hsd fun z=>nomatch z
 have slb:sl≠b:=s.nb hsl fun _ z=>nomatch z
 have hsl6:=K6 _ _ (bx slb slx) hsl
 have sdx:sd≠x:=fun z=>by subst z;rw[hx]at hsd;cases hsd
 have hsd6:=K6 _ _ (bx sdb sdx) hsd
 refine⟨sl,dsl,_,rfl,hsl6,rfl,f,b,g1,n+1,rfl,s6,by omega,fun p w g7 H7 k7 s7 sub7 hp sw=>?_⟩
 have nb7:∀{z:Addr}{o:HO},H6 z=some o→z≠b→H7 z=some o:=fun e h=>k7 _ _ h e
 have se7:SeA A H7 sl sd n:=⟨⟨dsl,nb7 hsl6 slb⟩,⟨kvs0,nb7 hsd6 sdb,lsd⟩⟩
 refine⟨sl,sd,p,n,0,w,rfl,se7,by omega,hp,by decide,sw.1,fun kvs hl=>?_⟩
 have hsd7:=nb7 hsd6 sdb
 have ta7:=ta6.kb s6 k7 sub7
 have nk7:NkS [sd] H7:=.cons hsd7 (fun k=>k.dT) .nil
 have K8:∀{o:HO},KM [sd] H7 (upd H7 sd o):=KM.upd (by simp)
 have nsd:∀{z:Addr}{o:HO},H z=none→z∉[sd]:=fun hz=>ar (Lt (ag hsd hz))
 have tbsd:tb≠sd:=by obtain⟨_,_,o,_⟩:=ta7.ob;exact bA o hsd7 fun z=>nomatch z
 have xsd:x≠sd:=Lt sdx
 have hx7:=nb7 hx6 xb
 have rb:∀{z:Addr},H z=none→z≠b:=fun hz=>Lt (ag eb hz)
 have r7:cR A H7 ro f L D [] []:=r6.km (l:=[b]) (KM.kb k7 (by simp)) (ar (rb fro)) (ar (rb fL)) (ar Db)
 refine q ⟨tb,ro,L,D,ml,sl,sd⟩ g7 _ (fun z o zn e=>?_) ⟨⟨dx,K8 _ _ (ar xsd) hx7⟩,⟨m,ta7.km K8 nk7 (ar tbsd) Sub.rfl'⟩,⟨[],[],r7.km K8 (nsd (o:=.lst []) fro) (nsd (o:=.lst []) fL) (nsd (o:=.lst []) fD),rfl,Md _⟩,K8 _ _ (nsd (o:=.lst []) fml) (nb7 e6 (rb fml)),.nil,⟨⟨dsl,K8 _ _ (ar slsd) (nb7 hsl6 slb)⟩,⟨kvs,aj,by omega⟩⟩⟩ rfl rfl (fun z hz=>?_) ?_ ((s7.same (by omega) ax.rfl').setD hsd7 sdb (ah _)) (sub1.trans sub7)
 ·simp only[gV,pz,or_false,not_or]at zn
  exact K8 _ _ (ar zn.2.2) (nb7 (K6 _ _ (bx zn.1 zn.2.1) e) zn.1)
 ·simp only[gV,pz,or_false]at hz
  rcases hz with rfl|rfl|rfl|rfl|rfl
  ·exact htb
  ·exact fro
  ·exact fL
  ·exact fD
  ·exact fml
 ·simp only[Mc,gV,pz,or_false,not_or,not_false_eq_true,MN,and_true]
  exact⟨⟨tbro,tbL,tbD,tbml⟩,⟨Lt Lro,Lt Dro,mlro⟩,⟨LD,mlL⟩,mlD⟩
theorem KnA.sm {H:Hp}{g:gOp}{x f b:Addr}{n:Nat}{t:Kn Str}{m:Key}(k:KnA A H g x t m)(s:Stp A H f b g n):smE m:=by
 cases k with
 |bare o ht hm=>exact s.small hm
 |leaf o ht hm=>exact s.small hm
 |fork o hl hr ht hm=>exact s.small hm
theorem TmA.ne {H:Hp}{g:gOp}{f z:Addr}{B:Nat}{o:HO}{ys:List Addr}{ts:List (Kn Str)}(h:TmA A H g f B ys ts)(e:H z=some o)(n:∀C dx fs,o≠.ins C dx fs):∀y∈ys,y≠z:=fun y hy q=>by
 obtain⟨i,hi⟩:=Nc.mp hy
 have hlt:i<ts.length:=by rw[←h.length];exact(LX.mp hi).1
 obtain⟨y',m',hy',ty⟩:=h.get (LN hlt)
 rw[hi]at hy';cases hy'
 obtain⟨dy,y0,oy,_⟩:=ty.ob
 subst q;rw[e]at oy;cases oy;exact n _ _ _ rfl
theorem TmA.some {H:Hp}{g:gOp}{f z:Addr}{B:Nat}{ys:List Addr}{ts:List (Kn Str)}(h:TmA A H g f B ys ts)(hz:H z=none):z∉ys:=fun hy=>by
 obtain⟨i,hi⟩:=Nc.mp hy
 have hlt:i<ts.length:=by rw[←h.length];exact(LX.mp hi).1
 obtain⟨y',m',hy',ty⟩:=h.get (LN hlt)
 rw[hi]at hy';cases hy'
 obtain⟨dy,y0,oy,_⟩:=ty.ob
 rw[hz]at oy;cases oy
theorem TmA.snoc {H:Hp}{g:gOp}{f y:Addr}{B:Nat}{t:Kn Str}{m:Key}:∀{ys:List Addr}{ts:List (Kn Str)},TmA A H g f B ys ts→TbA A H g y f B t m→TmA A H g f B (ys++[y]) (ts++[t])
 |_,_,.nil,h=>.cons ⟨m,h⟩ .nil
 |_,_,.cons r p,h=>.cons r (TmA.snoc p h)
theorem HaD.all {b:Addr}{a:HA}{ys:List Addr}(h:HaD b a ys):(b≠a.tb∧b≠a.L∧b≠a.D∧b≠a.ml∧b≠a.sd)∧(a.tb≠a.L∧a.tb≠a.D∧a.tb≠a.ml∧a.tb≠a.sd)∧(a.L≠a.D∧a.L≠a.ml∧a.L≠a.sd)∧(a.D≠a.ml∧a.D≠a.sd)∧a.ml≠a.sd:=by
 have nd:=h.nd
 simp only[Mc,gV,pz,or_false,not_or]at nd
 obtain⟨⟨n1,n2,n3,n4,n5⟩,⟨n6,n7,n8,n9⟩,⟨n10,n11,n12⟩,⟨n13,n14⟩,⟨n15,_⟩⟩:=nd
 exact⟨⟨n1,n2,n3,n4,n5⟩,⟨n6,n7,n8,n9⟩,⟨n10,n11,n12⟩,⟨n13,n14⟩,n15⟩
theorem Dv (K:cW)(A:Adr):Ln (nF K A) 1:=by rintro vs H Q E ⟨x,f,b,g,n,B,a,t,ts,ys,rfl,_⟩;rfl
theorem FA (T:Txt K mg A):Rd (nF K A) (KN K A) ["self","head"]:=by
 intro vs H Q E h
 obtain⟨x,f,b,g,n,B,a,t,ts,ys,rfl,h,hd,s,ln,lt,hn,q⟩:=h
 obtain⟨dx,hx⟩:=h.ob
 obtain⟨m,ta⟩:=h.ta
 obtain⟨es,kvs,r,le,lk⟩:=h.ro
 obtain⟨dr,hr⟩:=r.ob
 obtain⟨dt,yt,ot,kt⟩:=ta.ob
 obtain⟨dsl,hsl⟩:=h.se.ob
 obtain⟨kvd,hsd,lsd⟩:=h.se.di
 obtain⟨⟨bt,bL,bD,bm,bs⟩,⟨tL,tD,tm,tsd⟩,⟨LD,Lm,Ls⟩,⟨Dm,Ds⟩,ms⟩:=hd.all
 refine⟨x,_,dx,_,_,rfl,hx,T.cl_House,T.na_House_row,rfl,a.ro,dr,_,rfl,hr,rfl,x,_,dx,_,_,rfl,hx,T.cl_House,T.na_House_table,rfl,a.tb,dt,_,rfl,ot,rfl,a.tb,f,g,B,t,m,rfl,ta,a.ro,f,a.L,a.D,es,kvs,m,rfl,r,kt.sm s,by omega,?_⟩
 have K1:∀{o:HO},KM [a.L] H (upd H a.L o):=KM.upd (by simp)
 have nk1:NkS [a.L] H:=.cons r.hl (fun k=>k.lst) .nil
 have s1:Stp A (upd H a.L (.lst ((es++[m]).map kV))) f b g n:=s.setL r.hl
 have ta1:TbA A (upd H a.L (.lst ((es++[m]).map kV))) g a.tb f B t m:=ta.km K1 nk1 (ar tL) Sub.rfl'
 have nx:x≠a.L:=bA hx r.hl fun z=>nomatch z
 have nr:a.ro≠a.L:=bA hr r.hl fun z=>nomatch z
 have r1:cR A (upd H a.L (.lst ((es++[m]).map kV))) a.ro f a.L a.D (es++[m]) kvs:=⟨⟨dr,K1 _ _ (ar nr) hr⟩,aj,K1 _ _ (ar (Lt LD)) r.hd,fun e he=>(Mu.mp he).elim (r.en e) (fun z=>by rw[LZ.mp z];exact kt.sm s),by rw[Mi];show es.length+1≤60;omega,r.cs⟩
 have hm1:=K1 (o:=.lst ((es++[m]).map kV)) _ _ (ar (Lt Lm)) h.hm
 have tm1:TmA A (upd H a.L (.lst ((es++[m]).map kV))) g f B ys ts:=h.tm.km K1 nk1 (fun y hy=>ar (h.tm.ne r.hl (fun _ _ _ z=>nomatch z) y hy)) Sub.rfl'
 have se1:SeA A (upd H a.L (.lst ((es++[m]).map kV))) a.sl a.sd n:=h.se.km K1 (ar (bA hsl r.hl fun z=>nomatch z)) (ar (Lt Ls)) (ah _)
 have hx1:=K1 (o:=.lst ((es++[m]).map kV)) _ _ (ar nx) hx
 have ke:KM [b,a.L,a.D,a.ml,a.sd] H (upd H a.L (.lst ((es++[m]).map kV))):=KM.upd (by simp)
 have fr1:∀{z:Addr},upd H a.L (.lst ((es++[m]).map kV)) z=none→H z=none:=fun hz=>(bp hz).2
 generalize upd H a.L (.lst ((es++[m]).map kV))=H1 at*
 obtain⟨dt1,yt1,ot1,_⟩:=ta1.ob
 refine⟨x,_,dx,_,_,rfl,hx1,T.cl_House,T.na_House_makes,rfl,.inl ⟨rfl,_,SqL.of hm1⟩,x,_,dx,_,_,rfl,hx1,T.cl_House,T.na_House_table,rfl,a.tb,dt1,_,rfl,ot1,rfl,a.tb,f,b,g,n,B,t,m,rfl,⟨ta1,s1,ln⟩,by omega,fun y g2 H2 kb hy ts2 ta2 sub2=>?_⟩
 have nb:∀{z:Addr}{o:HO},H1 z=some o→b≠z→H2 z=some o:=fun e h=>kb _ _ (Lt h) e
 have hm2:=nb hm1 bm
 have hx2:=nb hx1 (Lt (s1.nb hx1 fun _ z=>nomatch z))
 have K2:KM [b] H1 H2:=KM.kb kb (by simp)
 have nk2:NkS [b] H1:=.bd s1 .nil
 have ll:ys.length<60:=by rw[h.tm.length];omega
 refine⟨a.ml,_,.ref y,rfl,rfl,hm2,by rw[LJ];exact ft (by omega),?_⟩
 have ey:ys.map V.ref++[V.ref y]=(ys++[y]).map V.ref:=by rw[MI];rfl
 rw[ey]
 have K3:∀{o:HO},KM [a.ml] H2 (upd H2 a.ml o):=KM.upd (by simp)
 have nk3:NkS [a.ml] H2:=.cons hm2 (fun k=>k.lst) .nil
 have tm2:TmA A H2 g2 f B ys ts:=tm1.km K2 nk2 (fun z hz=>ar (fun e=>by obtain⟨kk,eb⟩:=s1.bd;exact tm1.ne eb (fun _ _ _ z=>nomatch z) z hz e)) sub2
 have tm2':=tm2.snoc ta2
 have r2:cR A H2 a.ro f a.L a.D (es++[m]) kvs:=by
  obtain⟨_,hr1⟩:=r1.ob
  exact r1.km K2 (ar (s1.nb hr1 fun _ z=>nomatch z)) (ar (Lt bL)) (ar (Lt bD))
 have se2:SeA A H2 a.sl a.sd n:=by
  obtain⟨_,e⟩:=se1.ob
  exact se1.km K2 (ar (s1.nb e fun _ z=>nomatch z)) (ar (Lt bs)) (ah _)
 obtain⟨_,hr2⟩:=r2.ob
 obtain⟨_,hsl2⟩:=se2.ob
 have h3:HsA A (upd H2 a.ml (.lst ((ys++[y]).map V.ref))) g2 x f (n+1) B a t (ts++[t]) (ys++[y]):=
  ⟨⟨dx,K3 _ _ (ar (bA hx2 hm2 fun z=>nomatch z)) hx2⟩,⟨m,ts2.ta.km K3 nk3 (ar tm) Sub.rfl'⟩,⟨es++[m],kvs,r2.km K3 (ar (bA hr2 hm2 fun z=>nomatch z)) (ar Lm) (ar Dm),by rw[Mi,Mi,le];rfl,by omega⟩,aj,tm2'.km K3 nk3 (fun z hz=>ar (tm2'.ne hm2 (fun _ _ _ z=>nomatch z) z hz)) Sub.rfl',se2.km K3 (ar (bA hsl2 hm2 fun z=>nomatch z)) (ar (Lt ms)) (by omega)⟩
 have s3:Stp A (upd H2 a.ml (.lst ((ys++[y]).map V.ref))) f b g2 (n+1):=ts2.s.setL hm2
 have hyf:H y=none:=fr1 hy
 have tby:a.tb≠y:=ag ot hyf
 have ke3:KM [b,a.L,a.D,a.ml,a.sd] H (upd H2 a.ml (.lst ((ys++[y]).map V.ref))):=ke.trans ((KM.kb kb (by simp)).trans (KM.upd (by simp)))
 have hx3:upd H2 a.ml (.lst ((ys++[y]).map V.ref)) x=some (.ins A.c_House dx [("table",.ref a.tb),("row",.ref a.ro),("makes",.ref a.ml),("seals",.ref a.sl)]):=K3 _ _ (ar (bA hx2 hm2 fun z=>nomatch z)) hx2
 generalize upd H2 a.ml (.lst ((ys++[y]).map V.ref))=H3 at*
 have hd3:HaD b a (ys++[y]):=⟨hd.nd,fun z=>(Mu.mp z).elim hd.ny fun z=>tby (LZ.mp z)⟩
 refine⟨x,dx,_,rfl,hx3,rfl,x,f,b,g2,n+1,B,a,t,ts++[t],ys++[y],rfl,h3,hd3,s3,by omega,fun p v g4 H4 k4 h4 s4 sub4 hp sv=>?_⟩
 obtain⟨dx4,hx4⟩:=h4.ob
 obtain⟨dsl4,hsl4⟩:=h4.se.ob
 obtain⟨kvd4,hsd4,lsd4⟩:=h4.se.di
 obtain⟨es4,kvs4,r4,le4,lk4⟩:=h4.ro
 obtain⟨dr4,hr4⟩:=r4.ob
 have tl:(ts++[t]).length=ts.length+1:=by rw[Mi];rfl
 rw[tl]at hp
 refine⟨x,_,dx4,_,_,rfl,hx4,T.cl_House,T.na_House_seals,rfl,a.sl,dsl4,_,rfl,hsl4,rfl,a.sl,a.sd,p,n+1+200,ts.length+1,v,rfl,h4.se,by omega,hp,by omega,sv.1,fun kvs5 hl5=>?_⟩
 have K5:∀{o:HO},KM [a.sd] H4 (upd H4 a.sd o):=KM.upd (by simp)
 have nk5:NkS [a.sd] H4:=.cons hsd4 (fun k=>k.dT) .nil
 refine q p y v g4 _ ((ke3.trans (KM.k2 k4 (by simp) (by simp))).trans (KM.upd (by simp))) hyf (h4.km K5 nk5 Sub.rfl' (by omega) (ar (bA hx4 hsd4 fun z=>nomatch z)) (ar tsd) (ar (bA hr4 hsd4 fun z=>nomatch z)) (ar Ls) (ar Ds) (ar ms) (fun z hz=>ar (h4.tm.ne hsd4 (fun _ _ _ z=>nomatch z) z hz)) ⟨⟨dsl4,K5 _ _ (ar (bA hsl4 hsd4 fun z=>nomatch z)) hsl4⟩,⟨kvs5,aj,by omega⟩⟩) ((s4.same (by omega) ax.rfl').setD hsd4 (Lt bs) (ah _)) (sub2.trans sub4) (K5 _ _ (ar (bA hp hsd4 fun z=>nomatch z)) (by rw[hp];rfl))
theorem KM.none {l:List Addr}{H H':Hp}{z:Addr}(k:KM l H H')(hz:H' z=none)(h:z∉l):H z=none:=by
 cases e:H z with
 |none=>rfl
 |some o=>rw[k z o h e]at hz;cases hz
theorem dw {z b x y:Addr}(h1:z≠b)(h2:z≠x)(h3:z≠y):z∉[b,x,y]:=fun q=>by
 simp only[gV,pz,or_false]at q
 exact q.elim h1 (Or.elim · h2 h3)
theorem Cj (K:cW)(A:Adr):Ln (nN K A) 1:=by rintro vs H Q E ⟨x,f,b,g,n,B,a,t,ts,ys,rfl,_⟩;rfl
theorem GA (T:Txt K mg A):Rd (nN K A) (Jt K A) ["self","other"]:=by
 intro vs H Q E h
 obtain⟨x,f,b,g,n,B,a,t,ts,ys,rfl,h,hd,s,ln,hn,q⟩:=h
 obtain⟨dx,hx⟩:=h.ob
 obtain⟨m,ta⟩:=h.ta
 obtain⟨es,kvs,r,le,lk⟩:=h.ro
 obtain⟨dr,hr⟩:=r.ob
 obtain⟨dt,yt,ot,kt⟩:=ta.ob
 obtain⟨dsl,hsl⟩:=h.se.ob
 obtain⟨kvd,hsd,lsd⟩:=h.se.di
 obtain⟨⟨bt,bL,bD,bm,bs⟩,⟨tL,tD,tm,tsd⟩,⟨LD,Lm,Ls⟩,⟨Dm,Ds⟩,ms⟩:=hd.all
 refine⟨x,_,dx,_,_,rfl,hx,T.cl_House,T.na_House_table,rfl,a.tb,_,dt,_,_,rfl,ot,T.cl_Table,T.na_Table_stamper,rfl,x,_,dx,_,_,rfl,hx,T.cl_House,T.na_House_table,rfl,a.tb,_,dt,_,_,rfl,ot,T.cl_Table,T.na_Table_bits,rfl,x,_,dx,_,_,rfl,hx,T.cl_House,T.na_House_seals,rfl,fun x' dx' hx' hdx' ne=>?_⟩
 have S0:=bU (o:=.own x') (u:=.ins A.c_House dx' []) hx' hdx' ne
 refine⟨x',dx',f,b,a.sl,a.sd,g,n,_,.int (B:Int),rfl,aj,.int _,s.same (ah _) S0,by omega,h.se.km (l:=[]) (KM.same S0) (nofun) (nofun) (ah _),Lt bs,fun hb=>?_,fun B' eB _ _ a1 g1 H1 k1 h1' esl esd fr nd s1 sub1=>⟨rfl,?_⟩⟩
 ·rw[hJ ta.B1 ta.B60]at hb;cases hb
 have eB:B'=B:=by have:=Dat.int.inj eB;omega
 subst eB
 have K1:KM [b,x',a.sd] H H1:=fun z o zn e=>k1 z o zn (S0 _ _ e)
 have xx:x≠x':=ag hx hx'
 have xb:x≠b:=s.nb hx fun _ z=>nomatch z
 have nx':∀{z:Addr}{o:HO},H z=some o→z≠x':=fun e=>ag e hx'
 have sdx':=nx' hsd
 obtain⟨kb,eb⟩:=s.bd
 have nk1:NkS [b,x',a.sd] H:=.bd s (fun z hz u eu=>by
  rcases gV.mp hz with q|q
  ·subst q;rw[hx']at eu;cases eu
  ·rw[LZ.mp q,hsd]at eu;cases eu;exact fun k=>k.dT)
 have se1:SeA A H1 a.sl a.sd (n+5):=by have:=h1'.se;rw[esl,esd]at this;exact this
 have h1:HsA A H1 g1 x f (n+5) B' a t ts ys:=h.km K1 nk1 sub1 (by omega) (dw xb xx (bA hx hsd fun z=>nomatch z)) (dw (Lt bt) (nx' ot) tsd) (dw (s.nb hr fun _ z=>nomatch z) (nx' hr) (bA hr hsd fun z=>nomatch z)) (dw (Lt bL) (nx' r.hl) Ls) (dw (Lt bD) (nx' r.hd) Ds) (dw (Lt bm) (nx' h.hm) ms) (fun y hy=>dw (fun e=>h.tm.ne eb (fun _ _ _ z=>nomatch z) y hy e) (fun e=>h.tm.some hx' (e▸hy)) (fun e=>h.tm.ne hsd (fun _ _ _ z=>nomatch z) y hy e)) se1
 obtain⟨dy,hx'1⟩:=h1'.ob
 obtain⟨dx1,hx1⟩:=h1.ob
 obtain⟨m1,ta1⟩:=h1.ta
 obtain⟨dt1,yt1,ot1,kt1⟩:=ta1.ob
 have x'b:x'≠b:=s1.nb hx'1 fun _ z=>nomatch z
 have fr1:∀{z:Addr},H1 z=none→H z=none:=fun hz=>K1.none hz (dw (fun e=>by obtain⟨_,e2⟩:=s1.bd;rw[←e,hz]at e2;cases e2) (fun e=>by rw[e,hx'1]at hz;cases hz) (fun e=>by obtain⟨_,e2,_⟩:=se1.di;rw[e,e2]at hz;cases hz))
 refine⟨x,_,dx1,_,_,rfl,hx1,T.cl_House,T.na_House_table,rfl,a.tb,dt1,_,rfl,ot1,rfl,a.tb,f,b,g1,n+5,B',t,m1,rfl,⟨ta1,s1,ln⟩,by omega,fun y g2 H2 kb2 hy ts2 ta2 sub2=>?_⟩
 have K2:KM [b] H1 H2:=KM.kb kb2 (by simp)
 have nk2:NkS [b] H1:=.bd s1 .nil
 obtain⟨es1,kvs1,r1,le1,lk1⟩:=h1.ro
 obtain⟨dr1,hr1⟩:=r1.ob
 obtain⟨dsl1,hsl1⟩:=se1.ob
 obtain⟨kb1,eb1⟩:=s1.bd
 have h2:HsA A H2 g2 x f (n+6) B' a t ts ys:=h1.km K2 nk2 sub2 (by omega) (ar xb) (ar (Lt bt)) (ar (s1.nb hr1 fun _ z=>nomatch z)) (ar (Lt bL)) (ar (Lt bD)) (ar (Lt bm)) (fun y hy=>ar (fun e=>h1.tm.ne eb1 (fun _ _ _ z=>nomatch z) y hy e)) (se1.km K2 (ar (s1.nb hsl1 fun _ z=>nomatch z)) (ar (Lt bs)) (by omega))
 have hx'2:=K2 _ _ (ar x'b) hx'1
 have yx':y≠x':=Lt (ag hx'1 hy)
 have fy:=fr1 hy
 refine⟨x',A.c_House,dy,_,rfl,hx'2,T.cl_House,T.na_House_table,by show 4<1000;decide,?_⟩
 have K3:∀{o:HO},KM [x'] H2 (upd H2 x' o):=KM.upd (by simp)
 have nk3:NkS [x'] H2:=.cons hx'2 (fun k=>k.house) .nil
 have nh:∀{z:Addr}{o:HO}{HH:Hp},ax H H→H z=some o→z∉[x']:=fun _ e=>ar (nx' e)
 have old:∀{HH HH':Hp}{gg:gOp}{N:Nat},HsA A HH gg x f N B' a t ts ys→KM [x'] HH HH'→NkS [x'] HH→HsA A HH' gg x f N B' a t ts ys:=fun{HH HH' gg N} hh k nk=>by
  have e7:∀y∈ys,y∉[x']:=fun y hy=>ar (fun e=>h.tm.some hx' (e▸hy))
  exact hh.km k nk Sub.rfl' (ah _) (ar xx) (ar (nx' ot)) (ar (nx' hr)) (ar (nx' r.hl)) (ar (nx' r.hd)) (ar (nx' h.hm)) e7 (hh.se.km k (ar (nx' hsl)) (ar sdx') (ah _))
 have h3:=old h2 (K3 (o:=.ins A.c_House dy (aK "table" (.ref y) [("table",.ref a1.tb),("row",.ref a1.ro),("makes",.ref a1.ml),("seals",.ref a1.sl)]))) nk3
 have ta3:=ta2.km (K3 (o:=.ins A.c_House dy (aK "table" (.ref y) [("table",.ref a1.tb),("row",.ref a1.ro),("makes",.ref a1.ml),("seals",.ref a1.sl)]))) nk3 (ar yx') Sub.rfl'
 have s3:=ts2.s.put (o:=.ins A.c_House dy (aK "table" (.ref y) [("table",.ref a1.tb),("row",.ref a1.ro),("makes",.ref a1.ml),("seals",.ref a1.sl)])) (ah _) hx'2 (fun v z=>by injection z with _ z;cases z)
 have KA3:KM [b,x',a.sd] H (upd H2 x' (.ins A.c_House dy (aK "table" (.ref y) [("table",.ref a1.tb),("row",.ref a1.ro),("makes",.ref a1.ml),("seals",.ref a1.sl)]))):=K1.trans ((KM.kb kb2 (by simp)).trans (KM.upd (by simp)))
 have hx'3:upd H2 x' (.ins A.c_House dy (aK "table" (.ref y) [("table",.ref a1.tb),("row",.ref a1.ro),("makes",.ref a1.ml),("seals",.ref a1.sl)])) x'=some (.ins A.c_House dy [("table",.ref y),("row",.ref a1.ro),("makes",.ref a1.ml),("seals",.ref a1.sl)]):=aj
 generalize upd H2 x' (.ins A.c_House dy (aK "table" (.ref y) [("table",.ref a1.tb),("row",.ref a1.ro),("makes",.ref a1.ml),("seals",.ref a1.sl)]))=H3 at*
 clear h2 ta2 ts2 nk3 K3 hx'2
 obtain⟨dx3,hx3⟩:=h3.ob
 obtain⟨es3,kvs3,r3,le3,lk3⟩:=h3.ro
 obtain⟨dr3,hr3⟩:=r3.ob
 refine⟨x,_,dx3,_,_,rfl,hx3,T.cl_House,T.na_House_row,rfl,a.ro,dr3,_,rfl,hr3,rfl,a.ro,f,a.L,a.D,es3,kvs3,rfl,r3,fun ro' L' D' H4 S4 hro' hL' hD' n1 n2 n3 r4'=>?_⟩
 have hx'4:=S4 _ _ hx'3
 have fr3:∀{z:Addr},H3 z=none→H z=none:=fun hz=>KA3.none hz (dw (fun e=>by obtain⟨_,e2⟩:=s3.bd;rw[←e,hz]at e2;cases e2) (fun e=>by rw[e,hx'3]at hz;cases hz) (fun e=>by obtain⟨_,e2,_⟩:=h3.se.di;rw[e,e2]at hz;cases hz))
 have x'ro:x'≠ro':=ag hx'3 hro'
 have x'L:x'≠L':=ag hx'3 hL'
 have x'D:x'≠D':=ag hx'3 hD'
 obtain⟨_,_,oy3,_⟩:=ta3.ob
 have yro:=ag oy3 hro'
 have yL:=ag oy3 hL'
 have yD:=ag oy3 hD'
 have fro:=fr3 hro'
 have fL:=fr3 hL'
 have fD:=fr3 hD'
 refine⟨x',A.c_House,dy,_,rfl,hx'4,T.cl_House,T.na_House_row,by show 4<1000;decide,?_⟩
 have K5:∀{o:HO},KM [x'] H4 (upd H4 x' o):=KM.upd (by simp)
 have nk5:NkS [x'] H4:=.cons hx'4 (fun k=>k.house) .nil
 have h5:=old (h3.same S4 (ah _)) (K5 (o:=.ins A.c_House dy (aK "row" (.ref ro') [("table",.ref y),("row",.ref a1.ro),("makes",.ref a1.ml),("seals",.ref a1.sl)]))) nk5
 have ta5:=(ta3.same S4).km (K5 (o:=.ins A.c_House dy (aK "row" (.ref ro') [("table",.ref y),("row",.ref a1.ro),("makes",.ref a1.ml),("seals",.ref a1.sl)]))) nk5 (ar yx') Sub.rfl'
 have r5:=r4'.km (K5 (o:=.ins A.c_House dy (aK "row" (.ref ro') [("table",.ref y),("row",.ref a1.ro),("makes",.ref a1.ml),("seals",.ref a1.sl)]))) (ar (Lt x'ro)) (ar (Lt x'L)) (ar (Lt x'D))
 have s5:=(s3.same (ah _) S4).put (o:=.ins A.c_House dy (aK "row" (.ref ro') [("table",.ref y),("row",.ref a1.ro),("makes",.ref a1.ml),("seals",.ref a1.sl)])) (ah _) hx'4 (fun v z=>by injection z with _ z;cases z)
 have KA5:KM [b,x',a.sd] H (upd H4 x' (.ins A.c_House dy (aK "row" (.ref ro') [("table",.ref y),("row",.ref a1.ro),("makes",.ref a1.ml),("seals",.ref a1.sl)]))):=KA3.trans ((KM.same S4).trans (KM.upd (by simp)))
 have hx'5:upd H4 x' (.ins A.c_House dy (aK "row" (.ref ro') [("table",.ref y),("row",.ref a1.ro),("makes",.ref a1.ml),("seals",.ref a1.sl)])) x'=some (.ins A.c_House dy [("table",.ref y),("row",.ref ro'),("makes",.ref a1.ml),("seals",.ref a1.sl)]):=aj
 generalize upd H4 x' (.ins A.c_House dy (aK "row" (.ref ro') [("table",.ref y),("row",.ref a1.ro),("makes",.ref a1.ml),("seals",.ref a1.sl)]))=H5 at*
 clear h3 ta3 r4' s3 KA3 nk5 K5 hx'4 hx'3 S4
 obtain⟨dx5,hx5⟩:=h5.ob
 refine⟨x,_,dx5,_,_,rfl,hx5,T.cl_House,T.na_House_makes,rfl,a.ml,_,rfl,.inl (SqL.of h5.hm),fun ml' hml'=>?_⟩
 have S6:=ax.upd (o:=.lst (ys.map V.ref)) hml'
 have e6:upd H5 ml' (.lst (ys.map V.ref)) ml'=some (.lst (ys.map V.ref)):=aj
 have hx'6:=S6 _ _ hx'5
 have x'm:x'≠ml':=ag hx'5 hml'
 obtain⟨_,_,oy5,_⟩:=ta5.ob
 have ym:=ag oy5 hml'
 have Lm':=ag r5.hl hml'
 have Dm':=ag r5.hd hml'
 have fml:H ml'=none:=KA5.none hml' (dw (fun e=>by obtain⟨_,e2⟩:=s5.bd;rw[←e,hml']at e2;cases e2) (Lt x'm) (fun e=>by obtain⟨_,e2,_⟩:=h5.se.di;rw[e,e2]at hml';cases hml'))
 refine⟨x',A.c_House,dy,_,rfl,hx'6,T.cl_House,T.na_House_makes,by show 4<1000;decide,?_⟩
 have K7:∀{o:HO},KM [x'] (upd H5 ml' (.lst (ys.map V.ref))) (upd (upd H5 ml' (.lst (ys.map V.ref))) x' o):=KM.upd (by simp)
 have nk7:NkS [x'] (upd H5 ml' (.lst (ys.map V.ref))):=.cons hx'6 (fun k=>k.house) .nil
 have h7:=old (h5.same S6 (ah _)) (K7 (o:=.ins A.c_House dy (aK "makes" (.ref ml') [("table",.ref y),("row",.ref ro'),("makes",.ref a1.ml),("seals",.ref a1.sl)]))) nk7
 have ta7:=(ta5.same S6).km (K7 (o:=.ins A.c_House dy (aK "makes" (.ref ml') [("table",.ref y),("row",.ref ro'),("makes",.ref a1.ml),("seals",.ref a1.sl)]))) nk7 (ar yx') Sub.rfl'
 have r7:=(r5.same S6).km (K7 (o:=.ins A.c_House dy (aK "makes" (.ref ml') [("table",.ref y),("row",.ref ro'),("makes",.ref a1.ml),("seals",.ref a1.sl)]))) (ar (Lt x'ro)) (ar (Lt x'L)) (ar (Lt x'D))
 have s7:=(s5.same (ah _) S6).put (o:=.ins A.c_House dy (aK "makes" (.ref ml') [("table",.ref y),("row",.ref ro'),("makes",.ref a1.ml),("seals",.ref a1.sl)])) (ah _) hx'6 (fun v z=>by injection z with _ z;cases z)
 have e7:=K7 (o:=.ins A.c_House dy (aK "makes" (.ref ml') [("table",.ref y),("row",.ref ro'),("makes",.ref a1.ml),("seals",.ref a1.sl)])) _ _ (ar (Lt x'm)) e6
 have KA7:KM [b,x',a.sd] H (upd (upd H5 ml' (.lst (ys.map V.ref))) x' (.ins A.c_House dy (aK "makes" (.ref ml') [("table",.ref y),("row",.ref ro'),("makes",.ref a1.ml),("seals",.ref a1.sl)]))):=KA5.trans ((KM.same S6).trans (KM.upd (by simp)))
 have hx'7:upd (upd H5 ml' (.lst (ys.map V.ref))) x' (.ins A.c_House dy (aK "makes" (.ref ml') [("table",.ref y),("row",.ref ro'),("makes",.ref a1.ml),("seals",.ref a1.sl)])) x'=some (.ins A.c_House dy [("table",.ref y),("row",.ref ro'),("makes",.ref ml'),("seals",.ref a.sl)]):=by rw[←esl];exact aj
 generalize upd (upd H5 ml' (.lst (ys.map V.ref))) x' (.ins A.c_House dy (aK "makes" (.ref ml') [("table",.ref y),("row",.ref ro'),("makes",.ref a1.ml),("seals",.ref a1.sl)]))=H7 at*
 have KF:KM [b,a.sd] H H7:=fun z o zn e=>KA7 z o (fun w=>by
  simp only[gV,pz,or_false,not_or]at w zn
  rcases w with w|w|w
  ·exact zn.1 w
  ·exact nx' e w
  ·exact zn.2 w) e
 refine q x' ⟨y,ro',L',D',ml',a.sl,a.sd⟩ g2 H7 KF (h7.same ax.rfl' (by omega)) ⟨⟨dy,hx'7⟩,⟨m1,ta7⟩,⟨es3,[],r7,le3,Md _⟩,e7,h7.tm,h7.se.km (l:=[]) (KM.same ax.rfl') (nofun) (nofun) (by omega)⟩ rfl rfl (fun z hz=>?_) ?_ (s7.same (by omega) ax.rfl') (sub1.trans sub2)
 ·simp only[gV,pz,or_false]at hz
  rcases hz with rfl|rfl|rfl|rfl|rfl|rfl
  ·exact hx'
  ·exact fy
  ·exact fro
  ·exact fL
  ·exact fD
  ·exact fml
 ·simp only[Mc,gV,pz,or_false,not_or,not_false_eq_true,MN,and_true]
  exact⟨⟨yL,yD,ym⟩,⟨n3,Lm'⟩,Dm'⟩
def pe:Str:="abcdefghijklmnopqrstuvwxyz ABC0123;:"
theorem Al:pe.length=36∧pe.cps.toList.length=36∧pe.cps.toList.all (·<128)=true:=by decide+kernel
theorem BP (K:cW)(A:Adr):Ln (nX K A) 1:=by rintro vs H Q E ⟨c,rfl,_⟩;rfl
theorem Jn (T:Txt K mg A):Rd (nX K A) (Lr K A) ["_law_number","_law_letters","_law_size"]:=by
 intro vs H Q E h
 obtain⟨c,rfl,q⟩:=h
 obtain⟨g1,g2,g3⟩:=Al
 refine⟨bq (show 4≤1000000 by decide),fun p hp=>⟨by decide,AS aj (by omega) (by show c%4<((4:Nat):Int);omega) fun v hv=>?_⟩⟩
 have S1:=ax.upd (o:=.lst [V.int 0,.int 1,.int 2,.int 5]) hp
 generalize upd H p (.lst [V.int 0,.int 1,.int 2,.int 5])=H1 at*
 obtain⟨i,rfl,i0,i5⟩:∃i:Int,v=.int i∧0≤i∧i≤5:=by
  simp only[gV,pz,or_false]at hv
  rcases hv with rfl|rfl|rfl|rfl
  ·exact⟨_,rfl,by decide,by decide⟩
  ·exact⟨_,rfl,by decide,by decide⟩
  ·exact⟨_,rfl,by decide,by decide⟩
  ·exact⟨_,rfl,by decide,by decide⟩
 have wb:∀b:Bool,0≤(if b then(1:Int)else 0)∧(if b then(1:Int)else 0)≤1:=fun b=>by cases b<;>decide
 refine⟨⟨by decide,by decide⟩,by decide,?_⟩
 obtain⟨w0,w1⟩:=wb (decide (c/4%16=9))
 refine⟨pG w0 (by omega),?_⟩
 show tN K A _ [some (.int c),some (.str pe),some (.int (i+55*(if decide (c/4%16=9)=true then(1:Int)else 0)))] H1
 generalize (if decide (c/4%16=9)=true then(1:Int)else 0)=w at*
 obtain⟨n,hn⟩:∃n:Nat,i+55*w=(n:Int):=⟨(i+55*w).toNat,by omega⟩
 rw[hn]
 have n60:n≤60:=by omega
 refine⟨rfl,(n:Int),rfl,by omega,by omega,?_⟩
 rw[OW]
 intro D hD
 refine rj (eK.range (lo:=0) (n:=n)) (fun i ys H2=>∃zs:List Str,ys=zs.map V.str∧zs.length=i∧(∀z∈zs,z.length=1∧cf z=true)∧H2=upd H1 D (.lst ys)) (fun _ _ _ _ _=>trivial) ⟨[],rfl,rfl,(fun _ h=>nomatch h),rfl⟩ (fun i ys H2 hi ⟨zs,e1,e2,e3,e4⟩=>?_) ?_
 ·subst e4
  refine Cz ⟨⟨by decide,by decide⟩,pG (by omega) (by omega),by decide,?_⟩
  generalize (c/64+_:Int)=w
  obtain⟨cc,hcc⟩:=kZ (xs:=pe.cps.toList) (i:=w%36) (by omega) (by rw[g2];omega)
  refine .inl (.inr (.inr ⟨_,_,cc,rfl,rfl,by rw[g1];exact bq (by decide),hcc,?_⟩))
  have hyl:ys.length=i:=by rw[e1,LJ,e2]
  refine⟨aj,by rw[hyl];exact ft (by omega),CWd.next hi ⟨zs++[⟨#[cc]⟩],by rw[e1,MI];rfl,by rw[Mi,e2];rfl,fun z hz=>?_,eV⟩⟩
  rcases Mu.mp hz with h|h
  ·exact e3 z h
  ·rw[LZ.mp h]
   refine⟨rfl,?_⟩
   obtain⟨j,_,hj,_⟩:=eU hcc
   have:=of_decide_eq_true (Na.mp g3 cc (Ma hj))
   unfold cf
   simp
   omega
 ·rintro ys H2 ⟨zs,rfl,e2,e3,rfl⟩
  have hl:(Txt.join "" zs).length=zs.length:=xj zs fun z hz=>(e3 z hz).1
  refine⟨_,_,zs,rfl,rfl,aj,?_,q _ _ (S1.trans (ax.upd hD)) ⟨wA fun z hz=>(e3 z hz).2,by rw[hl];omega⟩⟩
  have e0:(("":String):Str).length=0:=by decide
  rw[e0,jO zs fun z hz=>(e3 z hz).1]
  omega
theorem EC (K:cW)(A:Adr):Ln (lF K A) 3:=by rintro vs H Q E ⟨x,f,g,n,B,a,t,ts,ys,v,w,d,e,rfl,_⟩;rfl
theorem Im (T:Txt K mg A):Rd (lF K A) (Le K A) ["_law_house","_law_place","_law_key_here","_law_refused"]:=by
 intro vs H Q E h
 obtain⟨x,f,g,n,B,a,t,ts,ys,v,w,d,e,rfl,h,wd,we,np,q⟩:=h
 obtain⟨dx,hx⟩:=h.ob
 refine⟨x,dx,_,rfl,hx,rfl,x,f,g,n,B,a,t,ts,ys,v,w,d,e,rfl,h,wd,we,fun _=>⟨_,rfl,T.eo_NoPlace,true,T.sb_NoPlace_NoPlace,Sel.t (q _ (.refl H))⟩,fun p t' ed ht=>?_⟩
 have:=(LX.mp ht).1
 obtain⟨es,kvs,r,le,_⟩:=h.ro
 have:=r.le
 rw[ed,hU (by omega) (by omega)]at np;cases np
theorem BD (K:cW)(A:Adr):Ln (nJ K A) 3:=by rintro vs H Q E ⟨x,f,b,g,n,B,a,t,ts,ys,key,rfl,_⟩;rfl
theorem FY (T:Txt K mg A):Rd (nJ K A) (Ld K A) ["_law_house","_law_key_here","_law_there","_law_refused"]:=by
 intro vs H Q E h
 obtain⟨x,f,b,g,n,B,a,t,ts,ys,key,rfl,h,s,ln,hn,hk,q⟩:=h
 obtain⟨dx,hx⟩:=h.ob
 obtain⟨m,ta⟩:=h.ta
 have no:∀{k:Nat},Dat.int key=.int (k:Int)→k<2^B→False:=fun ed h=>by rw[ed,fQ h]at hk;cases hk
 refine⟨x,dx,_,rfl,hx,rfl,x,a,_,_,rfl,h.ob,⟨f,g,B,t,m,ta⟩,a.tb,f,b,g,n,B,t,m,_,_,.int key,.int 5,rfl,⟨ta,s,ln⟩,hn,.int _,.int _,rfl,fun _=>?_,fun key' ek hk'=>(no ek hk').elim⟩
 refine⟨_,rfl,T.eo_NoKey,true,T.sb_NoKey_NoKey,Sel.t ?_⟩
 refine⟨x,dx,_,rfl,hx,rfl,x,a,_,rfl,h.ob,⟨f,g,B,t,m,ta⟩,a.tb,f,b,g,n,B,t,m,_,.int key,rfl,⟨ta,s,ln⟩,hn,.int _,fun _=>?_,fun key' ek hk'=>(no ek hk').elim⟩
 refine⟨_,rfl,T.eo_NoKey,true,T.sb_NoKey_NoKey,Sel.t ?_⟩
 refine⟨x,dx,_,rfl,hx,rfl,x,f,g,n,B,a,t,ts,ys,_,_,.int 0,.int key,rfl,h,.int _,.int _,fun np=>?_,fun p t' ep ht=>⟨fun _=>?_,fun key' ek hk'=>(no ek hk').elim⟩⟩
 ·have e0:ts.length=0:=by
   rcases Nat.eq_zero_or_pos ts.length with z|z
   ·exact z
   ·obtain⟨es,kvs,r,le,_⟩:=h.ro
    have:=r.le
    rw[show(Dat.int 0)=.int ((0:Nat):Int)from rfl,hU (by omega) (by omega)]at np;cases np
  refine⟨_,rfl,T.eo_NoPlace,false,T.sb_NoPlace_NoKey,Sel.f ⟨true,T.sb_NoPlace_NoPlace,Sel.t ?_⟩⟩
  rw[e0]
  exact q _ (.refl H)
 ·have e0:¬ts.length=0:=by have:=(LX.mp ht).1;omega
  refine⟨_,rfl,T.eo_NoKey,true,T.sb_NoKey_NoKey,Sel.t ?_⟩
  exact q _ (.refl H)
theorem CT (K:cW)(A:Adr):Ln (nK K A) 2:=by rintro vs H Q E ⟨x,f,b,g,n,B,a,t,ts,ys,w,e,rfl,_⟩;rfl
theorem FK (T:Txt K mg A):Rd (nK K A) (JX K A) ["_law_house","_law_text","_law_refused"]:=by
 intro vs H Q E h
 obtain⟨x,f,b,g,n,B,a,t,ts,ys,w,e,rfl,h,s,ln,hn,we,ok,hv,q⟩:=h
 obtain⟨dx,hx⟩:=h.ob
 obtain⟨m,ta⟩:=h.ta
 refine⟨x,dx,_,rfl,hx,rfl,x,a,_,_,rfl,h.ob,⟨f,g,B,t,m,ta⟩,a.tb,f,b,g,n,B,t,m,_,w,.int 0,e,rfl,⟨ta,s,ln⟩,hn,.int _,we,ok,fun hk=>?_,fun key' ek hk'=>⟨fun _=>?_,fun z ez hz=>?_⟩⟩
 ·rw[show(Dat.int 0)=.int ((0:Nat):Int)from rfl,fQ (NJ B)]at hk;cases hk
 ·exact⟨_,rfl,T.eo_NoValue,true,T.sb_NoValue_NoValue,Sel.t (q _ (.refl H))⟩
 ·subst ez;rw[qX hz]at hv;cases hv
theorem Bp (K:cW)(A:Adr):Ln (jc K A) 1:=by rintro vs H Q E ⟨v,d,rfl,_⟩;rfl
theorem GO (T:Txt K mg A):Rd (jc K A) (KH K A) ["_law_bits","_law_refused"]:=by
 intro vs H Q E h
 obtain⟨v,d,rfl,hd,hb,tb,q⟩:=h
 obtain⟨ps,hP,_⟩:=id tb
 refine⟨rfl,tb,fun f b g H1 k1 tb1 hb0 s1 sl dsl hsl hdsl ne1=>?_⟩
 have S1:=bU (o:=.own sl) (u:=.ins A.c_Seals dsl []) hsl hdsl ne1
 refine⟨sl,dsl,rfl,aj,fun sd hsd=>⟨rfl,?_⟩⟩
 have S2:ax H1 (upd (upd (upd (upd H1 dsl (.own sl)) sl (.ins A.c_Seals dsl [])) sd (.dT [])) sl (.ins A.c_Seals dsl [("sealed",.ref sd)])):=fun z o e=>by
  rw[ao (ag e hsl),ao (ag (S1 _ _ e) hsd)];exact S1 _ _ e
 have sdsl:sd≠sl:=(bp hsd).1
 have sdb:sd≠b:=by obtain⟨_,eb⟩:=s1.bd;exact Lt (ag (S1 _ _ eb) hsd)
 have se2:SeA A (upd (upd (upd (upd H1 dsl (.own sl)) sl (.ins A.c_Seals dsl [])) sd (.dT [])) sl (.ins A.c_Seals dsl [("sealed",.ref sd)])) sl sd 0:=⟨⟨dsl,aj⟩,⟨[],by rw[ao sdsl];exact aj,ah _⟩⟩
 generalize upd (upd (upd (upd H1 dsl (.own sl)) sl (.ins A.c_Seals dsl [])) sd (.dT [])) sl (.ins A.c_Seals dsl [("sealed",.ref sd)])=H2 at*
 intro x dx hx hdx ne
 have S:=bU (o:=.own x) (u:=.ins A.c_House dx []) hx hdx ne
 have S3:=S2.trans S
 refine⟨x,dx,f,b,sl,sd,g,0,v,d,rfl,aj,(hd.keep (cr.dat hP k1)).mono S3,s1.same (ah _) S3,by decide,se2.km (l:=[]) (KM.same S) (nofun) (nofun) (ah _),sdb,fun _ H4 S4=>?_,fun B ed B1 B60=>?_⟩
 ·refine⟨_,rfl,T.eo_NoBits,true,T.sb_NoBits_NoBits,Sel.t ?_⟩
  have S5:=S3.trans S4
  exact q _ (k1.trans fun z o e _=>S5 z o e) (tb1.keep fun z o e _=>S5 z o e)
 ·subst ed
  rw[hJ B1 B60]at hb;cases hb
section
variable {H H':Hp}{g g':gOp}{f b:Addr}{n n' B i:Nat}{s:SA}{t t':Kn Str}{ts:List (Kn Str)}{kn kn':List (Nat×Str)}{l:List Addr}
theorem DdA.km:∀{ds:List Addr}{ts:List (Kn Str)},DdA H B ds ts→KM l H H'→(∀d∈ds,d∉l)→DdA H' B ds ts
 |_,_,.nil,_,_=>.nil
 |_,_,.cons ⟨kn,e,k⟩ r,km,h=>.cons ⟨kn,km _ _ (h _ Mg) e,k⟩ (DdA.km r km fun d hd=>h d (LS _ hd))
theorem DdA.get {ds:List Addr}:∀{ts:List (Kn Str)}{ds:List Addr}{p:Nat}{t:Kn Str},DdA H B ds ts→ts[p]?=some t→∃d kn,ds[p]?=some d∧H d=some (.dK (dOf kn))∧Kno B kn t
 |_,_,0,_,.cons ⟨kn,e,k⟩ _,h=>by cases h;exact⟨_,kn,rfl,e,k⟩
 |_,_,p+1,_,.cons _ r,h=>DdA.get (ds:=ds) r (p:=p) h
theorem DdA.snoc {d:Addr}(e:H d=some (.dK (dOf kn)))(k:Kno B kn t):∀{ds:List Addr}{ts:List (Kn Str)},DdA H B ds ts→DdA H B (ds++[d]) (ts++[t])
 |_,_,.nil=>.cons ⟨kn,e,k⟩ .nil
 |_,_,.cons r p=>.cons r (DdA.snoc e k p)
theorem SdA.km (h:SdA A H g f n B s i t ts kn)(k:KM l H H')(nk:NkS l H)(sub:Sub g g')(hn:n≤n')(hm:∀z∈im s,z∉l)(h2:s.a.tb∉l)(h4:s.a.L∉l)(h5:s.a.D∉l)(h6:s.a.ml∉l)(h7:s.k∉l)(h8:s.l∉l)(se:SeA A H' s.a.sl s.a.sd n'):SdA A H' g' f n' B s i t ts kn:=
 ⟨h.hs.km k nk sub hn (hm _ (by simp[im])) h2 (hm _ (by simp[im])) h4 h5 h6 (fun y hy=>hm y (by simp[im,hy])) se,k _ _ h7 h.hk,h.kno,k _ _ h8 h.hl,h.dd.km k fun d hd=>hm d (by simp[im,hd]),h.ln,h.lt⟩
theorem SdA.same (h:SdA A H g f n B s i t ts kn)(S:ax H H')(hn:n≤n'):SdA A H' g f n' B s i t ts kn:=
 h.km (l:=[]) (KM.same S) NkS.nil Sub.rfl' hn (fun _ _=>nofun) (nofun) (nofun) (nofun) (nofun) (nofun) (nofun) (h.hs.se.km (l:=[]) (KM.same S) (nofun) (nofun) hn)
theorem Own.ne (ow:Own b s){y z:Addr}(hz:z∈mu b s)(hy:y∈Rs.im s):y≠z:=fun e=>ow.im z hz (e▸hy)
theorem Own.all (ow:Own b s):(b≠s.a.tb∧b≠s.a.L∧b≠s.a.D∧b≠s.a.ml∧b≠s.a.sd∧b≠s.k∧b≠s.l)∧(s.a.tb≠s.a.L∧s.a.tb≠s.a.D∧s.a.tb≠s.a.ml∧s.a.tb≠s.a.sd∧s.a.tb≠s.k∧s.a.tb≠s.l)∧(s.a.L≠s.a.D∧s.a.L≠s.a.ml∧s.a.L≠s.a.sd∧s.a.L≠s.k∧s.a.L≠s.l)∧(s.a.D≠s.a.ml∧s.a.D≠s.a.sd∧s.a.D≠s.k∧s.a.D≠s.l)∧(s.a.ml≠s.a.sd∧s.a.ml≠s.k∧s.a.ml≠s.l)∧(s.a.sd≠s.k∧s.a.sd≠s.l)∧s.k≠s.l:=by
 have nd:=ow.nd
 unfold mu at nd
 simp only[Mc,gV,pz,or_false,not_or]at nd
 obtain⟨n1,n2,n3,n4,n5,n6,n7,_⟩:=nd
 exact⟨n1,n2,n3,n4,n5,n6,n7⟩
theorem Own.had (ow:Own b s):HaD b s.a s.ys:=by
 refine⟨?_,fun hy=>ow.im s.a.tb (by simp[mu]) (by simp[Rs.im,hy])⟩
 have:=ow.nd
 exact this.sublist (MT _ (MT _ (MT _ (MT _ (MT _ (MT _ (List.nil_sublist _)))))))
theorem SdA.mus (h:SdA A H g f n B s i t ts kn)(st:Stp A H f b g' n'):MuS (mu b s) H:=fun z hz=>by
 obtain⟨m,ta⟩:=h.hs.ta
 obtain⟨dt,yt,ot,_⟩:=ta.ob
 obtain⟨es,kvs,r,_⟩:=h.hs.ro
 obtain⟨kvd,hsd,_⟩:=h.hs.se.di
 obtain⟨kb,eb⟩:=st.bd
 unfold mu at hz
 simp only[gV,pz,or_false]at hz
 rcases hz with rfl|rfl|rfl|rfl|rfl|rfl|rfl|rfl
 ·exact⟨_,eb,.inl ⟨_,rfl⟩⟩
 ·exact⟨_,ot,.inr (.inr (.inr ⟨_,_,_,_,_,rfl⟩))⟩
 ·exact⟨_,r.hl,.inr (.inr (.inl ⟨_,rfl⟩))⟩
 ·exact⟨_,r.hd,.inl ⟨_,rfl⟩⟩
 ·exact⟨_,h.hs.hm,.inr (.inr (.inl ⟨_,rfl⟩))⟩
 ·exact⟨_,hsd,.inl ⟨_,rfl⟩⟩
 ·exact⟨_,h.hk,.inr (.inl ⟨_,rfl⟩)⟩
 ·exact⟨_,h.hl,.inr (.inr (.inl ⟨_,rfl⟩))⟩
theorem SdA.ts' (h:SdA A H g f n B s i t ts kn):(bg t).length≤90:=by
 obtain⟨m,ta⟩:=h.hs.ta
 rw[h.kno.len ta.wf];have:=h.kno.ln;omega
theorem SdA.setK (h:SdA A H g f n B s i t ts kn)(ow:Own b s)(st:Stp A H f b g n):HsA A (upd H s.k (.dK (dOf kn'))) g s.x f n B s.a t ts s.ys∧upd H s.k (.dK (dOf kn')) s.l=some (.lst (s.ds.map V.ref))∧DdA (upd H s.k (.dK (dOf kn'))) B s.ds ts∧Stp A (upd H s.k (.dK (dOf kn'))) f b g n:=by
 obtain⟨⟨_,_,_,_,_,bk,_⟩,⟨_,_,_,_,tk,_⟩,⟨_,_,_,Lk,_⟩,⟨_,_,Dk,_⟩,⟨_,mk,_⟩,⟨sk,_⟩,kl⟩:=ow.all
 have hkm:s.k∈mu b s:=by simp[mu]
 have K1:∀{o:HO},KM [s.k] H (upd H s.k o):=KM.upd (by simp)
 have nk:NkS [s.k] H:=.cons h.hk (fun k=>k.dK) .nil
 have e:∀z∈im s,z∉[s.k]:=fun z hz=>ar (ow.ne hkm hz)
 refine⟨h.hs.km K1 nk Sub.rfl' (ah _) (e _ (by simp[im])) (ar tk) (e _ (by simp[im])) (ar Lk) (ar Dk) (ar mk) (fun y hy=>e y (by simp[im,hy])) (h.hs.se.km K1 (e _ (by simp[im])) (ar sk) (ah _)),K1 _ _ (ar (Lt kl)) h.hl,h.dd.km K1 fun d hd=>e d (by simp[im,hd]),?_⟩
 refine st.keep (ah _) fun z u ez hz=>?_
 rw[ao fun q=>?_]
 ·exact ez
 ·subst q
  rw[h.hk]at ez;cases ez
  rcases hz with⟨_,q⟩|⟨_,_,q⟩|⟨_,_,_,q⟩<;>cases q
theorem HsA.tab {x:Addr}{a:HA}{ys:List Addr}{m:Key}(h:HsA A H g x f n B a t ts ys)(hd:HaD b a ys)(st:Stp A H f b g n)(k:bM b a.tb H H')(ta:TbA A H' g' a.tb f B t' m)(sub:Sub g g')(hn:n≤n'):HsA A H' g' x f n' B a t' ts ys∧KM [b,a.tb] H H':=by
 obtain⟨⟨bt,bL,bD,bm,bs⟩,⟨tL,tD,tm,tsd⟩,_⟩:=hd.all
 obtain⟨m0,ta0⟩:=h.ta
 obtain⟨dt,yt,ot,_⟩:=ta0.ob
 obtain⟨dx,hx⟩:=h.ob
 obtain⟨es,kvs,r,le,lk⟩:=h.ro
 obtain⟨dr,hr⟩:=r.ob
 obtain⟨dsl,hsl⟩:=h.se.ob
 obtain⟨kb,eb⟩:=st.bd
 have km:KM [b,a.tb] H H':=KM.k2 k (by simp) (by simp)
 have nk:NkS [b,a.tb] H:=.bd st (.cons ot (fun k=>k.tab) .nil)
 have mu:MuS [b,a.tb] H:=fun z hz=>by
  simp only[gV,pz,or_false]at hz
  rcases hz with rfl|rfl
  ·exact⟨_,eb,.inl ⟨_,rfl⟩⟩
  ·exact⟨_,ot,.inr (.inr (.inr ⟨_,_,_,_,_,rfl⟩))⟩
 obtain⟨m1,m2,m3⟩:=h.noX mu
 have e7:∀y∈ys,y∉[b,a.tb]:=fun y hy=>bx (fun e=>h.tm.ne eb (fun _ _ _ z=>nomatch z) y hy e) (fun e=>hd.ny (e▸hy))
 exact⟨⟨h.ob.km km m1,⟨m,ta⟩,⟨es,kvs,r.km km m2 (bx (Lt bL) (Lt tL)) (bx (Lt bD) (Lt tD)),le,Mh lk hn⟩,km _ _ (bx (Lt bm) (Lt tm)) h.hm,h.tm.km km nk e7 sub,h.se.km km m3 (bx (Lt bs) (Lt tsd)) hn⟩,km⟩
end
theorem BX (K:cW)(A:Adr):Ln (oq K A) 3:=by rintro vs H Q E ⟨f,b,g,n,B,i,s,t,ts,kn,key,rfl,_⟩;rfl
theorem Fk (T:Txt K mg A):Rd (oq K A) (Kz K A) ["_law_house","_law_known","_law_key_here","_law_refused","_law_found"]:=by
 intro vs H Q E h
 obtain⟨f,b,g,n,B,i,s,t,ts,kn,key,rfl,h,ow,st,hi,hn,hkey,q⟩:=h
 obtain⟨dx,hx⟩:=h.hs.ob
 obtain⟨m,ta⟩:=h.hs.ta
 obtain⟨⟨_,_,_,_,_,bk,bl⟩,⟨_,_,_,_,tk,tl⟩,_,_,_,_,kl⟩:=ow.all
 have dg:cF H s.k (.int (key:Int)) ((aD B key t).map V.str):=by
  rw[←h.kno.eq,←gG];exact cF.k (k:=.inl (key:Int)) h.hk
 refine⟨s.x,dx,_,rfl,hx,rfl,s.x,s.a,_,rfl,h.hs.ob,⟨f,g,B,t,m,ta⟩,s.a.tb,f,b,g,n,B,t,m,_,.int (key:Int),rfl,⟨ta,st,h.ts'⟩,by omega,.int _,fun h=>(by rw[fQ hkey]at h;cases h),fun key' ek hk'=>?_⟩
 have:key'=key:=by have:=Dat.int.inj ek;omega
 subst this
 refine⟨fun hf=>?_,fun z hf m2 g2 H2 k2 ta2 s2 sub2=>?_⟩
 ·refine⟨_,rfl,T.eo_Missing,true,T.sb_Missing_Missing,Sel.t ?_⟩
  refine .inl ⟨s.k,_,rfl,dg,?_⟩
  rw[hf]
  have h':=h.same ax.rfl' (show n≤n+220 by omega)
  exact Sel.yes rfl (q t kn g H (KM.same ax.rfl') ⟨h'.hs,h'.hk,h'.kno,h'.hl,h'.dd,by have:=h.ln;omega,by have:=h.lt;omega⟩ (st.same (by omega) ax.rfl') Sub.rfl')
 ·obtain⟨hs2,km2⟩:=h.hs.tab ow.had st k2 ta2 sub2 (show n≤n+65 by omega)
  have hk2:=km2 _ _ (bx (Lt bk) (Lt tk)) h.hk
  have dg2:cF H2 s.k (.int (key':Int)) ((aD B key' t).map V.str):=by
   rw[←h.kno.eq,←gG];exact cF.k (k:=.inl (key':Int)) hk2
  refine .inl ⟨s.k,_,rfl,dg2,?_⟩
  rw[hf]
  refine Sel.no rfl (Sel.yes rfl ⟨kK hk2,s.k,_,.inl (key':Int),.str z,rfl,rfl,hk2,by rw[gG,h.kno.eq,hf];rfl,some z,rfl,?_⟩)
  rw[wG]
  obtain⟨kno3,l3⟩:=h.kno.drop (key:=key') ta.wf
  have mb:∀d∈s.ds,d∉[b,s.a.tb]:=fun d hd=>bx (ow.ne (by simp[mu]) (by simp[im,hd])) (ow.ne (by simp[mu]) (by simp[im,hd]))
  have h2:SdA A H2 g2 f (n+65) B s i (aQ B key' t) ts kn→True:=fun _=>trivial
  have hl2:=km2 _ _ (bx (Lt bl) (Lt tl)) h.hl
  have dd2:=h.dd.km km2 mb
  have hkm:s.k∈mu b s:=by simp[mu]
  have K3:KM [s.k] H2 (upd H2 s.k (.dK (dOf (gy kn key')))):=KM.upd (by simp)
  have nk3:NkS [s.k] H2:=.cons hk2 (fun k=>k.dK) .nil
  obtain⟨_,⟨_,_,_,_,tk',_⟩,⟨_,_,_,Lk,_⟩,⟨_,_,Dk,_⟩,⟨_,mk,_⟩,⟨sk,_⟩,_⟩:=ow.all
  have e:∀z∈im s,z∉[s.k]:=fun z hz=>ar (ow.ne hkm hz)
  have hs3:=hs2.km K3 nk3 Sub.rfl' (show n+65≤n+220 by omega) (e _ (by simp[im])) (ar tk') (e _ (by simp[im])) (ar Lk) (ar Dk) (ar mk) (fun y hy=>e y (by simp[im,hy])) (hs2.se.km K3 (e _ (by simp[im])) (ar sk) (by omega))
  have s3:Stp A (upd H2 s.k (.dK (dOf (gy kn key')))) f b g2 (n+220):=s2.keep (by omega) fun z u ez hz=>by
   rw[ao fun q=>?_]
   ·exact ez
   ·subst q
    rw[hk2]at ez;cases ez
    rcases hz with⟨_,q⟩|⟨_,_,q⟩|⟨_,_,_,q⟩<;>cases q
  have ln:=h.ln
  have lt:=h.lt
  exact q _ _ g2 _ ((km2.sub fun z hz=>by simp only[gV,pz,or_false]at hz;rcases hz with rfl|rfl<;>simp[mu]).trans (KM.upd hkm)) ⟨hs3,aj,kno3,K3 _ _ (ar (Lt kl)) hl2,dd2.km K3 fun d hd=>e d (by simp[im,hd]),by omega,by omega⟩ s3 sub2
theorem Em (K:cW)(A:Adr):Ln (lA K A) 3:=by rintro vs H Q E ⟨f,b,g,n,B,i,s,t,ts,kn,rfl,_⟩;rfl
theorem IV (T:Txt K mg A):Rd (lA K A) (JK K A) ["_law_house","_law_known","_law_makes","_law_head"]:=by
 intro vs H Q E h
 obtain⟨f,b,g,n,B,i,s,t,ts,kn,rfl,h,ow,st,hi,hn,q⟩:=h
 have ln:=h.ln
 have lt:=h.lt
 have dl:=h.dd.length
 obtain⟨⟨_,bL,bD,bm,bs,bk,bl⟩,⟨tL,tD,tm,tsd,tk,tl⟩,⟨_,_,_,Lk,Ll⟩,⟨_,_,Dk,Dl⟩,⟨_,mk,ml⟩,⟨sk,sl⟩,kl⟩:=ow.all
 refine⟨.inl ⟨rfl,_,SqL.of h.hl⟩,s.k,_,rfl,h.hk,fun d hd=>?_⟩
 have S1:=ax.upd (o:=.dK (dOf kn)) hd
 have ed:upd H d (.dK (dOf kn)) d=some (.dK (dOf kn)):=aj
 have h1:=h.same S1 (ah _)
 have st1:=st.same (ah _) S1
 have dne:∀{z:Addr}{o:HO},H z=some o→d≠z:=fun e=>Lt (ag e hd)
 generalize upd H d (.dK (dOf kn))=H1 at*
 refine⟨s.l,_,.ref d,rfl,rfl,h1.hl,by rw[LJ];exact ft (by omega),?_⟩
 have ey:s.ds.map V.ref++[V.ref d]=(s.ds++[d]).map V.ref:=by rw[MI];rfl
 rw[ey]
 have hlm:s.l∈mu b s:=by simp[mu]
 have K2:∀{o:HO},KM [s.l] H1 (upd H1 s.l o):=KM.upd (by simp)
 have nk2:NkS [s.l] H1:=.cons h1.hl (fun k=>k.lst) .nil
 have e:∀z∈im s,z∉[s.l]:=fun z hz=>ar (ow.ne hlm hz)
 have hs2:HsA A (upd H1 s.l (.lst ((s.ds++[d]).map V.ref))) g s.x f n B s.a t ts s.ys:=h1.hs.km K2 nk2 Sub.rfl' (ah _) (e _ (by simp[im])) (ar tl) (e _ (by simp[im])) (ar Ll) (ar Dl) (ar ml) (fun y hy=>e y (by simp[im,hy])) (h1.hs.se.km K2 (e _ (by simp[im])) (ar sl) (ah _))
 have hk2:=K2 (o:=.lst ((s.ds++[d]).map V.ref)) _ _ (ar kl) h1.hk
 have ed2:=K2 (o:=.lst ((s.ds++[d]).map V.ref)) _ _ (ar (dne h.hl)) ed
 have dd2:DdA (upd H1 s.l (.lst ((s.ds++[d]).map V.ref))) B s.ds ts:=h1.dd.km K2 fun d hd=>e d (by simp[im,hd])
 have hl2:upd H1 s.l (.lst ((s.ds++[d]).map V.ref)) s.l=some (.lst ((s.ds++[d]).map V.ref)):=aj
 have st2:=st1.setL (o:=.lst ((s.ds++[d]).map V.ref)) h1.hl
 have km2:KM (mu b s) H (upd H1 s.l (.lst ((s.ds++[d]).map V.ref))):=(KM.same S1).trans (KM.upd hlm)
 have fr2:∀{z:Addr},upd H1 s.l (.lst ((s.ds++[d]).map V.ref)) z=none→H z=none:=fun hz=>by
  have:=(bp hz).2
  cases eq:H _ with
  |none=>rfl
  |some o=>rw[S1 _ _ eq]at this;cases this
 generalize upd H1 s.l (.lst ((s.ds++[d]).map V.ref))=H2 at*
 obtain⟨dx,hx⟩:=hs2.ob
 refine⟨s.x,dx,_,rfl,hx,rfl,s.x,f,b,g,n,B,s.a,t,ts,s.ys,rfl,hs2,ow.had,st2,h.ts',by omega,by omega,fun p y v g3 H3 k3 hy hs3 st3 sub3 hp=>?_⟩
 have ty:tyN H3 (.ref p)=some "tuple":=by unfold tyN;dsimp only;rw[hp]
 obtain⟨dm,em,om⟩:d≠b∧d≠s.a.L∧True:=by
  obtain⟨kb,eb⟩:=st.bd
  obtain⟨es,kvs,r,_⟩:=h.hs.ro
  exact⟨dne eb,dne r.hl,trivial⟩
 have n5:∀{z:Addr},z≠b→z≠s.a.L→z≠s.a.D→z≠s.a.ml→z≠s.a.sd→z∉[b,s.a.L,s.a.D,s.a.ml,s.a.sd]:=fun h1 h2 h3 h4 h5 q=>by
  simp only[gV,pz,or_false]at q
  rcases q with q|q|q|q|q
  ·exact h1 q
  ·exact h2 q
  ·exact h3 q
  ·exact h4 q
  ·exact h5 q
 have hl3:=k3 _ _ (n5 (Lt bl) (Lt Ll) (Lt Dl) (Lt ml) (Lt sl)) hl2
 refine⟨by decide,"tuple",ty,Sel.t (.inl (.inr (.inl ⟨_,SqT.of hp,Sel.yes rfl ?_⟩)))⟩
 refine ixT (j:=0) hp rfl rfl ⟨_,rfl,Sel.t (ixT (j:=0) hp rfl rfl (.inl (.inl ⟨_,SqL.of hl3,?_⟩)))⟩
 rw[LJ]
 show Q (.bl (decide (((ts.length:Int)+1)=((s.ds++[d]).length:Int)))) H3
 rw[decide_eq_true (by rw[Mi,dl];show(ts.length:Int)+1=((ts.length+1:Nat):Int);omega)]
 have e5:∀z∈im s,z∉[b,s.a.L,s.a.D,s.a.ml,s.a.sd]:=fun z hz=>n5 (ow.ne (by simp[mu]) hz) (ow.ne (by simp[mu]) hz) (ow.ne (by simp[mu]) hz) (ow.ne (by simp[mu]) hz) (ow.ne (by simp[mu]) hz)
 obtain⟨es,kvs,r,_⟩:=h.hs.ro
 obtain⟨kvd,hsd,_⟩:=h.hs.se.di
 have d5:d∉[b,s.a.L,s.a.D,s.a.ml,s.a.sd]:=n5 dm em (dne r.hd) (dne h.hs.hm) (dne hsd)
 refine q [d] [y] t (ts++[t]) kn g3 H3 (fun z hz=>?_) (km2.trans (k3.sub fun z hz=>?_)) ⟨hs3.same ax.rfl' (by omega),k3 _ _ (n5 (Lt bk) (Lt Lk) (Lt Dk) (Lt mk) (Lt sk)) hk2,h.kno,hl3,(dd2.km k3 fun d hd=>e5 d (by simp[im,hd])).snoc (k3 _ _ d5 ed2) h.kno,by omega,by rw[Mi];show ts.length+1≤i+1;omega⟩ (st3.same (by omega) ax.rfl') sub3
 ·simp only[Mu,LZ]at hz
  rcases hz with rfl|rfl
  ·exact hd
  ·exact fr2 hy
 ·simp only[gV,pz,or_false]at hz
  rcases hz with rfl|rfl|rfl|rfl|rfl<;>simp[mu]
theorem Ck (s:SA):({s with ds:=s.ds++[],ys:=s.ys++[]}:SA)=s:=by cases s;simp
theorem DeQ.nil {H:Hp}{f b:Addr}{g:gOp}{n B i:Nat}{s:SA}{Q:VK}(q:DeQ A H f b g n B i s Q)(t':Kn Str)(ts':List (Kn Str))(kn':List (Nat×Str))(g':gOp)(H':Hp)(k:KM (mu b s) H H')(h:SdA A H' g' f (n+220) B s (i+1) t' ts' kn')(st:Stp A H' f b g' (n+220))(sub:Sub g g'):Q (.bl true) H':=
 q [] [] t' ts' kn' g' H' (fun _ h=>nomatch h) k (by rw[Ck];exact h) st sub
theorem SdA.up {H:Hp}{f:Addr}{g:gOp}{n n' B i j:Nat}{s:SA}{t:Kn Str}{ts:List (Kn Str)}{kn:List (Nat×Str)}(h:SdA A H g f n B s i t ts kn)(hn:n≤n')(hi:i≤j):SdA A H g f n' B s j t ts kn:=by
 have h':=h.same ax.rfl' hn
 exact⟨h'.hs,h'.hk,h'.kno,h'.hl,h'.dd,Mh h.ln hi,Mh h.lt hi⟩
theorem SdA.BB {H:Hp}{f:Addr}{g:gOp}{n B i:Nat}{s:SA}{t:Kn Str}{ts:List (Kn Str)}{kn:List (Nat×Str)}(h:SdA A H g f n B s i t ts kn):1≤B∧B≤60∧oA B kn:=by
 obtain⟨m,ta⟩:=h.hs.ta
 exact⟨ta.B1,ta.B60,h.kno.keys ta.wf⟩
theorem ua {H:Hp}{f:Addr}{g:gOp}{n B i:Nat}{s:SA}{t:Kn Str}{ts:List (Kn Str)}{kn:List (Nat×Str)}{p key:Nat}(h:SdA A H g f n B s i t ts kn)(hi:i≤60)(hp:p<ts.length)(hkey:key<2^B):∃(t':Kn Str)(d:Addr)(kn':List (Nat×Str)),ts[p]?=some t'∧(s.ds.map V.ref)[p]?=some (.ref d)∧H d=some (.dK (dOf kn'))∧cF H d (.int (key:Int)) ((aD B key t').map V.str):=by
 have ht:=LN hp
 obtain⟨d,kn',hd,ed,kno⟩:=h.dd.get (ds:=[]) ht
 exact⟨_,d,kn',ht,by rw[Ml,hd];rfl,ed,by rw[←kno.eq,←gG];exact cF.k (k:=.inl (key:Int)) ed⟩
theorem Bo (K:cW)(A:Adr):Ln (kQ K A) 6:=by rintro vs H Q E ⟨f,b,g,n,B,i,s,t,ts,kn,c,nb,rfl,_⟩;rfl
theorem FW (T:Txt K mg A):Rd (kQ K A) (Lj K A) ["_law_house","_law_known","_law_makes","_law_cell","_law_number","_law_bits","_law_key_here","_law_text","_law_due","_law_place"]:=by
 intro vs H Q E h
 obtain⟨f,b,g,n,B,i,s,t,ts,kn,c,nb,rfl,h,ow,st,hi,hn,q⟩:=h
 obtain⟨B1,B60,kb⟩:=h.BB
 have ln:=h.ln
 have lt:=h.lt
 refine⟨⟨by decide,by decide⟩,s.k,c,nb/5,B,kn,rfl,h.hk,by omega,kb,B1,B60,fun key H1 S1 hkey=>⟨by decide,?_⟩⟩
 have h1:=h.same S1 (ah _)
 have st1:=st.same (ah _) S1
 have q1:DeQ A H1 f b g n B i s Q:=fun ds2 ys2 t' ts' kn' g' H' fr km sd st' sub=>q ds2 ys2 t' ts' kn' g' H' (fun z hz=>(KM.same (l:=[]) S1).none (fr z hz) (nofun)) ((KM.same S1).trans km) sd st' sub
 refine Sel.dec (fun h=>?_) (fun h=>⟨by decide,Sel.dec (fun h2=>?_) (fun h2=>?_)⟩)
 · -- a key is put
   refine⟨⟨by decide,by decide⟩,_,rfl,fun z H2 S2 hz=>?_⟩
   have h2:=h1.same S2 (ah _)
   have st2:=st1.same (ah _) S2
   have dg:cF H2 s.k (.int (key:Int)) ((aD B key t).map V.str):=by
    rw[←h2.kno.eq,←gG];exact cF.k (k:=.inl (key:Int)) h2.hk
   refine⟨kK h2.hk,s.k,_,_,rfl,rfl,dg,?_⟩
   rw[pY]
   refine .inr ⟨s.k,_,rfl,ir.k (k:=.inl (key:Int)) h2.hk (ft (by unfold dOf;rw[LJ];omega)),?_⟩
   rw[zV]
   obtain⟨hs3,hl3,dd3,st3⟩:=h2.setK (kn':=eM kn key z) ow st2
   have hk3:upd H2 s.k (.dK (dOf (eM kn key z))) s.k=some (.dK (dOf (eM kn key z))):=aj
   have km3:KM (mu b s) H1 (upd H2 s.k (.dK (dOf (eM kn key z)))):=(KM.same S2).trans (KM.upd (by simp[mu]))
   generalize upd H2 s.k (.dK (dOf (eM kn key z)))=H3 at*
   obtain⟨dx,hx⟩:=hs3.ob
   obtain⟨m,ta⟩:=hs3.ta
   refine⟨s.x,dx,_,rfl,hx,rfl,s.x,s.a,_,_,rfl,hs3.ob,⟨f,g,B,t,m,ta⟩,s.a.tb,f,b,g,n,B,t,m,_,_,.int (key:Int),.str z,rfl,⟨ta,st3,h1.ts'⟩,by omega,.int _,.str _,FC hz,fun h=>(by rw[fQ hkey]at h;cases h),fun key' ek hk'=>⟨fun h=>(by rw[qX hz]at h;cases h),fun z2 e2 _ m4 g4 H4 k4 ta4 s4 sub4=>?_⟩⟩
   cases e2
   have:key'=key:=by have:=Dat.int.inj ek;omega
   subst this
   refine⟨aD B key' t,rfl,?_⟩
   obtain⟨hs4,km4⟩:=hs3.tab ow.had st3 k4 ta4 sub4 (show n≤n+220 by omega)
   obtain⟨⟨_,_,_,_,_,bk,bl⟩,⟨_,_,_,_,tk,tl⟩,_⟩:=ow.all
   have kn4:=(qU (k:=key') (z:=z) h1.kno.nd).2
   exact q1.nil _ ts (eM kn key' z) g4 H4 (km3.trans (km4.sub fun z hz=>by simp only[gV,pz,or_false]at hz;rcases hz with rfl|rfl<;>simp[mu])) ⟨hs4,km4 _ _ (bx (Lt bk) (Lt tk)) hk3,h1.kno.put ta.wf hkey (by omega),km4 _ _ (bx (Lt bl) (Lt tl)) hl3,dd3.km km4 fun d hd=>bx (ow.ne (by simp[mu]) (by simp[im,hd])) (ow.ne (by simp[mu]) (by simp[im,hd])),by omega,by omega⟩ (s4.same (by omega) ax.rfl') sub4
 ·exact⟨f,b,g,n,B,i,s,t,ts,kn,key,rfl,h1,ow,st1,hi,hn,hkey,fun t' kn' g' H' km sd st' sub=>q1.nil t' ts kn' g' H' km sd st' sub⟩
 ·have made:∀{HH:Hp},ax H1 HH→lA K A [.ref s.x,.ref s.k,.ref s.l] HH Q E0:=fun S=>⟨f,b,g,n,B,i,s,t,ts,kn,rfl,h1.same S (ah _),ow,st1.same (ah _) S,hi,hn,fun ds2 ys2 t' ts' kn' g' H' fr km sd st' sub=>q1 ds2 ys2 t' ts' kn' g' H' (fun z hz=>(KM.same (l:=[]) S).none (fr z hz) (nofun)) ((KM.same S).trans km) sd st' sub⟩
  refine⟨by decide,Sel.dec (fun h3=>Sel.t (made ax.rfl')) (fun h3=>⟨Md _,fun e he=>?_⟩)⟩
  have S2:=ax.upd (o:=.lst []) he
  have h2:=h1.same S2 (ah _)
  have st2:=st1.same (ah _) S2
  have ee:upd H1 e (.lst []) e=some (.lst []):=aj
  generalize upd H1 e (.lst [])=H2 at*
  refine⟨s.l,e,_,rfl,rfl,SqL.of h2.hl,SqL.of ee,Sel.dec (fun h4=>made S2) (fun h4=>?_)⟩
  have dl:=h2.dd.length
  rw[LJ,dl]at h4
  refine⟨⟨by decide,by decide⟩,.inl (.inl ⟨_,SqL.of h2.hl,?_⟩)⟩
  rw[LJ,dl]
  refine⟨by omega,?_⟩
  have r0:=NX (nb/5) (b:=(ts.length:Int)) (by omega)
  have r1:=NY (nb/5) (b:=(ts.length:Int)) (by omega)
  obtain⟨p,hp⟩:=MK r0
  show uI K A _ [some (.ref s.x),some (.ref s.k),some (.ref s.l),some (.int c),some (.int nb),some (.int (B:Int)),some (.int (key:Int)),none,none,some (.int (nb/5%(ts.length:Int)))] H2
  rw[hp]at r1⊢
  obtain⟨t',d,kn',ht,hd,ed,dg⟩:=ua h2 (by omega) (p:=p) (by omega) hkey
  obtain⟨dx,hx⟩:=h2.hs.ob
  refine⟨s.x,dx,_,rfl,hx,rfl,s.x,f,g,n,B,s.a,t,ts,s.ys,_,_,.int (p:Int),.int (key:Int),rfl,h2.hs,.int _,.int _,fun np=>?_,fun p' t2 ep ht2=>⟨fun h=>(by rw[fQ hkey]at h;cases h),fun key' ek hk'=>?_⟩⟩
  ·rw[hU (by omega) (by omega)]at np;cases np
  have:p'=p:=by have:=Dat.int.inj ep;omega
  subst this
  have:key'=key:=by have:=Dat.int.inj ek;omega
  subst this
  rw[ht]at ht2;cases ht2
  refine ixL (j:=p') h2.hl rfl hd ⟨kK ed,d,_,_,rfl,rfl,dg,?_⟩
  rw[pY]
  exact⟨_,rfl,q1.nil t ts kn g H2 (KM.same S2) (h2.up (by omega) (by omega)) (st2.same (by omega) ax.rfl') Sub.rfl'⟩
theorem zy:dQ (.str (Txt.mul "a" 61))=false∧okD (.str (Txt.mul "a" 61))=true:=by decide+kernel
theorem BR (K:cW)(A:Adr):Ln (kY K A) 4:=by rintro vs H Q E ⟨f,b,q,g,n,B,i,s,t,ts,kn,ks,rfl,_⟩;rfl
theorem Ib (T:Txt K mg A):Rd (kY K A) (Jr K A) ["_law_house","_law_makes","_law_keys","_law_bits","_law_place","_law_key_here"]:=by
 intro vs H Q E h
 obtain⟨f,b,kq,g,n,B,i,s,t,ts,kn,ks,rfl,h,st,hi,hn,hq,hks,q⟩:=h
 obtain⟨B1,B60,kb⟩:=h.BB
 have dl:=h.dd.length
 have lt:=h.lt
 obtain⟨dx,hx⟩:=h.hs.ob
 refine .inl (.inl ⟨_,SqL.of h.hl,?_⟩)
 rw[LJ,dl]
 refine⟨(ts.length:Int),rfl,by omega,by omega,?_⟩
 rw[OW]
 refine mP (lo:=0) (n:=ts.length) (fun i σ H'=>∃(x4 x5:Option V),σ=[some (.ref s.x),some (.ref s.l),some (.ref kq),some (.int (B:Int)),x4,x5]∧H'=H) ⟨none,none,rfl,rfl⟩ ?_ ?_
 ·rintro p σ H' hp ⟨x4,x5,rfl,rfl⟩
  refine⟨kq,rfl,.inl ⟨⟨_,SqL.of hq⟩,?_⟩⟩
  refine pL (xs:=ks.map fun k:Nat=>V.int (k:Int)) (fun i σ H''=>∃(x5:Option V),σ=[some (.ref s.x),some (.ref s.l),some (.ref kq),some (.int (B:Int)),some (.int (0+(p:Int))),x5]∧H''=H') ⟨x5,rfl,rfl⟩ (fun i σ H'' _ h=>?_) (fun i v σ H'' hv h=>?_) (fun σ H'' h=>?_)
  ·obtain⟨_,_,rfl⟩:=h
   exact SqL.of hq
  ·obtain⟨x5,rfl,rfl⟩:=h
   obtain⟨key,hkm,rfl⟩:=jx hv
   have hkey:=hks key (Ma hkm)
   obtain⟨t',d,kn',ht,hd,ed,dg⟩:=ua h (by omega) (p:=p) hp hkey
   refine⟨s.x,dx,_,rfl,hx,rfl,s.x,f,g,n,B,s.a,t,ts,s.ys,_,_,.int (0+(p:Int)),.int (key:Int),rfl,h.hs,.int _,.int _,fun np=>?_,fun p' t2 ep ht2=>⟨fun h=>(by rw[fQ hkey]at h;cases h),fun key' ek hk'=>?_⟩⟩
   ·rw[Int.zero_add,hU hp (by omega)]at np;cases np
   have:p'=p:=by have:=Dat.int.inj ep;omega
   subst this
   have:key'=key:=by have:=Dat.int.inj ek;omega
   subst this
   rw[ht]at ht2;cases ht2
   refine ixL (j:=p') h.hl (Int.zero_add _) hd ⟨kK ed,d,_,_,rfl,rfl,dg,?_⟩
   rw[pY]
   exact⟨_,rfl,Sel.no rfl ⟨_,rfl,rfl⟩⟩
  ·obtain⟨x5,rfl,rfl⟩:=h
   exact⟨_,_,rfl,rfl⟩
 ·rintro σ H' ⟨x4,x5,rfl,rfl⟩
  refine .inl (.inl ⟨_,SqL.of h.hl,?_⟩)
  rw[LJ,dl]
  refine⟨bq (show 5≤1000000 by decide),fun e he=>?_⟩
  have S1:=ax.upd (o:=.lst [V.int (-1),.int (ts.length:Int),.bl true,.non,.str "0"]) he
  have ee:upd H' e (.lst [V.int (-1),.int (ts.length:Int),.bl true,.non,.str "0"]) e=some (.lst [V.int (-1),.int (ts.length:Int),.bl true,.non,.str "0"]):=aj
  generalize upd H' e (.lst [V.int (-1),.int (ts.length:Int),.bl true,.non,.str "0"])=H1 at*
  refine⟨e,rfl,.inl ⟨⟨_,SqL.of ee⟩,?_⟩⟩
  refine pL (xs:=[V.int (-1),.int (ts.length:Int),.bl true,.non,.str "0"]) (fun i σ H''=>∃(x4:Option V),σ=[some (.ref s.x),some (.ref s.l),some (.ref kq),some (.int (B:Int)),x4,x5]∧ax H1 H'') ⟨x4,rfl,.refl _⟩ (fun i σ H'' _ h=>?_) (fun i v σ H'' hv h'=>?_) (fun σ H'' h'=>?_)
  ·obtain⟨_,_,S⟩:=h
   exact SqL.of (S _ _ ee)
  ·obtain⟨x4,rfl,S2⟩:=h'
   obtain⟨d,wd,nd⟩:∃d,(∀HH,bc HH v d)∧bW (.int (ts.length:Int)) d=false:=by
    have no:∀{d:Dat},jX d=false→bW (.int (ts.length:Int)) d=false:=fun h=>by unfold bW;rw[h,Qy,Qx]
    have out:∀{j:Int},¬(0≤j∧j<(ts.length:Int))→bW (.int (ts.length:Int)) (.int j)=false:=fun{j} h=>by
     unfold bW
     show(_&&decide (0≤j∧j<(ts.length:Int)))=false
     rw[decide_eq_false h,Qy]
    have hv:=Ma hv
    simp only[gV,pz,or_false]at hv
    rcases hv with rfl|rfl|rfl|rfl|rfl
    ·exact⟨.int (-1),fun _=>.int _,out (by omega)⟩
    ·exact⟨.int (ts.length:Int),fun _=>.int _,out (by omega)⟩
    ·exact⟨.bl true,fun _=>.bl _,no rfl⟩
    ·exact⟨.non,fun _=>.non,no rfl⟩
    ·exact⟨.str "0",fun _=>.str _,no rfl⟩
   have S:=S1.trans S2
   refine⟨s.x,f,g,n,B,s.a,t,ts,s.ys,v,_,d,.int 0,rfl,h.hs.same S (ah _),wd _,.int _,nd,fun H3 S3=>Sel.no rfl ?_⟩
   exact⟨s.x,f,g,n,B,s.a,t,ts,s.ys,v,_,d,.int (-1),rfl,h.hs.same (S.trans S3) (ah _),wd _,.int _,nd,fun H4 S4=>Sel.no rfl ⟨_,rfl,S2.trans (S3.trans S4)⟩⟩
  ·obtain⟨x4,rfl,S2⟩:=h'
   have S:=S1.trans S2
   have h2:=h.same S (ah _)
   have st2:=st.same (ah _) S
   have e2:(1:Int)*2^(B:Int).toNat=((2^B:Nat):Int):=by rw[show(B:Int).toNat=B by omega,Pz,fe]
   refine⟨⟨by omega,by omega,by decide⟩,Md _,fun e3 he3=>?_⟩
   have S3:=ax.upd (o:=.lst []) he3
   have h3:=h2.same S3 (ah _)
   have st3:=st2.same (ah _) S3
   have ee3:upd H'' e3 (.lst []) e3=some (.lst []):=aj
   generalize upd H'' e3 (.lst [])=H3 at*
   refine⟨s.l,e3,_,rfl,rfl,SqL.of h3.hl,SqL.of ee3,?_⟩
   rw[LJ,dl,e2]
   refine⟨s.x,f,b,g,n,B,s.a,t,ts,s.ys,_,rfl,h3.hs,st3,h3.ts',hn,?_,fun H4 S4=>Sel.t ?_⟩
   ·show decide (0≤((2^B:Nat):Int)∧((2^B:Nat):Int)<2^(B:Int).toNat)=false
    rw[show(B:Int).toNat=B by omega,←fe]
    exact decide_eq_false (by omega)
   ·refine⟨⟨by decide,by decide,by decide+kernel⟩,s.x,f,b,g,n,B,s.a,t,ts,s.ys,_,.str (Txt.mul "a" 61),rfl,h3.hs.same S4 (ah _),st3.same (ah _) S4,h3.ts',hn,.str _,zy.2,zy.1,fun H5 S5=>q H5 (S.trans (S3.trans (S4.trans S5)))⟩
def two (w:Bool)(p q:V):List V:=if w then[q,p]else[p,q]
def wi (w:Bool):Int:=if w then 1 else 0
theorem lc (w:Bool)(p q:V):atI (two w p q) (wi w)=some p:=by cases w<;>rfl
theorem mw (w:Bool)(p q r:V):∃j,ixN (two w p q).length (1- wi w)=some j∧(two w p q).set j r=two w p r:=by
 cases w
 ·exact⟨1,rfl,rfl⟩
 ·exact⟨0,rfl,rfl⟩
theorem pU (w:Bool)(p q:V):two (!w) q p=two w p q:=by cases w<;>rfl
theorem EW (z:Int):∃w,z%2=wi w:=by
 have h:z%2=0∨z%2=1:=by omega
 rcases h with h|h
 ·exact⟨false,h⟩
 ·exact⟨true,h⟩
def ow6 (s:SA):List Addr:=[s.a.tb,s.a.L,s.a.D,s.a.ml,s.k,s.l]
def Apt (b:Addr)(s s':SA):Prop:=∀z∈mu b s,z∉im s'∧z∉ow6 s'
structure Nl (b:Addr)(ls:List Addr)(s:SA):Prop where
 mu:∀z∈ls,z∉mu b s
 im:∀z∈ls,z∉im s
section
variable {H H':Hp}{g g':gOp}{f b:Addr}{n n' B i:Nat}{s s':SA}{t t':Kn Str}{ts ts':List (Kn Str)}{kn kn':List (Nat×Str)}{l ls:List Addr}
theorem SdA.exm (h:SdA A H g f n B s i t ts kn)(st:Stp A H f b g' n'):∀z∈mu b s,∃o,H z=some o:=fun z hz=>by
 obtain⟨o,e,_⟩:=h.mus st z hz
 exact⟨o,e⟩
theorem SdA.exi (h:SdA A H g f n B s i t ts kn):∀z∈im s,∃o,H z=some o:=fun z hz=>by
 obtain⟨dx,hx⟩:=h.hs.ob
 obtain⟨es,kvs,r,_⟩:=h.hs.ro
 obtain⟨dr,hr⟩:=r.ob
 obtain⟨ds,hs⟩:=h.hs.se.ob
 unfold im at hz
 simp only[gV,Mu]at hz
 rcases hz with rfl|rfl|rfl|hz|hz
 ·exact⟨_,hx⟩
 ·exact⟨_,hr⟩
 ·exact⟨_,hs⟩
 ·obtain⟨j,hj⟩:=Nc.mp hz
  have hlt:j<ts.length:=by rw[←h.dd.length];exact(LX.mp hj).1
  obtain⟨d,kn',hd,ed,_⟩:=h.dd.get (ds:=[]) (LN hlt)
  rw[hj]at hd;cases hd
  exact⟨_,ed⟩
 ·cases e:H z with
  |none=>exact absurd hz (h.hs.tm.some e)
  |some o=>exact⟨o,rfl⟩
theorem EA {z:Addr}(h:z∈ow6 s):z∈mu b s:=by
 unfold ow6 at h;unfold mu
 simp only[gV,pz,or_false]at h⊢
 rcases h with h|h|h|h|h|h<;>simp[h]
theorem vZ {z:Addr}(h:z∈mu b s):z=b∨z=s.a.sd∨z∈ow6 s:=by
 unfold ow6;unfold mu at h
 simp only[gV,pz,or_false]at h⊢
 rcases h with h|h|h|h|h|h|h|h<;>simp[h]
theorem SdA.oth (h':SdA A H g f n B s' i t' ts' kn')(ow':Own b s')(ap:Apt b s s')(ap':Apt b s' s)(mus:MuS (mu b s) H)(k:KM (mu b s) H H')(sub:Sub g g')(hn:n≤n')(se:∃kvs,H' s.a.sd=some (.dT kvs)∧kvs.length≤n'):SdA A H' g' f n' B s' i t' ts' kn':=by
 have ni:∀z∈im s',z∉mu b s:=fun z hz hm=>(ap z hm).1 hz
 have no:∀z∈ow6 s',z∉mu b s:=fun z hz hm=>(ap z hm).2 hz
 have sd:SeA A H' s'.a.sl s'.a.sd n':=by
  have hsl:s'.a.sl∉mu b s:=ni _ (by simp[im])
  by_cases e:s'.a.sd∈mu b s
  ·have hm:s'.a.sd∈mu b s':=by simp[mu]
   have e1:s'.a.sd=s.a.sd:=by
    rcases vZ e with h|h|h
    ·obtain⟨⟨_,_,_,_,bs,_⟩,_⟩:=ow'.all
     exact absurd h.symm bs
    ·exact h
    ·exact absurd h (ap' _ hm).2
   obtain⟨ds,hs⟩:=h'.hs.se.ob
   exact⟨⟨ds,k _ _ hsl hs⟩,by rw[e1];exact se⟩
  ·exact h'.hs.se.km k hsl e hn
 exact h'.km k mus.nk sub hn ni (no _ (by simp[ow6])) (no _ (by simp[ow6])) (no _ (by simp[ow6])) (no _ (by simp[ow6])) (no _ (by simp[ow6])) (no _ (by simp[ow6])) sd
theorem Own.grow {ds2 ys2:List Addr}(ow:Own b s)(ex:∀z∈Rs.mu b s,∃o,H z=some o)(fr:∀z∈ds2++ys2,H z=none):Own b {s with ds:=s.ds++ds2,ys:=s.ys++ys2}:=by
 refine⟨ow.nd,fun z hz hi=>?_⟩
 obtain⟨o,e⟩:=ex z hz
 have old:=ow.im z hz
 unfold Rs.im at hi old
 simp only[gV,Mu,not_or]at hi old
 have nf:∀{w:Addr},w∈ds2∨w∈ys2→z≠w:=fun hw q=>by
  subst q;rw[fr _ (by simpa using hw)]at e;cases e
 rcases hi with hi|hi|hi|(hi|hi)|(hi|hi)
 ·exact old.1 hi
 ·exact old.2.1 hi
 ·exact old.2.2.1 hi
 ·exact old.2.2.2.1 hi
 ·exact nf (.inl hi) rfl
 ·exact old.2.2.2.2 hi
 ·exact nf (.inr hi) rfl
theorem rh {ds2 ys2:List Addr}{z:Addr}{o:HO}(old:z∉im s)(e:H z=some o)(fr:∀z∈ds2++ys2,H z=none):z∉im {s with ds:=s.ds++ds2,ys:=s.ys++ys2}:=fun hi=>by
 unfold im at hi old
 simp only[gV,Mu,not_or]at hi old
 have nf:∀{w:Addr},w∈ds2∨w∈ys2→z≠w:=fun hw q=>by
  subst q;rw[fr _ (by simpa using hw)]at e;cases e
 rcases hi with hi|hi|hi|(hi|hi)|(hi|hi)
 ·exact old.1 hi
 ·exact old.2.1 hi
 ·exact old.2.2.1 hi
 ·exact old.2.2.2.1 hi
 ·exact nf (.inl hi) rfl
 ·exact old.2.2.2.2 hi
 ·exact nf (.inr hi) rfl
end
structure LW (K:cW)(A:Adr)(H:Hp)(a lh lb lm f b:Addr)(ns:List Int)(g:gOp)(n B i:Nat)(w:Bool)(s s':SA):Prop where
 hlh:H lh=some (.lst (two w (.ref s.x) (.ref s'.x)))
 hlb:H lb=some (.lst (two w (.ref s.k) (.ref s'.k)))
 hlm:H lm=some (.lst (two w (.ref s.l) (.ref s'.l)))
 p:∃t ts kn,SdA A H g f n B s i t ts kn
 p':∃t ts kn,SdA A H g f n B s' i t ts kn
 ow:Own b s
 ow':Own b s'
 ap:Apt b s s'
 ap':Apt b s' s
 nl:Nl b [lh,lb,lm] s
 nl':Nl b [lh,lb,lm] s'
 nd:[lh,lb,lm].Nodup
 st:Stp A H f b g n
 tc:eE A H
 sq:SqL K H a (ns.map V.int)
 na:(∀H',SqL K H' a (ns.map V.int))∨(a∉mu b s∧a∉mu b s'∧a∉[lh,lb,lm])
section
variable {H H':Hp}{a lh lb lm f b:Addr}{ns:List Int}{g g':gOp}{n n' B i:Nat}{w:Bool}{s s':SA}
theorem LW.sw (h:LW K A H a lh lb lm f b ns g n B i w s s'):LW K A H a lh lb lm f b ns g n B i (!w) s' s:=
 ⟨by rw[pU];exact h.hlh,by rw[pU];exact h.hlb,by rw[pU];exact h.hlm,h.p',h.p,h.ow',h.ow,h.ap',h.ap,h.nl',h.nl,h.nd,h.st,h.tc,h.sq,h.na.imp id fun⟨x,y,z⟩=>⟨y,x,z⟩⟩
theorem LW.any (h:LW K A H a lh lb lm f b ns g n B i w s s')(w':Bool):∃s s',LW K A H a lh lb lm f b ns g n B i w' s s':=by
 cases w<;>cases w'
 ·exact⟨_,_,h⟩
 ·exact⟨_,_,h.sw⟩
 ·exact⟨_,_,h.sw⟩
 ·exact⟨_,_,h⟩
theorem SqL.km {l:List Addr}{a:Addr}{xs:List V}(h:SqL K H a xs)(k:KM l H H')(na:(∀H',SqL K H' a xs)∨a∉l):SqL K H' a xs:=by
 rcases na with z|z
 ·exact z H'
 ·rcases h with(h|⟨o,h⟩)|h
  ·exact .inl (.inl (k _ _ z h))
  ·exact .inl (.inr ⟨o,k _ _ z h⟩)
  ·exact .inr h
theorem eE.km {l:List Addr}(h:eE A H)(k:KM l H H')(m:MuS l H):eE A H':=h.keep fun z o e hz=>k _ _ (m.no e (by
 rintro(⟨_,q⟩|⟨_,q⟩|⟨_,q⟩|⟨_,_,_,_,_,q⟩)
 ·subst q;rcases hz with⟨_,q⟩|⟨_,q⟩<;>cases q
 ·subst q;rcases hz with⟨_,q⟩|⟨_,q⟩<;>cases q
 ·subst q;rcases hz with⟨_,q⟩|⟨_,q⟩<;>cases q
 ·subst q;rcases hz with⟨_,q⟩|⟨_,q⟩<;>cases q)) e
theorem LW.deed (h:LW K A H a lh lb lm f b ns g n B i w s s'){ds2 ys2:List Addr}{t:Kn Str}{ts:List (Kn Str)}{kn:List (Nat×Str)}(fr:∀z∈ds2++ys2,H z=none)(k:KM (mu b s) H H')(sd:SdA A H' g' f (n+220) B {s with ds:=s.ds++ds2,ys:=s.ys++ys2} (i+1) t ts kn)(st:Stp A H' f b g' (n+220))(sub:Sub g g'):LW K A H' a lh lb lm f b ns g' (n+220) B (i+1) w {s with ds:=s.ds++ds2,ys:=s.ys++ys2} s':=by
 obtain⟨t0,ts0,kn0,p⟩:=h.p
 obtain⟨t1,ts1,kn1,p'⟩:=h.p'
 have mus:=p.mus h.st
 have ex:=p.exm h.st
 have ex':=p'.exm h.st
 have lk:∀{z:Addr}{o:HO},z∈[lh,lb,lm]→H z=some o→H' z=some o:=fun hz e=>k _ _ (h.nl.mu _ hz) e
 refine⟨lk (by simp) h.hlh,lk (by simp) h.hlb,lk (by simp) h.hlm,⟨t,ts,kn,sd⟩,⟨t1,ts1,kn1,(p'.oth h.ow' h.ap h.ap' mus k sub (by omega) sd.hs.se.di).up (ah _) (by omega)⟩,h.ow.grow ex fr,h.ow',h.ap,fun z hz=>⟨?_,(h.ap' z hz).2⟩,⟨h.nl.mu,fun z hz=>?_⟩,h.nl',h.nd,st,h.tc.km k mus,SqL.km h.sq k (h.na.imp id fun x=>x.1),h.na⟩
 ·obtain⟨o,e⟩:=ex' z hz
  exact rh (h.ap' z hz).1 e fr
 ·have:∃o,H z=some o:=by
   simp only[gV,pz,or_false]at hz
   rcases hz with rfl|rfl|rfl
   ·exact⟨_,h.hlh⟩
   ·exact⟨_,h.hlb⟩
   ·exact⟨_,h.hlm⟩
  obtain⟨o,e⟩:=this
  exact rh (h.nl.im z hz) e fr
end
section
variable {K:cW}{mg:Str→Option pv}{A:Adr}
variable {H H1 H6:Hp}{a lh lb lm f b:Addr}{ns:List Int}{g g1:gOp}{n B i:Nat}{w:Bool}{s s':SA}
theorem LW.twin (h:LW K A H a lh lb lm f b ns g n B i w s s'){t:Kn Str}{ts:List (Kn Str)}{kn:List (Nat×Str)}(p:SdA A H g f n B s i t ts kn){x' d l':Addr}{a':HA}(k:KM [b,s.a.sd] H H1)(hs1:HsA A H1 g1 s.x f (n+10) B s.a t ts s.ys)(hs2:HsA A H1 g1 x' f (n+10) B a' t ts s.ys)(esl:a'.sl=s.a.sl)(esd:a'.sd=s.a.sd)(fr:∀z∈[x',a'.tb,a'.ro,a'.L,a'.D,a'.ml],H z=none)(nd4:[a'.tb,a'.L,a'.D,a'.ml].Nodup)(st:Stp A H1 f b g1 (n+10))
  (k6:KM [lh,lb,lm] H1 H6)(e2:H6 lh=some (.lst (two w (.ref s.x) (.ref x'))))(e3:H6 lb=some (.lst (two w (.ref s.k) (.ref d))))(e4:H6 lm=some (.lst (two w (.ref s.l) (.ref l'))))(ed:H6 d=some (.dK (dOf kn)))(el:H6 l'=some (.lst (s.ds.map V.ref)))(hd:H d=none)(hl:H l'=none)(hd1:H1 d=none)(hl1:H1 l'=none)(st6:Stp A H6 f b g1 (n+10)):
  LW K A H6 a lh lb lm f b ns g1 (n+10) B i w s ⟨x',a',d,l',s.ds,s.ys⟩:=by
 have ow:=h.ow
 obtain⟨⟨bt,bL,bD,bm,bs,bk,bl⟩,⟨tL,tD,tm,tsd,tk,tl⟩,⟨LD,Lm,Lsd,Lk,Ll⟩,⟨Dm,Dsd,Dk,Dl⟩,⟨msd,mk,ml⟩,⟨sk,sl⟩,kl⟩:=ow.all
 have exm:=p.exm h.st
 have exi:=p.exi
 have frs:∀{z y:Addr}{o:HO},H y=some o→H z=none→y≠z:=fun e hz=>ag e hz
 have f1:=fr x' (by simp)
 have f2:=fr a'.tb (by simp)
 have f3:=fr a'.ro (by simp)
 have f4:=fr a'.L (by simp)
 have f5:=fr a'.D (by simp)
 have f6:=fr a'.ml (by simp)
 obtain⟨kb,eb⟩:=h.st.bd
 obtain⟨kd,esd0,_⟩:=p.hs.se.di
 have lsx:∀z∈[lh,lb,lm],∃xs,H z=some (.lst xs):=fun z hz=>by
  simp only[gV,pz,or_false]at hz
  rcases hz with rfl|rfl|rfl
  ·exact⟨_,h.hlh⟩
  ·exact⟨_,h.hlb⟩
  ·exact⟨_,h.hlm⟩
 have nlm:=h.nl.mu
 have nli:=h.nl.im
 have ls1:∀z∈[lh,lb,lm],∃xs,H1 z=some (.lst xs):=fun z hz=>by
  obtain⟨xs,e⟩:=lsx z hz
  exact⟨xs,k _ _ (bx (fun q=>nlm z hz (by rw[q];simp[mu])) (fun q=>nlm z hz (by rw[q];simp[mu]))) e⟩
 have mu3:MuS [lh,lb,lm] H1:=fun z hz=>by
  obtain⟨xs,e⟩:=ls1 z hz
  exact⟨_,e,.inr (.inr (.inl ⟨_,rfl⟩))⟩
 have ni3:∀z∈im s,z∉[lh,lb,lm]:=fun z hz hm=>nli z hm hz
 have nm3:∀z∈mu b s,z∉[lh,lb,lm]:=fun z hz hm=>nlm z hm hz
 have nf3:∀{z:Addr},H z=none→z∉[lh,lb,lm]:=fun hz hm=>by
  obtain⟨xs,e⟩:=lsx _ hm
  rw[hz]at e;cases e
 have nb:∀z∈im s,z∉[b,s.a.sd]:=fun z hz=>bx (ow.ne (by simp[mu]) hz) (ow.ne (by simp[mu]) hz)
 have d1:SdA A H1 g1 f (n+10) B s i t ts kn:=⟨hs1,k _ _ (bx (Lt bk) (Lt sk)) p.hk,p.kno,k _ _ (bx (Lt bl) (Lt sl)) p.hl,p.dd.km k fun d hd=>nb d (by simp[im,hd]),p.ln,p.lt⟩
 have d6:SdA A H6 g1 f (n+10) B s i t ts kn:=d1.km k6 mu3.nk Sub.rfl' (ah _) ni3 (nm3 _ (by simp[mu])) (nm3 _ (by simp[mu])) (nm3 _ (by simp[mu])) (nm3 _ (by simp[mu])) (nm3 _ (by simp[mu])) (nm3 _ (by simp[mu])) (hs1.se.km k6 (ni3 _ (by simp[im])) (nm3 _ (by simp[mu])) (ah _))
 obtain⟨nx,nr,ns'⟩:=hs2.noX mu3
 have h6:HsA A H6 g1 x' f (n+10) B a' t ts s.ys:=hs2.km k6 mu3.nk Sub.rfl' (ah _) nx (nf3 f2) nr (nf3 f4) (nf3 f5) (nf3 f6) (fun y hy=>ni3 y (by simp[im,hy])) (hs2.se.km k6 ns' (by rw[esd];exact nm3 _ (by simp[mu])) (ah _))
 have q6:SdA A H6 g1 f (n+10) B ⟨x',a',d,l',s.ds,s.ys⟩ i t ts kn:=⟨h6,ed,p.kno,el,d6.dd,p.ln,p.lt⟩
 obtain⟨_,ta⟩:=hs2.ta
 obtain⟨_,_,ot,_⟩:=ta.ob
 obtain⟨_,_,r,_⟩:=hs2.ro
 have dl:d≠l':=fun z=>by rw[z,el]at ed;cases ed
 have bf:∀{z:Addr},H z=none→b≠z:=fun hz=>frs eb hz
 have sf:∀{z:Addr},H z=none→s.a.sd≠z:=fun hz=>frs esd0 hz
 have nd':=nd4
 simp only[Mc,gV,pz,or_false,not_or]at nd'
 obtain⟨⟨m1,m2,m3⟩,⟨m4,m5⟩,m6,_⟩:=nd'
 have ownd:(mu b ⟨x',a',d,l',s.ds,s.ys⟩).Nodup:=by
  unfold mu
  rw[esd]
  simp only[Mc,gV,pz,or_false,not_or,not_false_eq_true,MN,and_true]
  exact⟨⟨bf f2,bf f4,bf f5,bf f6,bs,bf hd,bf hl⟩,⟨m1,m2,m3,Lt (sf f2),ag ot hd1,ag ot hl1⟩,⟨m4,m5,Lt (sf f4),ag r.hl hd1,ag r.hl hl1⟩,⟨m6,Lt (sf f5),ag r.hd hd1,ag r.hd hl1⟩,⟨Lt (sf f6),ag hs2.hm hd1,ag hs2.hm hl1⟩,⟨sf hd,sf hl⟩,dl⟩
 have cs:∀z∈mu b ⟨x',a',d,l',s.ds,s.ys⟩,z=b∨z=s.a.sd∨H z=none:=fun z hz=>by
  unfold mu at hz
  rw[esd]at hz
  simp only[gV,pz,or_false]at hz
  rcases hz with rfl|rfl|rfl|rfl|rfl|rfl|rfl|rfl
  ·exact .inl rfl
  ·exact .inr (.inr f2)
  ·exact .inr (.inr f4)
  ·exact .inr (.inr f5)
  ·exact .inr (.inr f6)
  ·exact .inr (.inl rfl)
  ·exact .inr (.inr hd)
  ·exact .inr (.inr hl)
 have ni:∀z∈mu b ⟨x',a',d,l',s.ds,s.ys⟩,z∉im s:=fun z hz hi=>by
  rcases cs z hz with q|q|q
  ·exact ow.im b (by simp[mu]) (q▸hi)
  ·exact ow.im s.a.sd (by simp[mu]) (q▸hi)
  ·obtain⟨o,e⟩:=exi z hi
   rw[q]at e;cases e
 have imq:∀z,z∈im ⟨x',a',d,l',s.ds,s.ys⟩→z=x'∨z=a'.ro∨z∈im s:=fun z hz=>by
  unfold im at hz⊢
  rw[esl]at hz
  simp only[gV,Mu]at hz⊢
  rcases hz with q|q|q|q|q
  ·exact .inl q
  ·exact .inr (.inl q)
  ·exact .inr (.inr (.inr (.inr (.inl q))))
  ·exact .inr (.inr (.inr (.inr (.inr (.inl q)))))
  ·exact .inr (.inr (.inr (.inr (.inr (.inr q)))))
 obtain⟨x6,r6,_⟩:=h6.noX (q6.mus st6)
 have o6:Own b ⟨x',a',d,l',s.ds,s.ys⟩:=⟨ownd,fun z hz hi=>by
  rcases imq z hi with q|q|q
  ·exact x6 (q▸hz)
  ·exact r6 (q▸hz)
  ·exact ni z hz q⟩
 refine⟨e2,e3,e4,⟨t,ts,kn,d6⟩,⟨t,ts,kn,q6⟩,ow,o6,fun z hz=>⟨fun hi=>?_,fun hi=>?_⟩,fun z hz=>⟨ni z hz,fun hi=>?_⟩,h.nl,⟨fun z hz hi=>?_,fun z hz hi=>?_⟩,h.nd,st6,(h.tc.km k fun z hz=>?_).km k6 mu3,?_,?_⟩
 ·obtain⟨o,e⟩:=exm z hz
  rcases imq z hi with q|q|q
  ·rw[q,f1]at e;cases e
  ·rw[q,f3]at e;cases e
  ·exact ow.im z hz q
 ·obtain⟨o,e⟩:=exm z hz
  unfold ow6 at hi
  simp only[gV,pz,or_false]at hi
  rcases hi with q|q|q|q|q|q
  ·rw[q,f2]at e;cases e
  ·rw[q,f4]at e;cases e
  ·rw[q,f5]at e;cases e
  ·rw[q,f6]at e;cases e
  ·rw[q,hd]at e;cases e
  ·rw[q,hl]at e;cases e
 ·rcases cs z hz with q|q|q
  ·subst q
   unfold ow6 at hi
   simp only[gV,pz,or_false]at hi
   rcases hi with q|q|q|q|q|q
   ·exact bt q
   ·exact bL q
   ·exact bD q
   ·exact bm q
   ·exact bk q
   ·exact bl q
  ·subst q
   unfold ow6 at hi
   simp only[gV,pz,or_false]at hi
   rcases hi with q|q|q|q|q|q
   ·exact tsd q.symm
   ·exact Lsd q.symm
   ·exact Dsd q.symm
   ·exact msd q.symm
   ·exact sk q
   ·exact sl q
  ·obtain⟨o,e⟩:=exm z (EA hi)
   rw[q]at e;cases e
 ·rcases cs z hi with q|q|q
  ·exact nlm z hz (by rw[q];simp[mu])
  ·exact nlm z hz (by rw[q];simp[mu])
  ·exact nf3 q hz
 ·rcases imq z hi with q|q|q
  ·exact nf3 (q▸f1) hz
  ·exact nf3 (q▸f3) hz
  ·exact nli z hz q
 ·simp only[gV,pz,or_false]at hz
  rcases hz with rfl|rfl
  ·exact⟨_,eb,.inl ⟨_,rfl⟩⟩
  ·exact⟨_,esd0,.inl ⟨_,rfl⟩⟩
 ·refine SqL.km (SqL.km h.sq k (h.na.imp id fun x=>?_)) k6 (h.na.imp id fun x=>x.2.2)
  exact bx (fun q=>x.1 (by rw[q];simp[mu])) (fun q=>x.1 (by rw[q];simp[mu]))
 ·rcases h.na with z|⟨z1,z2,z3⟩
  ·exact .inl z
  ·rcases h.sq with hh|hh
   ·have:∃o,H a=some o:=by
     rcases hh with e|⟨o,e⟩
     ·exact⟨_,e⟩
     ·exact⟨_,e⟩
    obtain⟨o,e⟩:=this
    refine .inr ⟨z1,fun hm=>?_,z3⟩
    rcases cs a hm with q|q|q
    ·exact z1 (by rw[q];simp[mu])
    ·exact z1 (by rw[q];simp[mu])
    ·rw[q]at e;cases e
   ·exact .inl fun H'=>.inr hh
end
theorem wC {H:Hp}{a f b:Addr}{g:gOp}{n B:Nat}{x3 x4 x5 x6 x7 x8 x9:Option V}{Q:VK}(s:Stp A H f b g n)(hn:n≤40000)(B1:1≤B)(B60:B≤60)
  (q:∀(x:Addr)(h:HA)(g':gOp)(H':Hp),KM [b] H H'→HsA A H' g' x f (n+5) B h .bare [] []→(∀z∈[x,h.tb,h.ro,h.L,h.D,h.ml,h.sl,h.sd],H z=none)→HaD b h []→Stp A H' f b g' (n+5)→Sub g g'→Q (.ref x) H'):
  bH A.c_House (fI K A) (fun _=>E0) (af (ae 1) (af (ae 2) (af (bH A.c_Seals (gk K A) (fun _=>E0) (am)) (am)))) [some (.ref a),some (.ref f),some (.int (B:Int)),x3,x4,x5,x6,x7,x8,x9] H Q:=by
 intro sl dsl hsl hdsl ne1
 have S1:=bU (o:=.own sl) (u:=.ins A.c_Seals dsl []) hsl hdsl ne1
 refine⟨sl,dsl,rfl,aj,fun sd hsd=>⟨rfl,?_⟩⟩
 have S2:ax H (upd (upd (upd (upd H dsl (.own sl)) sl (.ins A.c_Seals dsl [])) sd (.dT [])) sl (.ins A.c_Seals dsl [("sealed",.ref sd)])):=fun z o e=>by
  rw[ao (ag e hsl),ao (ag (S1 _ _ e) hsd)];exact S1 _ _ e
 have sdsl:sd≠sl:=(bp hsd).1
 have sdH:H sd=none:=(bp (bp hsd).2).2
 have sdb:sd≠b:=by obtain⟨_,eb⟩:=s.bd;exact Lt (ag (S1 _ _ eb) hsd)
 have se2:SeA A (upd (upd (upd (upd H dsl (.own sl)) sl (.ins A.c_Seals dsl [])) sd (.dT [])) sl (.ins A.c_Seals dsl [("sealed",.ref sd)])) sl sd n:=⟨⟨dsl,aj⟩,⟨[],by rw[ao sdsl];exact aj,Md _⟩⟩
 generalize upd (upd (upd (upd H dsl (.own sl)) sl (.ins A.c_Seals dsl [])) sd (.dT [])) sl (.ins A.c_Seals dsl [("sealed",.ref sd)])=H2 at*
 intro x dx hx hdx ne
 have S:=bU (o:=.own x) (u:=.ins A.c_House dx []) hx hdx ne
 have S3:=S2.trans S
 refine⟨x,dx,f,b,sl,sd,g,n,_,.int (B:Int),rfl,aj,.int _,s.same (ah _) S3,hn,se2.km (l:=[]) (KM.same S) (nofun) (nofun) (ah _),sdb,fun hb=>?_,fun B' eB _ _ h g1 H1 k1 hs1 esl esd fr nd s1 sub1=>⟨rfl,?_⟩⟩
 ·rw[hJ B1 B60]at hb;cases hb
 have eB:B'=B:=by have:=Dat.int.inj eB;omega
 subst eB
 have fr2:∀{z:Addr},H2 z=none→H z=none:=fun hz=>(KM.same (l:=[]) S2).none hz (nofun)
 have fr3:∀{z:Addr},upd (upd H2 dx (.own x)) x (.ins A.c_House dx []) z=none→H z=none:=fun hz=>(KM.same (l:=[]) S3).none hz (nofun)
 obtain⟨kvs0,esd0,_⟩:=se2.di
 have sd3:=S _ _ esd0
 obtain⟨kb,eb⟩:=s.bd
 have b3:=S3 _ _ eb
 have f1:=fr h.tb (by simp)
 have f2:=fr h.ro (by simp)
 have f3:=fr h.L (by simp)
 have f4:=fr h.D (by simp)
 have f5:=fr h.ml (by simp)
 refine q x h g1 H1 (fun z o zb e=>k1 z o (dw (fun w=>zb (by simp[w])) (ag (S2 _ _ e) hx) (ag e sdH)) (S3 _ _ e)) hs1 (fun z hz=>?_) ⟨?_,nofun⟩ s1 sub1
 ·simp only[gV,pz,or_false]at hz
  rcases hz with rfl|rfl|rfl|rfl|rfl|rfl|rfl|rfl
  ·exact fr2 hx
  ·exact fr3 f1
  ·exact fr3 f2
  ·exact fr3 f3
  ·exact fr3 f4
  ·exact fr3 f5
  ·rw[esl];exact hsl
  ·rw[esd];exact sdH
 ·rw[esd]
  simp only[Mc,gV,pz,or_false,not_or,not_false_eq_true,MN,and_true]at nd⊢
  obtain⟨⟨_,n1,n2,n3⟩,_,⟨n4,n5⟩,n6⟩:=nd
  have nb:∀{z:Addr},upd (upd H2 dx (.own x)) x (.ins A.c_House dx []) z=none→b≠z:=fun hz=>ag b3 hz
  have ns:∀{z:Addr},upd (upd H2 dx (.own x)) x (.ins A.c_House dx []) z=none→z≠sd:=fun hz=>Lt (ag sd3 hz)
  exact⟨⟨nb f1,nb f3,nb f4,nb f5,Lt sdb⟩,⟨n1,n2,n3,ns f1⟩,⟨n4,n5,ns f3⟩,⟨n6,ns f4⟩,ns f5⟩
theorem mR {H:Hp}{a f b:Addr}{g:gOp}{n B:Nat}{x3 x4 x5 x6 x7 x8 x9:Option V}{Q:VK}{t:TA}(ht:t=af (ae 1) (af (ae 2) (af (bH A.c_Seals (gk K A) (fun _=>E0) (am)) (am))))(s:Stp A H f b g n)(hn:n≤40000)(B1:1≤B)(B60:B≤60)
  (q:∀(x:Addr)(h:HA)(g':gOp)(H':Hp),KM [b] H H'→HsA A H' g' x f (n+5) B h .bare [] []→(∀z∈[x,h.tb,h.ro,h.L,h.D,h.ml,h.sl,h.sd],H z=none)→HaD b h []→Stp A H' f b g' (n+5)→Sub g g'→Q (.ref x) H'):
  bH A.c_House (fI K A) (fun _=>E0) t [some (.ref a),some (.ref f),some (.int (B:Int)),x3,x4,x5,x6,x7,x8,x9] H Q:=by
 rw[ht];exact wC s hn B1 B60 q
def zo (K:cW)(A:Adr):TS:=bJ (dv (cZ K (aA (kQ K A) (fun _=>E0) (af (tOp (bR K) (ae 3) (ae 8)) (af (tOp (bR K) (ae 4) (ae 8)) (af (tOp (bR K) (ae 5) (ae 8)) (af (tOp (bR K) (ae 0) (ae 6)) (af (tOp (cJ) (ae 7) (tC (.int 22))) (af (ae 2) (am)))))))))) (aF (tC (.bl false))) (aZ)
theorem zZ {D:eN}{H:Hp}{a lh lb lm f b:Addr}{ns:List Int}{g:gOp}{n B i:Nat}{w:Bool}{s s':SA}{j z iw c:Int}{x9:Option V}(h:LW K A H a lh lb lm f b ns g n B i w s s')(hi:i<60)(hn:n+500≤40000)(hw:iw=wi w)(hv:atI (ns.map V.int) j=some (.int c))
  (q:∀(g':gOp)(H':Hp)(s2:SA),LW K A H' a lh lb lm f b ns g' (n+220) B (i+1) w s2 s'→D.nx [some (.ref a),some (.ref f),some (.int (B:Int)),some (.ref lh),some (.ref lb),some (.ref lm),some (.int j),some (.int z),some (.int iw),x9] H'):zo K A D [some (.ref a),some (.ref f),some (.int (B:Int)),some (.ref lh),some (.ref lb),some (.ref lm),some (.int j),some (.int z),some (.int iw),x9] H:=by
 subst hw
 obtain⟨t,ts,kn,p⟩:=h.p
 refine .inl (.inl ⟨lh,_,_,_,rfl,rfl,SqL.of h.hlh,lc w _ _,.inl (.inl ⟨lb,_,_,_,rfl,rfl,SqL.of h.hlb,lc w _ _,.inl (.inl ⟨lm,_,_,_,rfl,rfl,SqL.of h.hlm,lc w _ _,.inl (.inl ⟨a,_,_,_,rfl,rfl,h.sq,hv,⟨by decide,by decide⟩,?_⟩)⟩)⟩)⟩)
 exact⟨f,b,g,n,B,i,s,t,ts,kn,c,_,rfl,p,h.ow,h.st,hi,hn,fun ds2 ys2 t' ts' kn' g' H' fr k sd st sub=>Sel.no rfl (q g' H' _ (h.deed fr k sd st sub))⟩
theorem uY (ks:List Nat):∃zs:List Nat,gj (ks.map fun k:Nat=>V.int (k:Int)) none (some 12)=zs.map (fun k:Nat=>V.int (k:Int))∧∀k∈zs,k∈ks:=by
 refine⟨(ks.drop (HT.sIx ks.length 0 none)).take (HT.sIx ks.length ks.length (some 12)- HT.sIx ks.length 0 none),?_,fun k hk=>List.mem_of_mem_drop (Rn hk)⟩
 unfold gj
 rw[LJ,List.map_take,List.map_drop]
theorem LW.start {Hb Hc Hd:Hp}{a lh lb lm f b:Addr}{ns:List Int}{g1 g2:gOp}{B:Nat}{x0 x1 k0 k1 l0 l1:Addr}{h0 h1:HA}(hs0:HsA A Hb g1 x0 f 5 B h0 .bare [] [])(hd0:HaD b h0 [])(st1:Stp A Hb f b g1 5)(kc:KM [b] Hb Hc)(hs1:HsA A Hc g2 x1 f 10 B h1 .bare [] [])(fr1:∀z∈[x1,h1.tb,h1.ro,h1.L,h1.D,h1.ml,h1.sl,h1.sd],Hb z=none)(hd1:HaD b h1 [])(st2:Stp A Hc f b g2 10)(sub:Sub g1 g2)(S:ax Hc Hd)
  (fN:∀z∈[lh,k0,k1,lb,l0,l1,lm],Hc z=none)(nd:[lh,k0,k1,lb,l0,l1,lm].Nodup)(elh:Hd lh=some (.lst [.ref x0,.ref x1]))(elb:Hd lb=some (.lst [.ref k0,.ref k1]))(elm:Hd lm=some (.lst [.ref l0,.ref l1]))(ek0:Hd k0=some (.dK []))(ek1:Hd k1=some (.dK []))(el0:Hd l0=some (.lst []))(el1:Hd l1=some (.lst []))(tc:eE A Hd)(sq:SqL K Hc a (ns.map V.int))(na:(∀H',SqL K H' a (ns.map V.int))∨(a∉[b,h0.tb,h0.L,h0.D,h0.ml,h0.sd]∧a∉[h1.tb,h1.L,h1.D,h1.ml,h1.sd])):
  LW K A Hd a lh lb lm f b ns g2 10 B 0 false ⟨x0,h0,k0,l0,[],[]⟩ ⟨x1,h1,k1,l1,[],[]⟩:=by
 obtain⟨⟨bt,bL,bD,bm,bs⟩,⟨tL,tD,tm,tsd⟩,⟨LD,Lm,Ls⟩,⟨Dm,Ds⟩,ms⟩:=hd0.all
 obtain⟨⟨bt',bL',bD',bm',bs'⟩,⟨tL',tD',tm',tsd'⟩,⟨LD',Lm',Ls'⟩,⟨Dm',Ds'⟩,ms'⟩:=hd1.all
 obtain⟨kb,eb⟩:=st1.bd
 obtain⟨kb2,eb2⟩:=st2.bd
 have kno0:Kno B [] .bare:=⟨.nil,Md _,fun k=>rfl⟩
 obtain⟨dx,hx⟩:=hs0.ob
 obtain⟨_,ta⟩:=hs0.ta
 obtain⟨_,_,ot,_⟩:=ta.ob
 obtain⟨_,_,r,_⟩:=hs0.ro
 obtain⟨_,hr⟩:=r.ob
 obtain⟨_,hsl⟩:=hs0.se.ob
 obtain⟨_,hsd,_⟩:=hs0.se.di
 have nb:∀{z:Addr}{o:HO},Hb z=some o→(∀kvs,o≠.dT kvs)→z∉[b]:=fun e h=>ar (st1.nb e h)
 have hc0:HsA A Hc g2 x0 f 10 B h0 .bare [] []:=hs0.km kc (.bd st1 .nil) sub (by decide) (nb hx (fun _ z=>nomatch z)) (ar (Lt bt)) (nb hr (fun _ z=>nomatch z)) (ar (Lt bL)) (ar (Lt bD)) (ar (Lt bm)) (nofun) (hs0.se.km kc (nb hsl (fun _ z=>nomatch z)) (ar (Lt bs)) (by decide))
 have p:SdA A Hd g2 f 10 B ⟨x0,h0,k0,l0,[],[]⟩ 0 .bare [] []:=⟨hc0.same S (ah _),ek0,kno0,el0,.nil,ah _,ah _⟩
 have p':SdA A Hd g2 f 10 B ⟨x1,h1,k1,l1,[],[]⟩ 0 .bare [] []:=⟨hs1.same S (ah _),ek1,kno0,el1,.nil,ah _,ah _⟩
 have std:=st2.same (ah _) S
 have sb:∀z∈[x0,h0.tb,h0.ro,h0.L,h0.D,h0.ml,h0.sl,h0.sd,b],∃o,Hb z=some o:=fun z hz=>by
  simp only[gV,pz,or_false]at hz
  rcases hz with rfl|rfl|rfl|rfl|rfl|rfl|rfl|rfl|rfl
  ·exact⟨_,hx⟩
  ·exact⟨_,ot⟩
  ·exact⟨_,hr⟩
  ·exact⟨_,r.hl⟩
  ·exact⟨_,r.hd⟩
  ·exact⟨_,hs0.hm⟩
  ·exact⟨_,hsl⟩
  ·exact⟨_,hsd⟩
  ·exact⟨_,eb⟩
 have sc:∀z,(∃o,Hb z=some o)→∃o,Hc z=some o:=fun z ⟨o,e⟩=>by
  by_cases q:z=b
  ·exact⟨_,q▸eb2⟩
  ·exact⟨o,kc _ _ (ar q) e⟩
 obtain⟨_,hx1⟩:=hs1.ob
 obtain⟨_,ta1⟩:=hs1.ta
 obtain⟨_,_,ot1,_⟩:=ta1.ob
 obtain⟨_,_,r1,_⟩:=hs1.ro
 obtain⟨_,hr1⟩:=r1.ob
 obtain⟨_,hsl1⟩:=hs1.se.ob
 obtain⟨_,hsd1,_⟩:=hs1.se.di
 have s1:∀z∈[x1,h1.tb,h1.ro,h1.L,h1.D,h1.ml,h1.sl,h1.sd],∃o,Hc z=some o:=fun z hz=>by
  simp only[gV,pz,or_false]at hz
  rcases hz with rfl|rfl|rfl|rfl|rfl|rfl|rfl|rfl
  ·exact⟨_,hx1⟩
  ·exact⟨_,ot1⟩
  ·exact⟨_,hr1⟩
  ·exact⟨_,r1.hl⟩
  ·exact⟨_,r1.hd⟩
  ·exact⟨_,hs1.hm⟩
  ·exact⟨_,hsl1⟩
  ·exact⟨_,hsd1⟩
 have ne01:∀{y z:Addr},y∈[x0,h0.tb,h0.ro,h0.L,h0.D,h0.ml,h0.sl,h0.sd,b]→z∈[x1,h1.tb,h1.ro,h1.L,h1.D,h1.ml,h1.sl,h1.sd]→y≠z:=fun hy hz=>by
  obtain⟨o,e⟩:=sb _ hy
  exact ag e (fr1 _ hz)
 have ne0N:∀{y z:Addr},y∈[x0,h0.tb,h0.ro,h0.L,h0.D,h0.ml,h0.sl,h0.sd,b]→z∈[lh,k0,k1,lb,l0,l1,lm]→y≠z:=fun hy hz=>by
  obtain⟨o,e⟩:=sc _ (sb _ hy)
  exact ag e (fN _ hz)
 have ne1N:∀{y z:Addr},y∈[x1,h1.tb,h1.ro,h1.L,h1.D,h1.ml,h1.sl,h1.sd]→z∈[lh,k0,k1,lb,l0,l1,lm]→y≠z:=fun hy hz=>by
  obtain⟨o,e⟩:=s1 _ hy
  exact ag e (fN _ hz)
 have nd':=nd
 simp only[Mc,gV,pz,or_false,not_or,not_false_eq_true,MN,and_true]at nd'
 obtain⟨⟨hk0,hk1,hb,hl0,hl1,hm⟩,⟨k01,k0b,k0l0,k0l1,k0m⟩,⟨k1b,k1l0,k1l1,k1m⟩,⟨bl0,bl1,bmm⟩,⟨l01,l0m⟩,l1m⟩:=nd'
 obtain⟨nx0,nr0,ns0⟩:=p.hs.noX (p.mus std)
 obtain⟨nx1,nr1,ns1⟩:=p'.hs.noX (p'.mus std)
 have ow:Own b ⟨x0,h0,k0,l0,[],[]⟩:=⟨by
  unfold mu
  simp only[Mc,gV,pz,or_false,not_or,not_false_eq_true,MN,and_true]
  exact⟨⟨bt,bL,bD,bm,bs,ne0N (by simp) (by simp),ne0N (by simp) (by simp)⟩,⟨tL,tD,tm,tsd,ne0N (by simp) (by simp),ne0N (by simp) (by simp)⟩,⟨LD,Lm,Ls,ne0N (by simp) (by simp),ne0N (by simp) (by simp)⟩,⟨Dm,Ds,ne0N (by simp) (by simp),ne0N (by simp) (by simp)⟩,⟨ms,ne0N (by simp) (by simp),ne0N (by simp) (by simp)⟩,⟨ne0N (by simp) (by simp),ne0N (by simp) (by simp)⟩,k0l0⟩,fun z hz hi=>by
  simp only[im,ME,gV,pz,or_false]at hi
  rcases hi with q|q|q
  ·exact nx0 (q▸hz)
  ·exact nr0 (q▸hz)
  ·exact ns0 (q▸hz)⟩
 have ow':Own b ⟨x1,h1,k1,l1,[],[]⟩:=⟨by
  unfold mu
  have bN:∀{z:Addr},z∈[lh,k0,k1,lb,l0,l1,lm]→b≠z:=fun hz=>ne0N (by simp) hz
  simp only[Mc,gV,pz,or_false,not_or,not_false_eq_true,MN,and_true]
  exact⟨⟨bt',bL',bD',bm',bs',bN (by simp),bN (by simp)⟩,⟨tL',tD',tm',tsd',ne1N (by simp) (by simp),ne1N (by simp) (by simp)⟩,⟨LD',Lm',Ls',ne1N (by simp) (by simp),ne1N (by simp) (by simp)⟩,⟨Dm',Ds',ne1N (by simp) (by simp),ne1N (by simp) (by simp)⟩,⟨ms',ne1N (by simp) (by simp),ne1N (by simp) (by simp)⟩,⟨ne1N (by simp) (by simp),ne1N (by simp) (by simp)⟩,k1l1⟩,fun z hz hi=>by
  simp only[im,ME,gV,pz,or_false]at hi
  rcases hi with q|q|q
  ·exact nx1 (q▸hz)
  ·exact nr1 (q▸hz)
  ·exact ns1 (q▸hz)⟩
 have mu0:∀z∈mu b ⟨x0,h0,k0,l0,[],[]⟩,z∈[x0,h0.tb,h0.ro,h0.L,h0.D,h0.ml,h0.sl,h0.sd,b]∨z=k0∨z=l0:=fun z hz=>by
  simp only[mu,gV,pz,or_false]at hz⊢
  rcases hz with q|q|q|q|q|q|q|q<;>simp[q]
 have mu1:∀z∈mu b ⟨x1,h1,k1,l1,[],[]⟩,z=b∨z∈[x1,h1.tb,h1.ro,h1.L,h1.D,h1.ml,h1.sl,h1.sd]∨z=k1∨z=l1:=fun z hz=>by
  simp only[mu,gV,pz,or_false]at hz⊢
  rcases hz with q|q|q|q|q|q|q|q<;>simp[q]
 have im1:∀z∈im ⟨x1,h1,k1,l1,[],[]⟩,z∈[x1,h1.tb,h1.ro,h1.L,h1.D,h1.ml,h1.sl,h1.sd]:=fun z hz=>by
  simp only[im,ME,gV,pz,or_false]at hz⊢
  rcases hz with q|q|q<;>simp[q]
 have im0:∀z∈im ⟨x0,h0,k0,l0,[],[]⟩,z∈[x0,h0.tb,h0.ro,h0.L,h0.D,h0.ml,h0.sl,h0.sd,b]:=fun z hz=>by
  simp only[im,ME,gV,pz,or_false]at hz⊢
  rcases hz with q|q|q<;>simp[q]
 have o1:∀z∈ow6 ⟨x1,h1,k1,l1,[],[]⟩,z∈[x1,h1.tb,h1.ro,h1.L,h1.D,h1.ml,h1.sl,h1.sd]∨z=k1∨z=l1:=fun z hz=>by
  simp only[ow6,gV,pz,or_false]at hz⊢
  rcases hz with q|q|q|q|q|q<;>simp[q]
 have o0:∀z∈ow6 ⟨x0,h0,k0,l0,[],[]⟩,z∈[x0,h0.tb,h0.ro,h0.L,h0.D,h0.ml,h0.sl,h0.sd,b]∨z=k0∨z=l0:=fun z hz=>by
  simp only[ow6,gV,pz,or_false]at hz⊢
  rcases hz with q|q|q|q|q|q<;>simp[q]
 have lN:∀z∈[lh,lb,lm],z∈[lh,k0,k1,lb,l0,l1,lm]∧z≠k0∧z≠l0∧z≠k1∧z≠l1:=fun z hz=>by
  simp only[gV,pz,or_false]at hz
  rcases hz with rfl|rfl|rfl
  ·exact⟨by simp,hk0,hl0,hk1,hl1⟩
  ·exact⟨by simp,Lt k0b,bl0,Lt k1b,bl1⟩
  ·exact⟨by simp,Lt k0m,Lt l0m,Lt k1m,Lt l1m⟩
 have naN:(∀H',SqL K H' a (ns.map V.int))∨∃o,Hc a=some o:=by
  rcases sq with(e|⟨o,e⟩)|e
  ·exact .inr ⟨_,e⟩
  ·exact .inr ⟨_,e⟩
  ·exact .inl fun H'=>.inr e
 refine⟨elh,elb,elm,⟨_,_,_,p⟩,⟨_,_,_,p'⟩,ow,ow',fun z hz=>⟨fun hi=>?_,fun hi=>?_⟩,fun z hz=>⟨fun hi=>?_,fun hi=>?_⟩,⟨fun z hz hi=>?_,fun z hz hi=>?_⟩,⟨fun z hz hi=>?_,fun z hz hi=>?_⟩,?_,std,tc,S.seq sq,?_⟩
 ·rcases mu0 z hz with q|rfl|rfl
  ·exact ne01 q (im1 z hi) rfl
  ·exact ne1N (im1 _ hi) (by simp) rfl
  ·exact ne1N (im1 _ hi) (by simp) rfl
 ·rcases mu0 z hz with q|rfl|rfl
  ·rcases o1 z hi with r|rfl|rfl
   ·exact ne01 q r rfl
   ·exact ne0N q (by simp) rfl
   ·exact ne0N q (by simp) rfl
  ·rcases o1 _ hi with r|r|r
   ·exact ne1N r (by simp) rfl
   ·exact k01 r
   ·exact k0l1 r
  ·rcases o1 _ hi with r|r|r
   ·exact ne1N r (by simp) rfl
   ·exact k1l0 r.symm
   ·exact l01 r
 ·rcases mu1 z hz with rfl|q|rfl|rfl
  ·simp only[im,ME,gV,pz,or_false]at hi
   rcases hi with q|q|q
   ·exact nx0 (by rw[←q];simp[mu])
   ·exact nr0 (by rw[←q];simp[mu])
   ·exact ns0 (by rw[←q];simp[mu])
  ·exact ne01 (im0 z hi) q rfl
  ·exact ne0N (im0 _ hi) (by simp) rfl
  ·exact ne0N (im0 _ hi) (by simp) rfl
 ·rcases mu1 z hz with rfl|q|rfl|rfl
  ·simp only[ow6,gV,pz,or_false]at hi
   rcases hi with q|q|q|q|q|q
   ·exact bt q
   ·exact bL q
   ·exact bD q
   ·exact bm q
   ·exact ne0N (y:=z) (z:=k0) (by simp) (by simp) q
   ·exact ne0N (y:=z) (z:=l0) (by simp) (by simp) q
  ·rcases o0 z hi with r|rfl|rfl
   ·exact ne01 r q rfl
   ·exact ne1N q (by simp) rfl
   ·exact ne1N q (by simp) rfl
  ·rcases o0 _ hi with r|r|r
   ·exact ne0N r (by simp) rfl
   ·exact k01 r.symm
   ·exact k1l0 r
  ·rcases o0 _ hi with r|r|r
   ·exact ne0N r (by simp) rfl
   ·exact k0l1 r.symm
   ·exact l01 r.symm
 ·obtain⟨hN,a1,a2,_,_⟩:=lN z hz
  rcases mu0 z hi with q|q|q
  ·exact ne0N q hN rfl
  ·exact a1 q
  ·exact a2 q
 ·exact ne0N (im0 z hi) (lN z hz).1 rfl
 ·obtain⟨hN,_,_,a1,a2⟩:=lN z hz
  rcases mu1 z hi with q|q|q|q
  ·exact ne0N (y:=b) (z:=z) (by simp) hN q.symm
  ·exact ne1N q hN rfl
  ·exact a1 q
  ·exact a2 q
 ·exact ne1N (im1 z hi) (lN z hz).1 rfl
 ·simp only[Mc,gV,pz,or_false,not_or,not_false_eq_true,MN,and_true]
  exact⟨⟨hb,hm⟩,bmm⟩
 ·rcases na with z|⟨z1,z2⟩
  ·exact .inl z
  rcases naN with z|⟨o,e⟩
  ·exact .inl z
  have aN:∀{z:Addr},z∈[lh,k0,k1,lb,l0,l1,lm]→a≠z:=fun hz=>ag e (fN _ hz)
  simp only[gV,pz,or_false,not_or]at z1 z2
  refine .inr ⟨fun hi=>?_,fun hi=>?_,fun hi=>?_⟩
  ·simp only[mu,gV,pz,or_false]at hi
   obtain⟨c1,c2,c3,c4,c5,c6⟩:=z1
   rcases hi with q|q|q|q|q|q|q|q
   ·exact c1 q
   ·exact c2 q
   ·exact c3 q
   ·exact c4 q
   ·exact c5 q
   ·exact c6 q
   ·exact aN (z:=k0) (by simp) q
   ·exact aN (z:=l0) (by simp) q
  ·simp only[mu,gV,pz,or_false]at hi
   obtain⟨c2,c3,c4,c5,c6⟩:=z2
   rcases hi with q|q|q|q|q|q|q|q
   ·exact z1.1 q
   ·exact c2 q
   ·exact c3 q
   ·exact c4 q
   ·exact c5 q
   ·exact c6 q
   ·exact aN (z:=k1) (by simp) q
   ·exact aN (z:=l1) (by simp) q
  ·exact aN (lN a hi).1 rfl
theorem DC (K:cW)(A:Adr):Ln (nC K A) 1:=by rintro vs H Q E ⟨a,ns,rfl,_⟩;rfl
theorem HW (T:Txt K mg A):Rd (nC K A) (Ky K A) ["_law_script","_law_stamper_here","_law_bits","_law_houses","_law_books","_law_makes","_law_k","_law_number","_law_which","_law_keys"]:=by
 intro vs H Q E h
 obtain⟨a,ns,rfl,hs,hl,tabs,q⟩:=h
 refine⟨a,ns,0,rfl,hs,by decide,fun z0=>⟨z0,rfl,tabs,fun f b g Ha k1 tc1 s1=>?_⟩⟩
 have hs1:SqL K Ha a (ns.map V.int):=SqL.kl hs fun z o e h=>k1 z o e fun ps q=>by subst q;rcases h with⟨_,h⟩|⟨_,_,h⟩<;>cases h
 refine⟨a,ns,1,rfl,hs1,by decide,fun z1=>⟨by decide,?_⟩⟩
 obtain⟨B,hB⟩:∃B:Nat,1+z1%60=(B:Int):=⟨(1+z1%60).toNat,by omega⟩
 have B1:1≤B:=by omega
 have B60:B≤60:=by omega
 show pM K A _ [some (.ref a),some (.ref f),some (.int (1+z1%60)),none,none,none,none,none,none,none] Ha
 rw[hB]
 dsimp only[pM,ay,aR,dZ,af]
 refine mR rfl s1 (by decide) B1 B60 fun x0 h0 g1 Hb kb hs0 fr0 hd0 st1 sub1=>?_
 refine mR rfl st1 (by decide) B1 B60 fun x1 h1 g2 Hc kc hs1' fr1 hd1 st2 sub2=>?_
 refine⟨bq (show 2≤1000000 by decide),fun lh hlh=>?_⟩
 obtain⟨kb0,eb0⟩:=s1.bd
 have ab:∀{o:HO},Ha a=some o→(∀kvs,o≠.dT kvs)→a≠b:=fun e h=>s1.nb e h
 have sqc:SqL K Hc a (ns.map V.int):=by
  rcases hs1 with(e|⟨o,e⟩)|e
  ·have n1:=ab e (fun _ z=>nomatch z)
   exact .inl (.inl (kc _ _ (ar n1) (kb _ _ (ar n1) e)))
  ·have n1:=ab e (fun _ z=>nomatch z)
   exact .inl (.inr ⟨o,kc _ _ (ar n1) (kb _ _ (ar n1) e)⟩)
  ·exact .inr e
 have na:(∀H',SqL K H' a (ns.map V.int))∨(a∉[b,h0.tb,h0.L,h0.D,h0.ml,h0.sd]∧a∉[h1.tb,h1.L,h1.D,h1.ml,h1.sd]):=by
  have go:∀{o:HO},Ha a=some o→(∀kvs,o≠.dT kvs)→(a∉[b,h0.tb,h0.L,h0.D,h0.ml,h0.sd]∧a∉[h1.tb,h1.L,h1.D,h1.ml,h1.sd]):=fun{o} e h=>by
   have n1:=ab e h
   have e1:=kb _ _ (ar n1) e
   refine⟨fun hi=>?_,fun hi=>?_⟩
   ·simp only[gV,pz,or_false]at hi
    rcases hi with q|q|q|q|q|q
    ·exact n1 q
    ·exact ag e (fr0 h0.tb (by simp)) q
    ·exact ag e (fr0 h0.L (by simp)) q
    ·exact ag e (fr0 h0.D (by simp)) q
    ·exact ag e (fr0 h0.ml (by simp)) q
    ·exact ag e (fr0 h0.sd (by simp)) q
   ·simp only[gV,pz,or_false]at hi
    rcases hi with q|q|q|q|q
    ·exact ag e1 (fr1 h1.tb (by simp)) q
    ·exact ag e1 (fr1 h1.L (by simp)) q
    ·exact ag e1 (fr1 h1.D (by simp)) q
    ·exact ag e1 (fr1 h1.ml (by simp)) q
    ·exact ag e1 (fr1 h1.sd (by simp)) q
  rcases hs1 with(e|⟨o,e⟩)|e
  ·exact .inr (go e (fun _ z=>nomatch z))
  ·exact .inr (go e (fun _ z=>nomatch z))
  ·exact .inl fun H'=>.inr e
 have tcc:eE A Hc:=(tc1.keep fun z o e hz=>kb _ _ (ar (s1.nb e fun kvs q=>by subst q;rcases hz with⟨_,q⟩|⟨_,q⟩<;>cases q)) e).keep fun z o e hz=>kc _ _ (ar (st1.nb e fun kvs q=>by subst q;rcases hz with⟨_,q⟩|⟨_,q⟩<;>cases q)) e
 refine .inl fun k0 hk0=>.inl fun k1' hk1=>⟨bq (show 2≤1000000 by decide),fun lb hlb=>⟨Md _,fun l0 hl0=>⟨Md _,fun l1 hl1=>⟨bq (show 2≤1000000 by decide),fun lm hlm=>?_⟩⟩⟩⟩
 have S1:=ax.upd (o:=.lst [V.ref x0,.ref x1]) hlh
 have S2:=ax.upd (o:=.dK []) hk0
 have S3:=ax.upd (o:=.dK []) hk1
 have S4:=ax.upd (o:=.lst [V.ref k0,.ref k1']) hlb
 have S5:=ax.upd (o:=.lst []) hl0
 have S6:=ax.upd (o:=.lst []) hl1
 have S7:=ax.upd (o:=.lst [V.ref l0,.ref l1]) hlm
 have T1:upd Hc lh (.lst [V.ref x0,.ref x1]) lh=some (.lst [V.ref x0,.ref x1]):=aj
 have T2:upd (upd Hc lh (.lst [V.ref x0,.ref x1])) k0 (.dK []) k0=some (.dK []):=aj
 have T3:upd (upd (upd Hc lh (.lst [V.ref x0,.ref x1])) k0 (.dK [])) k1' (.dK []) k1'=some (.dK []):=aj
 have T4:upd (upd (upd (upd Hc lh (.lst [V.ref x0,.ref x1])) k0 (.dK [])) k1' (.dK [])) lb (.lst [V.ref k0,.ref k1']) lb=some (.lst [V.ref k0,.ref k1']):=aj
 have T5:upd (upd (upd (upd (upd Hc lh (.lst [V.ref x0,.ref x1])) k0 (.dK [])) k1' (.dK [])) lb (.lst [V.ref k0,.ref k1'])) l0 (.lst []) l0=some (.lst []):=aj
 have T6:upd (upd (upd (upd (upd (upd Hc lh (.lst [V.ref x0,.ref x1])) k0 (.dK [])) k1' (.dK [])) lb (.lst [V.ref k0,.ref k1'])) l0 (.lst [])) l1 (.lst []) l1=some (.lst []):=aj
 have T7:upd (upd (upd (upd (upd (upd (upd Hc lh (.lst [V.ref x0,.ref x1])) k0 (.dK [])) k1' (.dK [])) lb (.lst [V.ref k0,.ref k1'])) l0 (.lst [])) l1 (.lst [])) lm (.lst [V.ref l0,.ref l1]) lm=some (.lst [V.ref l0,.ref l1]):=aj
 have bk:∀{H H':Hp}{z:Addr},ax H H'→H' z=none→H z=none:=fun S hz=>(KM.same (l:=[]) S).none hz (nofun)
 generalize upd Hc lh (.lst [V.ref x0,.ref x1])=G1 at*
 generalize upd G1 k0 (.dK [])=G2 at*
 generalize upd G2 k1' (.dK [])=G3 at*
 generalize upd G3 lb (.lst [V.ref k0,.ref k1'])=G4 at*
 generalize upd G4 l0 (.lst [])=G5 at*
 generalize upd G5 l1 (.lst [])=G6 at*
 show uW K A _ [some (.ref a),some (.ref f),some (.int (B:Int)),some (.ref lh),some (.ref lb),some (.ref lm),none,none,none,none] _
 generalize upd G6 lm (.lst [V.ref l0,.ref l1])=Hd at*
 have SS:=S1.trans (S2.trans (S3.trans (S4.trans (S5.trans (S6.trans S7)))))
 have R6:=S7
 have R5:=S6.trans R6
 have R4:=S5.trans R5
 have R3:=S4.trans R4
 have R2:=S3.trans R3
 have R1:=S2.trans R2
 have lw0:LW K A Hd a lh lb lm f b ns g2 10 B 0 false ⟨x0,h0,k0,l0,[],[]⟩ ⟨x1,h1,k1',l1,[],[]⟩:=by
  refine LW.start hs0 hd0 st1 kc hs1' fr1 hd1 st2 sub2 SS (fun z hz=>?_) ?_ (R1 _ _ T1) (R4 _ _ T4) T7 (R2 _ _ T2) (R3 _ _ T3) (R5 _ _ T5) (R6 _ _ T6) (tcc.keep fun z o e _=>SS z o e) sqc na
  ·simp only[gV,pz,or_false]at hz
   rcases hz with rfl|rfl|rfl|rfl|rfl|rfl|rfl
   ·exact hlh
   ·exact bk S1 hk0
   ·exact bk (S1.trans S2) hk1
   ·exact bk (S1.trans (S2.trans S3)) hlb
   ·exact bk (S1.trans (S2.trans (S3.trans S4))) hl0
   ·exact bk (S1.trans (S2.trans (S3.trans (S4.trans S5)))) hl1
   ·exact bk (S1.trans (S2.trans (S3.trans (S4.trans (S5.trans S6))))) hlm
  ·simp only[Mc,gV,pz,or_false,not_or,not_false_eq_true,MN,and_true]
   refine⟨⟨ag T1 hk0,ag (S2 _ _ T1) hk1,ag ((S2.trans S3) _ _ T1) hlb,ag ((S2.trans (S3.trans S4)) _ _ T1) hl0,ag ((S2.trans (S3.trans (S4.trans S5))) _ _ T1) hl1,ag ((S2.trans (S3.trans (S4.trans (S5.trans S6)))) _ _ T1) hlm⟩,
    ⟨ag T2 hk1,ag (S3 _ _ T2) hlb,ag ((S3.trans S4) _ _ T2) hl0,ag ((S3.trans (S4.trans S5)) _ _ T2) hl1,ag ((S3.trans (S4.trans (S5.trans S6))) _ _ T2) hlm⟩,
    ⟨ag T3 hlb,ag (S4 _ _ T3) hl0,ag ((S4.trans S5) _ _ T3) hl1,ag ((S4.trans (S5.trans S6)) _ _ T3) hlm⟩,
    ⟨ag T4 hl0,ag (S5 _ _ T4) hl1,ag ((S5.trans S6) _ _ T4) hlm⟩,
    ⟨ag T5 hl1,ag (S6 _ _ T5) hlm⟩,ag T6 hlm⟩
 clear T1 T2 T3 T4 T5 T6 T7 R1 R2 R3 R4 R5 R6 SS S1 S2 S3 S4 S5 S6 S7 bk hlh hk0 hk1 hlb hl0 hl1 hlm na tcc sqc fr0 fr1 hs0 hs1' hd0 hd1 st1 st2
 refine .inl (.inl ⟨_,lw0.sq,?_⟩)
 rw[LJ]
 have hM:(if (42:Int)<(ns.length:Int)then(42:Int)else(ns.length:Int))≤42∧(if (42:Int)<(ns.length:Int)then(42:Int)else(ns.length:Int))≤ns.length∧0≤(if (42:Int)<(ns.length:Int)then(42:Int)else(ns.length:Int)):=by split<;>omega
 show ∃i j:Int,[V.int 2,V.int (if (42:Int)<(ns.length:Int)then(42:Int)else(ns.length:Int))]=[.int i,.int j]∧_
 generalize (if (42:Int)<(ns.length:Int)then(42:Int)else(ns.length:Int))=M at hM
 refine⟨2,M,rfl,⟨by decide,by decide,by omega,by omega⟩,mP (lo:=2) (n:=(M- 2).toNat) (fun i σ H'=>∃(x6 x7 x8:Option V)(g':gOp)(s s':SA),σ=[some (.ref a),some (.ref f),some (.int (B:Int)),some (.ref lh),some (.ref lb),some (.ref lm),x6,x7,x8,none]∧LW K A H' a lh lb lm f b ns g' (10+230*i) B i false s s')
  ⟨none,none,none,g2,_,_,rfl,lw0⟩ ?_ ?_⟩
 ·rintro i σ H' hi ⟨x6,x7,x8,g',s,s',rfl,lw'⟩
  obtain⟨v,hv⟩:=kZ (xs:=ns.map V.int) (i:=2+(i:Int)) (by omega) (by rw[LJ];omega)
  obtain⟨j,_,hj,_⟩:=eU hv
  obtain⟨c,_,rfl⟩:=jx hj
  refine .inl (.inl ⟨a,_,_,_,rfl,rfl,lw'.sq,hv,c,_,rfl,fun z hz=>⟨by decide,?_⟩⟩)
  obtain⟨w,hw⟩:=EW z
  obtain⟨s,s',lw'⟩:=lw'.any w
  have fin:∀(D:eN)(g5:gOp)(H5:Hp)(s s':SA),LW K A H5 a lh lb lm f b ns g5 (10+230*i+10) B i w s s'→(∀(g6:gOp)(H6:Hp)(s s':SA),LW K A H6 a lh lb lm f b ns g6 (10+230*(i+1)) B (i+1) false s s'→D.nx [some (.ref a),some (.ref f),some (.int (B:Int)),some (.ref lh),some (.ref lb),some (.ref lm),some (.int (2+(i:Int))),some (.int z),some (.int (z%2)),none] H6)→zo K A D [some (.ref a),some (.ref f),some (.int (B:Int)),some (.ref lh),some (.ref lb),some (.ref lm),some (.int (2+(i:Int))),some (.int z),some (.int (z%2)),none] H5:=fun D g5 H5 s s' lw5 qD=>
   zZ lw5 (by omega) (by omega) hw hv fun g6 H6 s2 lw6=>by
    obtain⟨s,s',lw6⟩:=lw6.any false
    have en:10+230*i+10+220=10+230*(i+1):=by omega
    rw[en]at lw6
    exact qD g6 H6 s s' lw6
  refine⟨⟨by decide,by decide⟩,by decide,Sel.dec (fun h=>?_) (fun h=>?_)⟩
  ·obtain⟨t,ts,kn,p⟩:=lw'.p
   have at1:∀{p q:V},atI (two w p q) (z%2)=some p:=by intro p q;rw[hw];exact lc w _ _
   obtain⟨dx,hx⟩:=p.hs.ob
   have ow:=lw'.ow
   obtain⟨⟨_,_,_,_,bs,bk,bl⟩,_,_,_,_,⟨sk,sl⟩,kl⟩:=ow.all
   refine .inl (.inl ⟨lh,_,_,_,rfl,rfl,SqL.of lw'.hlh,at1,s.x,dx,_,rfl,hx,rfl,s.x,f,b,g',_,B,s.a,t,ts,s.ys,rfl,p.hs,ow.had,lw'.st,p.ts',by omega,fun x' a' g5 H5 k5 hs5 hs5' esl esd fr nd4 st5 sub5=>?_⟩)
   have nlm:=lw'.nl.mu
   have n2:∀{y:Addr},y∈[lh,lb,lm]→y∉[b,s.a.sd]:=fun hy=>bx (fun q=>nlm _ hy (by rw[q];simp[mu])) (fun q=>nlm _ hy (by rw[q];simp[mu]))
   have hlh5:=k5 _ _ (n2 (by simp)) lw'.hlh
   have hlb5:=k5 _ _ (n2 (by simp)) lw'.hlb
   have hlm5:=k5 _ _ (n2 (by simp)) lw'.hlm
   have hk5:=k5 _ _ (bx (Lt bk) (Lt sk)) p.hk
   have hl5:=k5 _ _ (bx (Lt bl) (Lt sl)) p.hl
   have nd3:=lw'.nd
   simp only[Mc,gV,pz,or_false,not_or,not_false_eq_true,MN,and_true]at nd3
   obtain⟨⟨lhb,lhm⟩,lbm⟩:=nd3
   have kl3:∀{y:Addr},y∈[lh,lb,lm]→s.k≠y∧s.l≠y:=fun hy=>⟨fun q=>nlm _ hy (by rw[←q];simp[mu]),fun q=>nlm _ hy (by rw[←q];simp[mu])⟩
   obtain⟨j1,e1,e2⟩:=mw w (.ref s.x) (.ref s'.x) (.ref x')
   rw[←hw]at e1
   refine .inl ⟨lh,_,_,j1,rfl,rfl,hlh5,e1,?_⟩
   rw[e2]
   have up:∀{HH:Hp}{y z:Addr}{o u:HO},z≠y→HH z=some o→upd HH y u z=some o:=fun n e=>by rw[ao n];exact e
   have E1:upd H5 lh (.lst (two w (.ref s.x) (.ref x'))) lh=some (.lst (two w (.ref s.x) (.ref x'))):=aj
   have hlb6:upd H5 lh (.lst (two w (.ref s.x) (.ref x'))) lb=_:=up (Lt lhb) hlb5
   have hlm6:upd H5 lh (.lst (two w (.ref s.x) (.ref x'))) lm=_:=up (Lt lhm) hlm5
   have hk6:upd H5 lh (.lst (two w (.ref s.x) (.ref x'))) s.k=_:=up (kl3 (by simp)).1 hk5
   have hl6:upd H5 lh (.lst (two w (.ref s.x) (.ref x'))) s.l=_:=up (kl3 (by simp)).2 hl5
   have K6:KM [lh,lb,lm] H5 (upd H5 lh (.lst (two w (.ref s.x) (.ref x')))):=KM.upd (by simp)
   have st6:Stp A (upd H5 lh (.lst (two w (.ref s.x) (.ref x')))) f b g5 (10+230*i+10):=st5.setL hlh5
   have N6:∀{y:Addr},upd H5 lh (.lst (two w (.ref s.x) (.ref x'))) y=none→H5 y=none:=fun hy=>(bp hy).2
   generalize upd H5 lh (.lst (two w (.ref s.x) (.ref x')))=H6 at*
   refine .inl (.inl ⟨lb,_,_,_,rfl,rfl,SqL.of hlb6,at1,s.k,_,rfl,hk6,fun d hd=>?_⟩)
   have S7:=ax.upd (o:=.dK (dOf kn)) hd
   have E7:upd H6 d (.dK (dOf kn)) d=some (.dK (dOf kn)):=aj
   have dlb:d≠lb:=Lt (ag hlb6 hd)
   have dlm:d≠lm:=Lt (ag hlm6 hd)
   obtain⟨j2,e3,e4⟩:=mw w (.ref s.k) (.ref s'.k) (.ref d)
   rw[←hw]at e3
   refine .inl ⟨lb,_,_,j2,rfl,rfl,S7 _ _ hlb6,e3,?_⟩
   rw[e4]
   have E8:upd (upd H6 d (.dK (dOf kn))) lb (.lst (two w (.ref s.k) (.ref d))) lb=some (.lst (two w (.ref s.k) (.ref d))):=aj
   have E81:upd (upd H6 d (.dK (dOf kn))) lb (.lst (two w (.ref s.k) (.ref d))) lh=_:=up lhb (S7 _ _ E1)
   have E8d:upd (upd H6 d (.dK (dOf kn))) lb (.lst (two w (.ref s.k) (.ref d))) d=_:=up dlb E7
   have hlm8:upd (upd H6 d (.dK (dOf kn))) lb (.lst (two w (.ref s.k) (.ref d))) lm=_:=up (Lt lbm) (S7 _ _ hlm6)
   have hl8:upd (upd H6 d (.dK (dOf kn))) lb (.lst (two w (.ref s.k) (.ref d))) s.l=_:=up (kl3 (y:=lb) (by simp)).2 (S7 _ _ hl6)
   have K8:KM [lh,lb,lm] H5 (upd (upd H6 d (.dK (dOf kn))) lb (.lst (two w (.ref s.k) (.ref d)))):=K6.trans ((KM.same S7).trans (KM.upd (by simp)))
   have st8:Stp A (upd (upd H6 d (.dK (dOf kn))) lb (.lst (two w (.ref s.k) (.ref d)))) f b g5 (10+230*i+10):=(st6.same (ah _) S7).setL (S7 _ _ hlb6)
   have N8:∀{y:Addr},upd (upd H6 d (.dK (dOf kn))) lb (.lst (two w (.ref s.k) (.ref d))) y=none→H5 y=none:=fun hy=>N6 (bp (bp hy).2).2
   have hd5:=N6 hd
   generalize upd (upd H6 d (.dK (dOf kn))) lb (.lst (two w (.ref s.k) (.ref d)))=H8 at*
   refine .inl (.inl ⟨lm,_,_,_,rfl,rfl,SqL.of hlm8,at1,s.l,_,rfl,.inl (SqL.of hl8),fun l' hl'=>?_⟩)
   have S9:=ax.upd (o:=.lst (s.ds.map V.ref)) hl'
   have E9:upd H8 l' (.lst (s.ds.map V.ref)) l'=some (.lst (s.ds.map V.ref)):=aj
   have llm:l'≠lm:=Lt (ag hlm8 hl')
   obtain⟨j3,e5,e6⟩:=mw w (.ref s.l) (.ref s'.l) (.ref l')
   rw[←hw]at e5
   refine .inl ⟨lm,_,_,j3,rfl,rfl,S9 _ _ hlm8,e5,?_⟩
   rw[e6]
   have hl5':=N8 hl'
   have fresh:∀{y:Addr},H5 y=none→H' y=none:=fun{y} hy=>k5.none hy (bx (fun q=>by obtain⟨_,e⟩:=st5.bd;rw[←q,hy]at e;cases e) (fun q=>by obtain⟨_,e,_⟩:=hs5.se.di;rw[q,e]at hy;cases hy))
   have lwT:=lw'.twin p k5 hs5 hs5' esl esd fr nd4 st5 (K8.trans ((KM.same S9).trans (KM.upd (by simp)))) (up lhm (S9 _ _ E81)) (up lbm (S9 _ _ E8)) aj (up dlm (S9 _ _ E8d)) (up llm E9) (fresh hd5) (fresh hl5') hd5 hl5' ((st8.same (ah _) S9).setL (S9 _ _ hlm8))
   exact fin _ g5 _ _ _ lwT fun g6 H6 s s' l=>⟨_,_,_,g6,s,s',rfl,l⟩
  ·obtain⟨t,ts,kn,p⟩:=lw'.p
   obtain⟨t',ts',kn',p'⟩:=lw'.p'
   exact fin _ g' H' s s' ⟨lw'.hlh,lw'.hlb,lw'.hlm,⟨t,ts,kn,p.up (by omega) (ah _)⟩,⟨t',ts',kn',p'.up (by omega) (ah _)⟩,lw'.ow,lw'.ow',lw'.ap,lw'.ap',lw'.nl,lw'.nl',lw'.nd,lw'.st.same (by omega) ax.rfl',lw'.tc,lw'.sq,lw'.na⟩ fun g6 H6 s s' l=>⟨_,_,_,g6,s,s',rfl,l⟩
 ·rintro σ H5 ⟨x6,x7,x8,g5,s,s',rfl,lw5⟩
  have hM2:(M- 2).toNat≤40:=by omega
  have hN:10+230*(M- 2).toNat+100≤45000:=by omega
  generalize 10+230*(M- 2).toNat=N at lw5 hN
  obtain⟨t,ts,kn,p⟩:=lw5.p
  obtain⟨t',ts',kn',p'⟩:=lw5.p'
  have hlb5:H5 lb=some (.lst [.ref s.k,.ref s'.k]):=lw5.hlb
  have ln:=p.ln
  have ln':=p'.ln
  refine ixL (j:=0) hlb5 rfl rfl (.inr ⟨s.k,kn.map fR,rfl,by rw[p.hk,mq];rfl,by rw[LJ];omega,fun l1 ns1 hl1 pm1 _=>?_⟩)
  have S6:=ax.upd (o:=.lst (ns1.map V.int)) hl1
  refine ixL (j:=1) (S6 _ _ hlb5) rfl rfl (.inr ⟨s'.k,kn'.map fR,rfl,by rw[S6 _ _ p'.hk,mq];rfl,by rw[LJ];omega,fun l2 ns2 hl2 pm2 _=>?_⟩)
  have S7:=ax.upd (o:=.lst (ns2.map V.int)) hl2
  have z1:ns1.length≤40:=by have:=pm1.length_eq;rw[LJ,LJ]at this;omega
  have z2:ns2.length≤40:=by have:=pm2.length_eq;rw[LJ,LJ]at this;omega
  obtain⟨_,_,kb1⟩:=p.BB
  obtain⟨_,_,kb2⟩:=p'.BB
  refine .inl ⟨l1,l2,_,_,rfl,rfl,S7 _ _ aj,aj,bq (by rw[LJ,LJ];omega),fun pq hpq=>?_⟩
  have S8:=ax.upd (o:=.lst (ns1.map V.int++ns2.map V.int)) hpq
  obtain⟨ks1,rfl,b1⟩:=qC pm1 kb1
  obtain⟨ks2,rfl,b2⟩:=qC pm2 kb2
  have hp8:upd (upd (upd H5 l1 (.lst ((ks1.map (fun k:Nat=>(k:Int))).map V.int))) l2 (.lst ((ks2.map (fun k:Nat=>(k:Int))).map V.int))) pq (.lst ((ks1.map (fun k:Nat=>(k:Int))).map V.int++(ks2.map (fun k:Nat=>(k:Int))).map V.int)) pq=some (.lst ((ks1++ks2).map fun k:Nat=>V.int (k:Int))):=by
   rw[aj,MI,MP,MP];rfl
  have S:=S6.trans (S7.trans S8)
  have bb:∀k∈ks1++ks2,k<2^B:=fun k hk=>(Mu.mp hk).elim (b1 k) (b2 k)
  generalize upd (upd (upd H5 l1 (.lst ((ks1.map (fun k:Nat=>(k:Int))).map V.int))) l2 (.lst ((ks2.map (fun k:Nat=>(k:Int))).map V.int))) pq (.lst ((ks1.map (fun k:Nat=>(k:Int))).map V.int++(ks2.map (fun k:Nat=>(k:Int))).map V.int))=H8 at hp8 S⊢
  obtain⟨zs,ez,zm⟩:=uY (ks1++ks2)
  refine⟨12,rfl,.inl (.inl ⟨pq,_,rfl,SqL.of hp8,fun pk hpk=>?_⟩)⟩
  rw[ez]
  have S9:=ax.upd (o:=.lst (zs.map fun k:Nat=>V.int (k:Int))) hpk
  have hp9:upd H8 pk (.lst (zs.map fun k:Nat=>V.int (k:Int))) pk=some (.lst (zs.map fun k:Nat=>V.int (k:Int))):=aj
  generalize upd H8 pk (.lst (zs.map fun k:Nat=>V.int (k:Int)))=H9 at*
  have SA:=S.trans S9
  have bz:∀k∈zs,k<2^B:=fun k hk=>bb k (zm k hk)
  have hlh5:H5 lh=some (.lst [.ref s.x,.ref s'.x]):=lw5.hlh
  have hlm5:H5 lm=some (.lst [.ref s.l,.ref s'.l]):=lw5.hlm
  refine ixL (j:=0) (SA _ _ hlh5) rfl rfl (ixL (j:=0) (SA _ _ hlm5) rfl rfl ⟨f,b,pk,g5,N,B,_,s,t,ts,kn,zs,rfl,p.same SA (ah _),lw5.st.same (ah _) SA,by omega,hN,hp9,bz,fun HA SA2=>Sel.no rfl ?_⟩)
  have SB:=SA.trans SA2
  refine ixL (j:=1) (SB _ _ hlh5) rfl rfl (ixL (j:=1) (SB _ _ hlm5) rfl rfl ⟨f,b,pk,g5,N,B,_,s',t',ts',kn',zs,rfl,p'.same SB (ah _),lw5.st.same (ah _) SB,by omega,hN,SA2 _ _ hp9,bz,fun HB SB2=>Sel.no rfl ?_⟩)
  have SC:=SB.trans SB2
  exact⟨_,.int 0,rfl,.int _,rfl,lw5.tc.keep fun z o e _=>SC z o e,fun HC _ tc1=>Sel.t ⟨_,.int 61,rfl,.int _,rfl,tc1,fun HD _ tc2=>Sel.t ⟨_,.bl true,rfl,.bl _,rfl,tc2,fun HE _ _=>q HE⟩⟩⟩
section
structure TP (P:Mf)(w:Mx)(K:cW)(mg:Str→Option pv)(base:Heap)(A:Adr):Prop extends Txt K mg A where
 B:BM mg base
 C_65:OS base A.k_65 A.t_65
 C_55:OS base A.k_55 A.t_55
variable {P:Mf}{w:Mx}{K:cW}{mg:Str→Option pv}{base:Heap}{A:Adr}(T:TP P w K mg base A)
include T
theorem jp:aB P w K mg base (CX1 P w) 1 A.a_77 A.d_77 ["thing"] (fG K A):=
 T.f_77.f.okS Hq (Be K A) (Gz T.1) fun _ _ _ _ _ _ hr=>
 aq (az (ck (aV fw T.z_isinstance MA (ac (aa 0) (ac (fx T.z_int boot_int) (ak)))) (dh (oj (aV fw T.z_isinstance MA (ac (aa 0) (ac (fx T.z_bool boot_bool) (ak))))))))
theorem sh:aB P w K mg base (CX1 P w) 2 A.a_74 A.d_74 ["thing"] (jy K A):=
 T.f_74.f.okS Jk (DF K A) (Gc T.1) fun _ _ _ _ _ _ hr=>
 au (bv (cu (aY (jp T) hr.le T.f_77 (ac (aa 0) (ak)))) (aq (az (fK oLe oLt (av) (aa 0) (aG Li (av) (av))))) (aT)) (aq (az (aV fw T.z_isinstance MA (ac (aa 0) (ac (fx T.z_str QJ) (ak))))))
theorem GS:aB P w K mg base (CX1 P w) 3 A.a_75 A.d_75 ["thing"] (oS K A):=
 T.f_75.f.okS Ge (Eh K A) (IR T.1) fun _ _ _ _ _ _ hr=>
 au (bv (cE (cu (aV fw T.z_isinstance MA (ac (aa 0) (ac (fx T.z_tuple Tp) (ak)))))) (aq (az (dO))) (aT)) (au (bv (cE (xV oLe oLe (av) (aV dq T.z_len Mv (ac (aa 0) (ak))) (vV T.c_MOST_PARTS))) (aq (az (dO))) (aT)) (aq (az (ck (aV fw T.z_isinstance MA (ac (cm (bw hr.units1) (aa 0) (av) (fun _ _=>rfl)) (ac (fx T.z_str QJ) (ak)))) (dh (aV (Jz rfl) T.z_all L2.BW (ac (ut (ys:=[]) (by exact⟨rfl,by decide+kernel,by decide+kernel,rfl,by decide+kernel,by decide+kernel⟩) (by exact .nil) (iI (aa 0)) (fun C s H fp=>uM) (fun C s H fp=>(aY (sh T) hr.le T.f_74 (ac (aa 0) (ak))))) (ak))))))))
theorem Gd:aB P w K mg base (CX1 P w) 4 A.a_25 A.d_25 ["self","term"] (oZ K A):=
 T.f_25.okS EL (Ex K A) (Fb T.1) fun _ _ _ _ _ _ hr=>
 au (bv (cE (cu (aY (GS T) hr.le T.f_75 (ac (aa 1) (ak))))) (aq (iZ)) (aT)) (au (bv (bE (mB hr.units150) (aa 1) (aE (aa 0))) (aq (eF hr.units1 (aE (aa 0)) (aa 1) (aV dq T.z_len Mv (ac (aE (aa 0)) (ak))))) (aT)) (aq (az (cm (bw hr.units1) (aE (aa 0)) (aa 1) (fun _ _=>rfl)))))
theorem Fg (f c:Addr)(cl:List (Str×Addr))(Ar:Mn)(outer:List Env)(s:wr)(H:Hp)(E:XK)
  (hr:aU 4 (Ar.deeper (PN dI.qual dI.scope s.heap.objs.size f (.ref c) cl))):PE (gS P w K mg base ["term","numbers"] dI.qual dI.scope f c cl Ar outer s H E).nox (eI wo) (Cv K A):=QE.out (
 be (aa 1) T.cl_Numbers T.me_Numbers_number_of (Gd T) hr.le T.b_25 aC (ac (aa 0) (ak)))
theorem Fj:fB P w K mg base 5 dI (tp K A):=
 jn rfl Iy (fun f c cl Ar outer s H vs cvs Q E hr hl hc h=>by
  obtain⟨a0,rfl⟩:=L2.dJ hl
  obtain⟨b0,rfl⟩:=L2.dJ hc
  exact⟨_,(Fg T f c cl Ar outer s H E hr).nox,Iq T.1 a0 b0 H Q E h⟩)
theorem Fz (f c:Addr)(cl:List (Str×Addr))(Ar:Mn)(outer:List Env)(s:wr)(H:Hp)(E:XK)
  (hr:aU 0 (Ar.deeper (PN fg.qual fg.scope s.heap.objs.size f (.ref c) cl))):PE (gS P w K mg base ["_law_term","_law_book"] fg.qual fg.scope f c cl Ar outer s H E).nox (eI vR) (Ca K A):=QE.out (
 hV Nn MS PySem.F.type_dict_setdefault (uU hr.units1) (aa 1) (ac (aa 0) (ac (aG df (aG eL (av) (aV dq T.z_len Mv (ac (aa 1) (ak)))) (av)) (ak))))
theorem GN:fB P w K mg base 1 fg (rX K A):=
 jn rfl Fo (fun f c cl Ar outer s H vs cvs Q E hr hl hc h=>by
  obtain⟨a0,rfl⟩:=L2.dJ hl
  obtain⟨b0,rfl⟩:=L2.dJ hc
  exact⟨_,(Fz T f c cl Ar outer s H E hr).nox,Ic T.1 a0 b0 H Q E h⟩)
theorem yo:aB P w K mg base (CX1 P w) 1 A.a_59 A.d_59 ["_law_term"] (kW K A):=
 T.f_59.f.okS gp (Dh K A) (Jb T.1) fun _ _ _ _ _ _ hr=>
 au (aP 1 gp.nd (av)) (au (jh 2 gp.nd (iI (aa 0)) (au (bv (cu (aV fw T.z_isinstance MA (ac (aa 2) (ac (fx T.z_str QJ) (ak))))) (au (aP 1 gp.nd (aG df (aG eL (aa 1) (av)) (aG eL (av) (aV dq T.z_len Mv (ac (aa 2) (ak)))))) (aq (jh 3 gp.nd (iI (qY tK (aa 2) (qG) (qB (av)))) (aq (aP 1 gp.nd (aG df (aG eL (aa 1) (av)) (aV KI T.z_ord boot_ord (ac (aa 3) (ak)))))) NM))) (aq (aP 1 gp.nd (aG df (aG eL (aa 1) (av)) (aa 2))))) (aq (aP 1 gp.nd (aG cB (aa 1) (av))))) NM) (aq (az (aa 1))))
theorem Fp (f c:Addr)(cl:List (Str×Addr))(Ar:Mn)(outer:List Env)(s:wr)(H:Hp)(E:XK)
  (hr:aU 1 (Ar.deeper (PN fi.qual fi.scope s.heap.objs.size f (.ref c) cl))):PE (gS P w K mg base ["_law_one","_law_many"] fi.qual fi.scope f c cl Ar outer s H E).nox (eI wB) (DD K A):=QE.out (
 aG cB (aY (yo T) hr.le T.f_59 (ac (aa 0) (ak))) (aa 1))
theorem IM:fB P w K mg base 2 fi (sr K A):=
 jn rfl Ht (fun f c cl Ar outer s H vs cvs Q E hr hl hc h=>by
  obtain⟨a0,rfl⟩:=L2.dJ hl
  obtain⟨b0,rfl⟩:=L2.dJ hc
  exact⟨_,(Fp T f c cl Ar outer s H E hr).nox,GZ T.1 a0 b0 H Q E h⟩)
theorem GQ (f c:Addr)(cl:List (Str×Addr))(Ar:Mn)(outer:List Env)(s:wr)(H:Hp)(E:XK)
  (hr:aU 1 (Ar.deeper (PN fh.qual fh.scope s.heap.objs.size f (.ref c) cl))):PE (gS P w K mg base ["_law_other","_law_many"] fh.qual fh.scope f c cl Ar outer s H E).nox (eI xp) (AT K A):=QE.out (
 aG df (dE) (dL Kf T.z_str QJ (ac (aG cB (aY (yo T) hr.le T.f_59 (ac (aa 0) (ak))) (aa 1)) (ak))))
theorem GV:fB P w K mg base 2 fh (sU K A):=
 jn rfl Hm (fun f c cl Ar outer s H vs cvs Q E hr hl hc h=>by
  obtain⟨a0,rfl⟩:=L2.dJ hl
  obtain⟨b0,rfl⟩:=L2.dJ hc
  exact⟨_,(GQ T f c cl Ar outer s H E hr).nox,Jo T.1 a0 b0 H Q E h⟩)
theorem IW:aB P w K mg base (CX1 P w) 1 A.a_24 A.d_24 ["self"] (nV K A):=
 T.f_24.okS Ff (Dd K A) (GY T.1) fun _ _ _ _ _ _ hr=>
 aq (bi (aa 0) (fT))
theorem IN (B:BM mg base)(C:OS base A.k_65 A.t_65)(Ar:Mn)(outer:List Env)(s:wr)(H:Hp)(E:XK)
  (hr:aU 2 (Ar.deeper (envOfC "counting" (ai jZ) s.heap.objs.size A.a_65 (.ref A.k_65)))):QMs (cH (CX1 P w) P w K mg base ["numbers"] "counting" (ai jZ) A.a_65 (.ref A.k_65) Ar outer s H E).nox (aO jZ) (Cc K A (s.heap.objs.size+1)):=(
 gK (pO (aP 0 zB.nd (gZ T.mk_Numbers (IW T) hr.le T.mc_Numbers T.b_24 aC))) (kM (kX (nZ B C rfl (by rfl) (by simp<;>omega) rfl rfl rfl rfl (fun _ _ _ _ us hl=>by obtain⟨_,rfl⟩:=L2.dJ hl;rfl)))))
theorem yq:aB P w K mg base (CX1 P w) 3 A.a_65 A.d_65 [] (kR K A):=
 T.f_65.f.okM (caps:=fun L=>[(0,L+1)]) T.kc_65 zB (DS K A) (fun L p hp=>by simp only[gV,pz,or_false]at hp;rcases hp with rfl<;>exact⟨_,rfl,rfl,rfl⟩) (fun L=>by simp) (fun Ar outer s H vs Q E hr h=>⟨_,QMs.nox (IN T T.B T.C_65 Ar outer s H E hr),GI T.1 (s.heap.objs.size+1) (by simp) vs H Q E h⟩)
theorem FF (B:BM mg base)(C:OS base A.k_55 A.t_55)(Ar:Mn)(outer:List Env)(s:wr)(H:Hp)(E:XK)
  (hr:aU 3 (Ar.deeper (envOfC "_law_stamper" (ai ig) s.heap.objs.size A.a_55 (.ref A.k_55)))):QMs (cH (CX1 P w) P w K mg base ["_law_cell","_law_book","_law_many"] "_law_stamper" (ai ig) A.a_55 (.ref A.k_55) Ar outer s H E).nox (aO ig) (Bi K A (s.heap.objs.size+1) (s.heap.objs.size+1+1)):=(
 gK (pO (aP 1 sH.nd (fT))) (gK (pO (aP 2 sH.nd (aG df (av) (aG cB (aG dB (aa 0) (av)) (av))))) (gK (xS (bE (cA hr.units150) (aG cB (aa 0) (av)) (av)) (kM (kX (pV (yq T) hr.le T.f_65.m T.f_65.f.kp T.f_65.b aC))) (sD)) (gK (xS (bE (cA hr.units150) (aG cB (aa 0) (av)) (av)) (kM (kX (nZ B C rfl (by rfl) (by simp<;>omega) rfl rfl rfl rfl (fun _ _ _ _ us hl=>by obtain⟨_,rfl⟩:=L2.dJ hl;rfl)))) (sD)) (gK (xS (bE (cA hr.units150) (aG cB (aa 0) (av)) (av)) (kM (kX (nZ B C rfl (by rfl) (by simp<;>omega) rfl rfl rfl rfl (fun _ _ _ _ us hl=>by obtain⟨_,rfl⟩:=L2.dJ hl;rfl)))) (sD)) (kM (kX (nZ B C rfl (by rfl) (by simp<;>omega) rfl rfl rfl rfl (fun _ _ _ _ us hl=>by obtain⟨_,rfl⟩:=L2.dJ hl;rfl)))))))))
theorem Fq:aB P w K mg base (CX1 P w) 4 A.a_55 A.d_55 ["_law_cell"] (nU K A):=
 T.f_55.f.okM (caps:=fun L=>[(1,L+1),(2,L+1+1)]) T.kc_55 sH (CW K A) (fun L p hp=>by simp only[gV,pz,or_false]at hp;rcases hp with rfl|rfl<;>exact⟨_,rfl,rfl,rfl⟩) (fun L=>by simp) (fun Ar outer s H vs Q E hr h=>⟨_,QMs.nox (FF T T.B T.C_55 Ar outer s H E hr),Jf T.1 (s.heap.objs.size+1) (s.heap.objs.size+1+1) (by simp) vs H Q E h⟩)
theorem yw:aB P w K mg base (CX1 P w) 1 A.a_43 A.d_43 ["_law_script","_law_k"] (kL K A):=
 T.f_43.f.okS IE (Ct K A) (ER T.1) fun _ _ _ _ _ _ hr=>
 au (bv (bE oLt (aa 1) (aV dq T.z_len Mv (ac (aa 0) (ak)))) (aq (az (cm (bw hr.units1) (aa 0) (aa 1) (fun _ _=>rfl)))) (aT)) (aq (az (av)))
theorem EM:aB P w K mg base (CX1 P w) 2 A.a_68 A.d_68 ["thing"] (oF K A):=
 T.f_68.f.okS FZ (Do K A) (EZ T.1) fun _ _ _ _ _ _ hr=>
 aq (az (ck (aY (jp T) hr.le T.f_77 (ac (aa 0) (ak))) (dh (fK oLe oLe (av) (aa 0) (vV T.c_MOST_BITS)))))
theorem iM:lM P w K mg base 5 (gP K A):=fun ts hts=>by
 simp only[gP,gV,pz,or_false]at hts
 rcases hts with rfl|rfl|rfl|rfl
 ·exact(Fj T).mono (by decide)
 ·exact(GN T).mono (by decide)
 ·exact(IM T).mono (by decide)
 ·exact(GV T).mono (by decide)
theorem rH:aB P w K mg base (CX1 P w) 6 A.a_19 A.d_19 ["self","stamper","term"] (jr K A):=
 T.f_19.okS GF (EE K A) (IL T.1) fun _ _ _ _ _ _ hr=>
 au (bi (aa 0) (aa 2)) (aq (bi (aa 0) (qg (iM T) hr.le aC (aa 1) (ac (aa 2) (ak)))))
theorem Bm:aB P w K mg base (CX1 P w) 7 A.a_0 A.d_0 ["self","stamper"] (mD K A):=
 T.f_0.okS Ju (Gr K A) (KJ T.1) fun _ _ _ _ _ _ hr=>
 aq (cM (qe T.mc_Knot T.cf_Knot (rH T) hr.le T.b_19 aC (ac (aa 0) (ac (aa 1) (ac (dR (ac (dE) (ak))) (ak))))))
theorem Hs (cdv:pv)(Ar:Mn)(outer:List Env)(s:wr)(H:Hp)(E:XK)
  (hr:aU 8 (Ar.deeper (envOfC "Table.__init__" (ai mh) s.heap.objs.size A.a_37 cdv))):PSs (cH (CX1 P w) P w K mg base ["self","stamper","bits"] "Table.__init__" (ai mh) A.a_37 cdv Ar outer s H E) (aO mh) (CO K A E):=QSs.out (
 au (bv (cE (cu (aY (EM T) hr.le T.f_68 (ac (aa 2) (ak))))) (aq (gI T.er_NoBits T.mc_NoBits fu)) (aT)) (au (bi (aa 0) (aa 1)) (au (bi (aa 0) (aa 2)) (aq (bi (aa 0) (cj T.mk_Bare (Bm T) hr.le T.mc_Bare T.b_0 aC (ac (aa 1) (ak))))))))
theorem zw:aB P w K mg base (CX1 P w) 9 A.a_37 A.d_37 ["self","stamper","bits"] (jg K A):=
 T.f_37.okX Ip (Cw K A) (fun cdv Ar outer s H vs Q E hr h=>⟨_,Hs T cdv Ar outer s H E hr,Ga T.1 vs H Q E h⟩)
theorem yz:aB P w K mg base (CX1 P w) 1 A.a_26 A.d_26 ["self","stamper"] (kG K A):=
 T.f_26.okS FL (Dn K A) (GL T.1) fun _ _ _ _ _ _ hr=>
 au (bi (aa 0) (aa 1)) (au (bi (aa 0) (dS (ak))) (aq (bi (aa 0) (fT))))
theorem si:aB P w K mg base (CX1 P w) 2 A.a_69 A.d_69 ["thing"] (ji K A):=
 T.f_69.f.okS EV (CA K A) (FH T.1) fun _ _ _ _ _ _ hr=>
 aq (az (ck (aY (jp T) hr.le T.f_77 (ac (aa 0) (ak))) (dh (fK oLe oLt (av) (aa 0) (aG mv (av) (av))))))
theorem Iv:aB P w K mg base (CX1 P w) 3 A.a_71 A.d_71 ["thing"] (nP K A):=
 T.f_71.f.okS Hh (Bv K A) (Fw T.1) fun _ _ _ _ _ _ hr=>
 aq (az (ck (aV fw T.z_isinstance MA (ac (aa 0) (ac (fx T.z_tuple Tp) (ak)))) (ck (et (cA hr.units150) (aV dq T.z_len Mv (ac (aa 0) (ak))) (av)) (ck (aY (si T) hr.le T.f_69 (ac (cm (bw hr.units1) (aa 0) (av) (fun _ _=>rfl)) (ak))) (dh (aY (sh T) hr.le T.f_74 (ac (cm (bw hr.units1) (aa 0) (av) (fun _ _=>rfl)) (ak))))))))
theorem IF:aB P w K mg base (CX1 P w) 4 A.a_64 A.d_64 ["thing"] (nG K A):=
 T.f_64.f.okS Hu (AY K A) (GD T.1) fun _ _ _ _ _ _ hr=>
 aq (bv (cE (cu (aY (Iv T) hr.le T.f_71 (ac (aa 0) (ak))))) (aq (iZ)) (aT))
theorem zG:aB P w K mg base (CX1 P w) 5 A.a_36 A.d_36 ["self","head"] (ku K A):=
 T.f_36.okS IK (Bz K A) (Gg T.1) fun _ _ _ _ _ _ hr=>
 au (cM (aY (IF T) hr.le T.f_64 (ac (aa 1) (ak)))) (aq (eF hr.units1 (aE (aa 0)) (aa 1) (dO)))
theorem IU:aB P w K mg base (CX1 P w) 6 A.a_83 A.d_83 ["stamper"] (oI K A):=
 T.f_83.f.okS FV (Ep K A) (EU T.1) fun _ _ _ _ _ _ hr=>
 aq (az (dS (ac (dR (ac (dE) (ak))) (ac (dR (ac (dE) (ac (av) (ac (qg (iM T) hr.le aC (aa 0) (ac (dR (ac (dE) (ak))) (ak))) (ak))))) (ak)))))
theorem Ir:aB P w K mg base (CX1 P w) 7 A.a_80 A.d_80 ["stamper"] (oK K A):=
 T.f_80.f.okS GH (Eo K A) (ES T.1) fun _ _ _ _ _ _ hr=>
 aq (az (dR (ac (av) (ac (qg (iM T) hr.le aC (aa 0) (ac (cm (bw hr.units1) (aY (IU T) hr.le T.f_83 (ac (aa 0) (ak))) (sg (av)) (fun _ _=>rfl)) (ak))) (ak)))))
theorem HX (cdv:pv)(Ar:Mn)(outer:List Env)(s:wr)(H:Hp)(E:XK)
  (hr:aU 10 (Ar.deeper (envOfC "House.__init__" (ai my) s.heap.objs.size A.a_12 cdv))):PSs (cH (CX1 P w) P w K mg base ["self","stamper","bits","seals"] "House.__init__" (ai my) A.a_12 cdv Ar outer s H E) (aO my) (EK K A E):=QSs.out (
 au (bi (aa 0) (cj T.mk_Table (zw T) hr.le T.mc_Table T.b_37 eW (ac (aa 1) (ac (aa 2) (ak))))) (au (bi (aa 0) (cj T.mk_Row (yz T) hr.le T.mc_Row T.b_26 aC (ac (aa 1) (ak)))) (au (bi (aa 0) (dS (ak))) (au (bi (aa 0) (aa 3)) (aq (cM (be (aa 3) T.cl_Seals T.me_Seals_seal (zG T) hr.le T.b_36 aC (ac (aY (Ir T) hr.le T.f_80 (ac (aa 1) (ak))) (ak)))))))))
theorem nE:aB P w K mg base (CX1 P w) 11 A.a_12 A.d_12 ["self","stamper","bits","seals"] (fI K A):=
 T.f_12.okX HS (Cg K A) (fun cdv Ar outer s H vs Q E hr h=>⟨_,HX T cdv Ar outer s H E hr,FI T.1 vs H Q E h⟩)
theorem sZ:aB P w K mg base (CX1 P w) 1 A.a_35 A.d_35 ["self"] (gk K A):=
 T.f_35.okS Hz (DU K A) (Jl T.1) fun _ _ _ _ _ _ hr=>
 aq (bi (aa 0) (fT))
theorem Gv:aB P w K mg base (CX1 P w) 1 A.a_49 A.d_49 ["_law_cell","_law_k"] (oY K A):=
 T.f_49.f.okS Jj (Cf K A) (Jp T.1) fun _ _ _ _ _ _ hr=>
 aq (az (aG cB (aG df (aG eL (aG cB (aa 0) (av)) (av)) (aG eL (aG df (aa 1) (av)) (av))) (av)))
theorem yU:aB P w K mg base (CX1 P w) 11 A.a_41 A.d_41 ["self"] (lq K A):=
 T.f_41.okS ze (AQ K A) (Fd T.1) fun _ _ _ _ _ _ hr=>
 au (aP 1 ze.nd (cj T.mk_Table (zw T) hr.le T.mc_Table T.b_37 aC (ac (aE (aa 0)) (ac (aE (aa 0)) (ak))))) (au (bi (aa 1) (aE (aa 0))) (aq (az (aa 1))))
theorem HU:aB P w K mg base (CX1 P w) 3 A.a_34 A.d_34 ["self"] (nR K A):=
 T.f_34.okS zu (CG K A) (Hr T.1) fun _ _ _ _ _ _ hr=>
 au (aP 1 zu.nd (cj T.mk_Row (yz T) hr.le T.mc_Row T.b_26 aC (ac (aE (aa 0)) (ak)))) (au (bi (aa 1) (dL sy T.z_list boot_list (ac (aE (aa 0)) (ak)))) (aq (az (aa 1))))
theorem HV:aB P w K mg base (CX1 P w) 13 A.a_17 A.d_17 ["self"] (nN K A):=
 T.f_17.okS zg (Cj K A) (GA T.1) fun _ _ _ _ _ _ hr=>
 au (aP 1 zg.nd (cj T.mk_House (nE T) hr.le T.mc_House T.b_12 aC (ac (aE (aE (aa 0))) (ac (aE (aE (aa 0))) (ac (aE (aa 0)) (ak)))))) (au (bi (aa 1) (cI (aE (aa 0)) T.cl_Table T.me_Table_twin (yU T) hr.le T.b_41 aC)) (au (bi (aa 1) (cI (aE (aa 0)) T.cl_Row T.me_Row_twin (HU T) hr.le T.b_34 aC)) (au (bi (aa 1) (dL sy T.z_list boot_list (ac (aE (aa 0)) (ak)))) (aq (az (aa 1))))))
theorem Gw:aB P w K mg base (CX1 P w) 1 A.a_46 A.d_46 ["_law_cell","_law_bits"] (lg K A):=
 T.f_46.f.okS zf (DO K A) (Gn T.1) fun _ _ _ _ _ _ hr=>
 au (aP 2 zf.nd (aG mv (av) (aa 1))) (au (bv (bE (cA hr.units150) (aG cB (aa 0) (av)) (av)) (aq (az (aG cB (aG dB (aa 0) (av)) (aa 2)))) (aT)) (au (bv (bE (cA hr.units150) (aG cB (aa 0) (av)) (av)) (aq (az (aG cB (aG eL (aG dB (aa 0) (av)) (av)) (aa 2)))) (aT)) (aq (az (aG fc (aG fc (aa 2) (av)) (aG cB (aG dB (aa 0) (av)) (aa 2)))))))
theorem Gh:aB P w K mg base (CX1 P w) 2 A.a_47 A.d_47 ["_law_known","_law_cell","_law_number","_law_bits"] (nv K A):=
 T.f_47.f.okS oG (BC K A) (Ie T.1) fun _ _ _ _ _ _ hr=>
 au (aP 4 oG.nd (aV (me rfl) T.z_sorted Sz (ac (aa 0) (ak)))) (au (aP 5 oG.nd (aG cB (aa 2) (av))) (au (bv (x_w (oJ (bE (cA hr.units150) (aa 5) (av)) (lI (bE (cA hr.units150) (aa 4) (dS (ak)))))) (aq (az (aY (Gw T) hr.le T.f_46 (ac (aa 1) (ac (aa 3) (ak)))))) (aT)) (au (aP 6 oG.nd (cm (bw hr.units1) (aa 4) (aG cB (aG dB (aa 2) (av)) (aV dq T.z_len Mv (ac (aa 4) (ak)))) (fun _ _=>rfl))) (au (bv (bE (cA hr.units150) (aa 5) (av)) (aq (az (aa 6))) (aT)) (aq (az (aG CL (aa 6) (aG mv (av) (aG cB (aG dB (aa 2) (av)) (aa 3))))))))))
theorem GG:aB P w K mg base (CX1 P w) 1 A.a_62 A.d_62 ["_law_number"] (nX K A):=
 T.f_62.f.okS sS (BP K A) (Jn T.1) fun _ _ _ _ _ _ hr=>
 au (aP 1 sS.nd (dE)) (au (aP 2 sS.nd (aG df (cm (bw hr.units1) (dS (ac (av) (ac (av) (ac (av) (ac (av) (ak)))))) (aG cB (aa 0) (av)) (fun _ _=>rfl)) (aG eL (av) (dL CC T.z_int L2.uA (ac (et (cA hr.units150) (aG cB (aG dB (aa 0) (av)) (av)) (av)) (ak)))))) (aq (az (hV PySem.F.plainAttrs_str PySem.F.slot_str_join PySem.F.type_str_join Ad (dE) (ac (ut (ys:=["_law_number","_law_letters"]) (by exact⟨rfl,by decide+kernel,by decide+kernel,rfl,by decide+kernel,by decide+kernel⟩) (by exact .cons rfl (by first|exact .inl rfl|exact .inr rfl) rfl (.cons rfl (by first|exact .inl rfl|exact .inr rfl) rfl (.nil))) (qa T.z_range (ac (aa 2) (ak))) (fun C s H fp=>uM) (fun C s H fp=>(cm (bw hr.units1) (aa 2) (aG cB (aG df (aG dB (aa 1) (av)) (aG eL (av) (aa 0))) (av)) (fun _ _=>rfl)))) (ak))))))
theorem oH:aB P w K mg base (CX1 P w) 1 A.a_54 A.d_54 ["_law_found","_law_due"] (iq K A):=
 T.f_54.f.okS Fv (AM K A) (Hj T.1) fun _ _ _ _ _ _ hr=>
 au (bv (bE uZ (aa 1) (ik)) (aq (az (et uZ (aa 0) (ik)))) (aT)) (aq (az (ck (aV fw T.z_isinstance MA (ac (aa 0) (ac (fx T.z_str QJ) (ak)))) (dh (et (cA hr.units150) (aa 0) (aa 1))))))
theorem ET:aB P w K mg base (CX1 P w) 2 A.a_72 A.d_72 ["bits","thing"] (oP K A):=
 T.f_72.f.okS Jd (CU K A) (Hk T.1) fun _ _ _ _ _ _ hr=>
 aq (az (ck (aY (jp T) hr.le T.f_77 (ac (aa 1) (ak))) (dh (fK oLe oLt (av) (aa 1) (aG mv (av) (aa 0))))))
theorem Bx:aB P w K mg base (CX1 P w) 1 A.a_1 A.d_1 ["self","bits","key"] (lR K A):=
 T.f_1.okS KY (FN K A) (KZ T.1) fun _ _ _ _ _ _ hr=>
 aq (az (ik))
theorem yF:aB P w K mg base (CX1 P w) 1 A.a_21 A.d_21 ["self","bits","key"] (jw K A):=
 T.f_21.okS Gj (BQ K A) (HZ T.1) fun _ _ _ _ _ _ hr=>
 aq (az (sX (bE (cA hr.units150) (aa 2) (aE (aa 0))) (aE (aa 0)) (ik)))
theorem oW:aB P w K mg base (CX1 P w) 1 A.a_81 A.d_81 ["bits","key","depth"] (iz K A):=
 T.f_81.f.okS IC (Cq K A) (GM T.1) fun _ _ _ _ _ _ hr=>
 aq (az (aG GW (aG Ek (aa 1) (aG fc (aG fc (aa 0) (aa 2)) (av))) (av)))
theorem xM:aB P w K mg base (CX1 P w) 2 A.a_9 A.d_9 ["self","bits","key"] (lT K A):=
 T.f_9.okS Ki (Iz K A) (Lw T.1) fun _ _ _ _ _ _ hr=>
 aq (az (sX (bE (cA hr.units150) (aY (oW T) hr.le T.f_81 (ac (aa 1) (ac (aa 2) (ac (aE (aa 0)) (ak))))) (av)) (aE (aa 0)) (aE (aa 0))))
theorem En:∀n:Nat,aB P w K mg base (CX1 P w) (2+n) A.a_7 A.d_7 ["self","bits","key"] (ki K A n)
 |0=>⟨fun vs H Q E h=>(Cd K A vs H Q E h).elim,fun _ _ _ H _ _ vs Q E _ _ _ _ h=>(Cd K A vs H Q E h).elim⟩
 |n+1=>T.f_7.okS JI (EQ K A (n+1)) (Kk T.1 n) fun _ _ _ _ _ _ (hr:aU (2+n) _)=>
 aq (az (fS (be (aa 0) T.cl_Fork T.me_Fork_toward (xM T) hr.le T.b_9 aC (ac (aa 1) (ac (aa 2) (ak)))) (mdc T.cl_Bare T.me_Bare_found (Bx T) hr.le T.b_1 aC (mdc T.cl_Leaf T.me_Leaf_found (yF T) hr.le T.b_21 aC (mdc T.cl_Fork T.me_Fork_found (En n) hr.le T.b_7 aC (mdn rfl)))) (ac (aa 1) (ac (aa 2) (ak)))))
theorem Io (cdv:pv)(Ar:Mn)(outer:List Env)(s:wr)(H:Hp)(E:XK)
  (hr:aU 72 (Ar.deeper (envOfC "Table.value_of" (ai ma) s.heap.objs.size A.a_42 cdv))):PSs (cH (CX1 P w) P w K mg base ["self","key"] "Table.value_of" (ai ma) A.a_42 cdv Ar outer s H E) (aO ma) (AR K A E):=QSs.out (
 au (bv (cE (cu (aY (ET T) hr.le T.f_72 (ac (aE (aa 0)) (ac (aa 1) (ak)))))) (aq (gI T.er_NoKey T.mc_NoKey fu)) (aT)) (aq (az (fS (aE (aa 0)) (mdc T.cl_Bare T.me_Bare_found (Bx T) hr.le T.b_1 aC (mdc T.cl_Leaf T.me_Leaf_found (yF T) hr.le T.b_21 aC (mdc T.cl_Fork T.me_Fork_found (En T 70) hr.le T.b_7 aC (mdn rfl)))) (ac (aE (aa 0)) (ac (aa 1) (ak)))))))
theorem sJ:aB P w K mg base (CX1 P w) 73 A.a_42 A.d_42 ["self","key"] (jt K A):=
 T.f_42.okX Gb (Es K A) (fun cdv Ar outer s H vs Q E hr h=>⟨_,Io T cdv Ar outer s H E hr,Gy T.1 vs H Q E h⟩)
theorem Fc:aB P w K mg base (CX1 P w) 1 A.a_76 A.d_76 ["thing"] (nS K A):=
 T.f_76.f.okS HR (Dj K A) (IT T.1) fun _ _ _ _ _ _ hr=>
 aq (az (ck (aV fw T.z_isinstance MA (ac (aa 0) (ac (fx T.z_str QJ) (ak)))) (dh (et oLe (aV dq T.z_len Mv (ac (aa 0) (ak))) (vV T.c_MOST_SIGNS)))))
theorem sY:aB P w K mg base (CX1 P w) 7 A.a_20 A.d_20 ["self","stamper","key","value"] (ia K A):=
 T.f_20.okS Hv (CH K A) (II T.1) fun _ _ _ _ _ _ hr=>
 au (cM (qe T.mc_Knot T.cf_Knot (rH T) hr.le T.b_19 aC (ac (aa 0) (ac (aa 1) (ac (dR (ac (dE) (ac (aa 2) (ac (aa 3) (ak))))) (ak)))))) (au (bi (aa 0) (aa 2)) (aq (bi (aa 0) (aa 3))))
theorem Bf:aB P w K mg base (CX1 P w) 9 A.a_2 A.d_2 ["self","stamper","bits","key","value"] (mC K A):=
 T.f_2.okS Lp (HP K A) (Kq T.1) fun _ _ _ _ _ _ hr=>
 aq (az (cj T.mk_Leaf (sY T) hr.le T.mc_Leaf T.b_20 aC (ac (aa 1) (ac (aa 3) (ac (aa 4) (ak))))))
theorem sW:aB P w K mg base (CX1 P w) 1 A.a_82 A.d_82 ["bits","key","depth"] (jb K A):=
 T.f_82.f.okS IS (DZ K A) (ID T.1) fun _ _ _ _ _ _ hr=>
 aq (az (aG Ek (aa 1) (aG fc (aa 0) (aa 2))))
theorem rK:aB P w K mg base (CX1 P w) 7 A.a_4 A.d_4 ["self","stamper","depth","begin","left","right"] (iP K A):=
 T.f_4.okS KW (EY K A) (JY T.1) fun _ _ _ _ _ _ hr=>
 au (cM (qe T.mc_Knot T.cf_Knot (rH T) hr.le T.b_19 aC (ac (aa 0) (ac (aa 1) (ac (dR (ac (dE) (ac (aa 2) (ac (aa 3) (ac (aE (aa 4)) (ac (aE (aa 5)) (ak))))))) (ak)))))) (au (bi (aa 0) (aa 2)) (au (bi (aa 0) (aa 3)) (au (bi (aa 0) (aa 4)) (aq (bi (aa 0) (aa 5))))))
theorem zc:aB P w K mg base (CX1 P w) 9 A.a_78 A.d_78 ["stamper","bits","depth","leaf","knot"] (lJ K A):=
 T.f_78.f.okS yO (BZ K A) (IQ T.1) fun _ _ _ _ _ _ hr=>
 au (aP 5 yO.nd (aY (sW T) hr.le T.f_82 (ac (aa 1) (ac (aE (aa 3)) (ac (aa 2) (ak)))))) (au (bv (bE (cA hr.units150) (aY (oW T) hr.le T.f_81 (ac (aa 1) (ac (aE (aa 3)) (ac (aa 2) (ak))))) (av)) (aq (az (cj T.mk_Fork (rK T) hr.le T.mc_Fork T.b_4 aC (ac (aa 0) (ac (aa 2) (ac (aa 5) (ac (aa 3) (ac (aa 4) (ak))))))))) (aT)) (aq (az (cj T.mk_Fork (rK T) hr.le T.mc_Fork T.b_4 aC (ac (aa 0) (ac (aa 2) (ac (aa 5) (ac (aa 4) (ac (aa 3) (ak))))))))))
theorem yT:aB P w K mg base (CX1 P w) 1 A.a_63 A.d_63 ["bits","one","other"] (lx K A):=
 T.f_63.f.okS IZ (CK K A) (Hl T.1) fun _ _ _ _ _ _ hr=>
 aq (az (aG fc (aa 0) (zv Qp PU PR qQ (aG CL (aa 1) (aa 2)))))
theorem yV:aB P w K mg base (CX1 P w) 10 A.a_22 A.d_22 ["self","stamper","bits","key","value"] (jf K A):=
 T.f_22.okS zj (DK K A) (Gx T.1) fun _ _ _ _ _ _ hr=>
 au (aP 5 zj.nd (cj T.mk_Leaf (sY T) hr.le T.mc_Leaf T.b_20 aC (ac (aa 1) (ac (aa 3) (ac (aa 4) (ak)))))) (au (bv (bE (cA hr.units150) (aa 3) (aE (aa 0))) (aq (az (aa 5))) (aT)) (aq (az (aY (zc T) hr.le T.f_78 (ac (aa 1) (ac (aa 2) (ac (aY (yT T) hr.le T.f_63 (ac (aa 2) (ac (aa 3) (ac (aE (aa 0)) (ak))))) (ac (aa 5) (ac (aa 0) (ak))))))))))
theorem LG:aB P w K mg base (CX1 P w) 2 A.a_8 A.d_8 ["self","bits","key"] (sT K A):=
 T.f_8.okS Lb (Ii K A) (LA T.1) fun _ _ _ _ _ _ hr=>
 aq (az (et (cA hr.units150) (aY (sW T) hr.le T.f_82 (ac (aa 1) (ac (aa 2) (ac (aE (aa 0)) (ak))))) (aE (aa 0))))
theorem BH:aB P w K mg base (CX1 P w) 9 A.a_6 A.d_6 ["self","stamper","bits","key","knot"] (qi K A):=
 T.f_6.okS Js (FQ K A) (JE T.1) fun _ _ _ _ _ _ hr=>
 au (bv (bE (cA hr.units150) (aY (oW T) hr.le T.f_81 (ac (aa 2) (ac (aa 3) (ac (aE (aa 0)) (ak))))) (av)) (aq (az (cj T.mk_Fork (rK T) hr.le T.mc_Fork T.b_4 aC (ac (aa 1) (ac (aE (aa 0)) (ac (aE (aa 0)) (ac (aa 4) (ac (aE (aa 0)) (ak))))))))) (aT)) (aq (az (cj T.mk_Fork (rK T) hr.le T.mc_Fork T.b_4 aC (ac (aa 1) (ac (aE (aa 0)) (ac (aE (aa 0)) (ac (aE (aa 0)) (ac (aa 4) (ak)))))))))
theorem yh:∀n:Nat,aB P w K mg base (CX1 P w) (10+n) A.a_10 A.d_10 ["self","stamper","bits","key","value"] (ie K A n)
 |0=>⟨fun vs H Q E h=>(yQ K A vs H Q E h).elim,fun _ _ _ H _ _ vs Q E _ _ _ _ h=>(yQ K A vs H Q E h).elim⟩
 |n+1=>T.f_10.okS yY (Ez K A (n+1)) (IH T.1 n) fun _ _ _ _ _ _ (hr:aU (10+n) _)=>
 au (bv (cE (cu (be (aa 0) T.cl_Fork T.me_Fork_leads (LG T) hr.le T.b_8 aC (ac (aa 2) (ac (aa 3) (ak)))))) (au (aP 5 yY.nd (aY (yT T) hr.le T.f_63 (ac (aE (aa 0)) (ac (aE (aa 0)) (ac (aY (sW T) hr.le T.f_82 (ac (aa 2) (ac (aa 3) (ac (aE (aa 0)) (ak))))) (ak)))))) (aq (az (aY (zc T) hr.le T.f_78 (ac (aa 1) (ac (aa 2) (ac (aa 5) (ac (cj T.mk_Leaf (sY T) hr.le T.mc_Leaf T.b_20 aC (ac (aa 1) (ac (aa 3) (ac (aa 4) (ak))))) (ac (aa 0) (ak)))))))))) (aT)) (aq (az (be (aa 0) T.cl_Fork T.me_Fork_changed (BH T) hr.le T.b_6 aC (ac (aa 1) (ac (aa 2) (ac (aa 3) (ac (fS (be (aa 0) T.cl_Fork T.me_Fork_toward (xM T) hr.le T.b_9 aC (ac (aa 2) (ac (aa 3) (ak)))) (mdc T.cl_Bare T.me_Bare_with_key (Bf T) hr.le T.b_2 aC (mdc T.cl_Leaf T.me_Leaf_with_key (yV T) hr.le T.b_22 aC (mdc T.cl_Fork T.me_Fork_with_key (yh n) hr.le T.b_10 aC (mdn rfl)))) (ac (aa 1) (ac (aa 2) (ac (aa 3) (ac (aa 4) (ak)))))) (ak))))))))
theorem FU (cdv:pv)(Ar:Mn)(outer:List Env)(s:wr)(H:Hp)(E:XK)
  (hr:aU 80 (Ar.deeper (envOfC "Table.put" (ai mz) s.heap.objs.size A.a_38 cdv))):PSs (cH (CX1 P w) P w K mg base ["self","key","value","before"] "Table.put" (ai mz) A.a_38 cdv Ar outer s H E) (aO mz) (DG K A E):=QSs.out (
 au (aP 3 yi.nd (be (aa 0) T.cl_Table T.me_Table_value_of (sJ T) hr.le T.b_42 eW (ac (aa 1) (ak)))) (au (bv (cE (cu (aY (Fc T) hr.le T.f_76 (ac (aa 2) (ak))))) (aq (gI T.er_NoValue T.mc_NoValue fu)) (aT)) (au (bi (aa 0) (fS (aE (aa 0)) (mdc T.cl_Bare T.me_Bare_with_key (Bf T) hr.le T.b_2 aC (mdc T.cl_Leaf T.me_Leaf_with_key (yV T) hr.le T.b_22 aC (mdc T.cl_Fork T.me_Fork_with_key (yh T 70) hr.le T.b_10 aC (mdn rfl)))) (ac (aE (aa 0)) (ac (aE (aa 0)) (ac (aa 1) (ac (aa 2) (ak))))))) (aq (az (aa 3))))))
theorem FG:aB P w K mg base (CX1 P w) 81 A.a_38 A.d_38 ["self","key","value"] (lj K A):=
 T.f_38.okX yi (DE K A) (fun cdv Ar outer s H vs Q E hr h=>⟨_,FU T cdv Ar outer s H E hr,Jh T.1 vs H Q E h⟩)
theorem FO (cdv:pv)(Ar:Mn)(outer:List Env)(s:wr)(H:Hp)(E:XK)
  (hr:aU 81 (Ar.deeper (envOfC "House.put" (ai mn) s.heap.objs.size A.a_15 cdv))):PSs (cH (CX1 P w) P w K mg base ["self","key","value"] "House.put" (ai mn) A.a_15 cdv Ar outer s H E) (aO mn) (CJ K A E):=QSs.out (
 aq (az (be (aE (aa 0)) T.cl_Table T.me_Table_put (FG T) hr.le T.b_38 eW (ac (aa 1) (ac (aa 2) (ak))))))
theorem rR:aB P w K mg base (CX1 P w) 82 A.a_15 A.d_15 ["self","key","value"] (jl K A):=
 T.f_15.okX Ji (Da K A) (fun cdv Ar outer s H vs Q E hr h=>⟨_,FO T cdv Ar outer s H E hr,IB T.1 vs H Q E h⟩)
theorem Ea:aB P w K mg base (CX1 P w) 1 A.a_3 A.d_3 ["self","stamper","bits","key"] (lZ K A):=
 T.f_3.okS JB (Hg K A) (Jq T.1) fun _ _ _ _ _ _ hr=>
 aq (az (aa 0))
theorem yM:aB P w K mg base (CX1 P w) 9 A.a_23 A.d_23 ["self","stamper","bits","key"] (jA K A):=
 T.f_23.okS GR (Ei K A) (Fe T.1) fun _ _ _ _ _ _ hr=>
 aq (az (sX (bE (cA hr.units150) (aa 3) (aE (aa 0))) (cj T.mk_Bare (Bm T) hr.le T.mc_Bare T.b_0 aC (ac (aa 1) (ak))) (aa 0)))
theorem JA:aB P w K mg base (CX1 P w) 2 A.a_5 A.d_5 ["self","bits","key"] (rC K A):=
 T.f_5.okS Ka (Ik K A) (Kl T.1) fun _ _ _ _ _ _ hr=>
 aq (az (sX (bE (cA hr.units150) (aY (oW T) hr.le T.f_81 (ac (aa 1) (ac (aa 2) (ac (aE (aa 0)) (ak))))) (av)) (aE (aa 0)) (aE (aa 0))))
theorem zk:∀n:Nat,aB P w K mg base (CX1 P w) (9+n) A.a_11 A.d_11 ["self","stamper","bits","key"] (gQ K A n)
 |0=>⟨fun vs H Q E h=>(zp K A vs H Q E h).elim,fun _ _ _ H _ _ vs Q E _ _ _ _ h=>(zp K A vs H Q E h).elim⟩
 |n+1=>T.f_11.okS yr (Ec K A (n+1)) (FB T.1 n) fun _ _ _ _ _ _ (hr:aU (9+n) _)=>
 au (aP 4 yr.nd (fS (be (aa 0) T.cl_Fork T.me_Fork_toward (xM T) hr.le T.b_9 aC (ac (aa 2) (ac (aa 3) (ak)))) (mdc T.cl_Bare T.me_Bare_without (Ea T) hr.le T.b_3 aC (mdc T.cl_Leaf T.me_Leaf_without (yM T) hr.le T.b_23 aC (mdc T.cl_Fork T.me_Fork_without (zk n) hr.le T.b_11 aC (mdn rfl)))) (ac (aa 1) (ac (aa 2) (ac (aa 3) (ak)))))) (au (bv (cu (aV Il T.z_isinstance MA (ac (aa 4) (ac (Kd T.mc_Bare) (ak))))) (aq (az (be (aa 0) T.cl_Fork T.me_Fork_aside (JA T) hr.le T.b_5 aC (ac (aa 2) (ac (aa 3) (ak)))))) (aT)) (aq (az (be (aa 0) T.cl_Fork T.me_Fork_changed (BH T) hr.le T.b_6 aC (ac (aa 1) (ac (aa 2) (ac (aa 3) (ac (aa 4) (ak)))))))))
theorem FP (cdv:pv)(Ar:Mn)(outer:List Env)(s:wr)(H:Hp)(E:XK)
  (hr:aU 79 (Ar.deeper (envOfC "Table.take" (ai mf) s.heap.objs.size A.a_40 cdv))):PSs (cH (CX1 P w) P w K mg base ["self","key","before"] "Table.take" (ai mf) A.a_40 cdv Ar outer s H E) (aO mf) (Dy K A E):=QSs.out (
 au (aP 2 zD.nd (be (aa 0) T.cl_Table T.me_Table_value_of (sJ T) hr.le T.b_42 eW (ac (aa 1) (ak)))) (au (bv (bE uZ (aa 2) (ik)) (aq (gI T.er_Missing T.mc_Missing fu)) (aT)) (au (bi (aa 0) (fS (aE (aa 0)) (mdc T.cl_Bare T.me_Bare_without (Ea T) hr.le T.b_3 aC (mdc T.cl_Leaf T.me_Leaf_without (yM T) hr.le T.b_23 aC (mdc T.cl_Fork T.me_Fork_without (zk T 70) hr.le T.b_11 aC (mdn rfl)))) (ac (aE (aa 0)) (ac (aE (aa 0)) (ac (aa 1) (ak)))))) (aq (az (aa 2))))))
theorem IY:aB P w K mg base (CX1 P w) 80 A.a_40 A.d_40 ["self","key"] (lr K A):=
 T.f_40.okX zD (DH K A) (fun cdv Ar outer s H vs Q E hr h=>⟨_,FP T cdv Ar outer s H E hr,Hw T.1 vs H Q E h⟩)
theorem GP (cdv:pv)(Ar:Mn)(outer:List Env)(s:wr)(H:Hp)(E:XK)
  (hr:aU 80 (Ar.deeper (envOfC "House.take" (ai lS) s.heap.objs.size A.a_16 cdv))):PSs (cH (CX1 P w) P w K mg base ["self","key"] "House.take" (ai lS) A.a_16 cdv Ar outer s H E) (aO lS) (BU K A E):=QSs.out (
 aq (az (be (aE (aa 0)) T.cl_Table T.me_Table_take (IY T) hr.le T.b_40 eW (ac (aa 1) (ak)))))
theorem yE:aB P w K mg base (CX1 P w) 81 A.a_16 A.d_16 ["self","key"] (ly K A):=
 T.f_16.okX Fx (CN K A) (fun cdv Ar outer s H vs Q E hr h=>⟨_,GP T cdv Ar outer s H E hr,Gp T.1 vs H Q E h⟩)
theorem Fu:aB P w K mg base (CX1 P w) 82 A.a_60 A.d_60 ["_law_house","_law_known","_law_key_here"] (oq K A):=
 T.f_60.f.okS lD (BX K A) (Fk T.1) fun _ _ _ _ _ E hr=>
 au (aP 3 lD.nd (dO)) (au (aP 4 lD.nd (ik)) (au (ij (fun pn' E' EH hEH=>aq (aP 4 lD.nd (be (aa 0) T.cl_House T.me_House_take (yE T) hr.le T.b_16 hEH (ac (aa 2) (ak))))) (fv T.eo_Missing T.mc_Missing (fun a=>aq (aP 3 lD.nd (dO))) (fY)) (aT)) (au (bv (bE (mB hr.units150) (aa 2) (aa 1)) (aq (az (aa 3))) (aT)) (aq (az (ck (oj (aa 3)) (dh (aY (oH T) hr.le T.f_54 (ac (aa 4) (ac (hV Nn QB PySem.F.type_dict_pop zN (aa 1) (ac (aa 2) (ak))) (ak)))))))))))
theorem Ih:aB P w K mg base (CX1 P w) 3 A.a_27 A.d_27 ["self","entry"] (oE K A):=
 T.f_27.okS FX (CY K A) (HM T.1) fun _ _ _ _ _ _ hr=>
 au (bv (cE (cu (aY (sh T) hr.le T.f_74 (ac (aa 1) (ak))))) (aq (iZ)) (aT)) (au (cM (hV OQ NU OF gu (aE (aa 0)) (ac (aa 1) (ak)))) (aq (az (aG fc (aV dq T.z_len Mv (ac (aE (aa 0)) (ak))) (av)))))
theorem FS:aB P w K mg base (CX1 P w) 1 A.a_39 A.d_39 ["self"] (oi K A):=
 T.f_39.okS Gu (El K A) (Gm T.1) fun _ _ _ _ _ _ hr=>
 aq (az (aE (aE (aa 0))))
theorem lC:aB P w K mg base (CX1 P w) 1 A.a_31 A.d_31 ["self"] (gn K A):=
 T.f_31.okS HK (CS K A) (GK T.1) fun _ _ _ _ _ _ hr=>
 aq (az (aV dq T.z_len Mv (ac (aE (aa 0)) (ak))))
theorem Ij:aB P w K mg base (CX1 P w) 3 A.a_70 A.d_70 ["count","elder"] (pb K A):=
 T.f_70.f.okS HG (De K A) (FE T.1) fun _ _ _ _ _ _ hr=>
 aq (az (ck (aY (si T) hr.le T.f_69 (ac (aa 0) (ak))) (ck (aY (jp T) hr.le T.f_77 (ac (aa 1) (ak))) (dh (fK oLe oLe (av) (aa 1) (aa 0))))))
theorem Ja:aB P w K mg base (CX1 P w) 4 A.a_28 A.d_28 ["self","count","elder"] (nq K A):=
 T.f_28.okS Hx (EF K A) (Gt T.1) fun _ _ _ _ _ _ hr=>
 aq (az (ck (aY (Ij T) hr.le T.f_70 (ac (aa 1) (ac (aa 2) (ak)))) (dh (et oLe (aa 1) (cI (aa 0) T.cl_Row T.me_Row_size (lC T) hr.le T.b_31 aC)))))
theorem Iu:aB P w K mg base (CX1 P w) 1 A.a_67 A.d_67 ["many"] (pc K A):=
 T.f_67.f.okS HL (Bl K A) (GX T.1) fun _ _ _ _ _ _ hr=>
 aq (az (aG mv (av) (aG fc (zv Qp PU PR qQ (aG fc (aa 0) (av))) (av))))
theorem FT (n:Nat)(G:aB P w K mg base (CX1 P w) (5+2*n) A.a_32 A.d_32 ["self","first","many"] (fE K A n)):aB P w K mg base (CX1 P w) (5+2*n+1) A.a_33 A.d_33 ["self","first","many"] (ox K A n):=
 T.f_33.okS yC (Cr K A n) (Gf T.1 n) fun _ _ _ _ _ _ (hr:aU (5+2*n) _)=>
 au (bv (bE (cA hr.units150) (aa 2) (av)) (aq (az (dR (ac (dE) (ak))))) (aT)) (au (bv (bE (cA hr.units150) (aa 2) (av)) (aq (az (dR (ac (dE) (ac (cm (bw hr.units1) (aE (aa 0)) (aa 1) (fun _ _=>rfl)) (ak)))))) (aT)) (au (aP 3 yC.nd (aY (Iu T) hr.le T.f_67 (ac (aa 2) (ak)))) (aq (az (dR (ac (dE) (ac (be (aa 0) T.cl_Row T.me_Row_top_of G hr.le T.b_32 aC (ac (aa 1) (ac (aa 3) (ak)))) (ac (be (aa 0) T.cl_Row T.me_Row_top_of G hr.le T.b_32 aC (ac (aG df (aa 1) (aa 3)) (ac (aG fc (aa 2) (aa 3)) (ak)))) (ak)))))))))
theorem yS:∀n:Nat,aB P w K mg base (CX1 P w) (5+2*n) A.a_32 A.d_32 ["self","first","many"] (fE K A n)
 |0=>⟨fun vs H Q E h=>(yP K A vs H Q E h).elim,fun _ _ _ H _ _ vs Q E _ _ _ _ h=>(yP K A vs H Q E h).elim⟩
 |n+1=>show aB P w K mg base (CX1 P w) (5+2*n+1+1) A.a_32 A.d_32 ["self","first","many"] (fE K A (n+1))from T.f_32.okS yA (Co K A (n+1)) (Ig T.1 n) fun _ _ _ _ _ _ (hr:aU (5+2*n+1) _)=>
 au (aP 3 yA.nd (dR (ac (aa 1) (ac (aa 2) (ak))))) (au (bv (bE (mB hr.units150) (aa 3) (aE (aa 0))) (aq (eF hr.units1 (aE (aa 0)) (aa 3) (qI (iM T) hr.le aC (aa 0) T.cl_Row T.na_Row_stamper (ac (be (aa 0) T.cl_Row T.me_Row_top_term (FT T n (yS n)) hr.le T.b_33 aC (ac (aa 1) (ac (aa 2) (ak)))) (ak))))) (aT)) (aq (az (cm (bw hr.units1) (aE (aa 0)) (aa 3) (fun _ _=>rfl)))))
theorem Hi:aB P w K mg base (CX1 P w) 146 A.a_30 A.d_30 ["self","count"] (nO K A):=
 T.f_30.okS Jm (EG K A) (FJ T.1) fun _ _ _ _ _ _ hr=>
 au (bv (cE (cu (be (aa 0) T.cl_Row T.me_Row_has_elder (Ja T) hr.le T.b_28 aC (ac (cI (aa 0) T.cl_Row T.me_Row_size (lC T) hr.le T.b_31 aC) (ac (aa 1) (ak)))))) (aq (iZ)) (aT)) (aq (az (qI (iM T) hr.le aC (aa 0) T.cl_Row T.na_Row_stamper (ac (dR (ac (dE) (ac (aa 1) (ac (be (aa 0) T.cl_Row T.me_Row_top_of (yS T 70) hr.le T.b_32 aC (ac (av) (ac (aa 1) (ak)))) (ak))))) (ak)))))
theorem Hf:aB P w K mg base (CX1 P w) 147 A.a_14 A.d_14 ["self"] (oX K A):=
 T.f_14.okS zd (DY K A) (Iw T.1) fun _ _ _ _ _ _ hr=>
 au (aP 1 zd.nd (cI (aE (aa 0)) T.cl_Row T.me_Row_size (lC T) hr.le T.b_31 aC)) (aq (az (dR (ac (aa 1) (ac (be (aE (aa 0)) T.cl_Row T.me_Row_mark_at (Hi T) hr.le T.b_30 aC (ac (aa 1) (ak))) (ak))))))
theorem HY:aB P w K mg base (CX1 P w) 148 A.a_13 A.d_13 ["self"] (nF K A):=
 T.f_13.okS yj (Dv K A) (FA T.1) fun _ _ _ _ _ _ hr=>
 au (cM (be (aE (aa 0)) T.cl_Row T.me_Row_add (Ih T) hr.le T.b_27 aC (ac (cI (aE (aa 0)) T.cl_Table T.me_Table_root (FS T) hr.le T.b_39 aC) (ak)))) (au (cM (hV OQ NU OF gu (aE (aa 0)) (ac (cI (aE (aa 0)) T.cl_Table T.me_Table_twin (yU T) hr.le T.b_41 aC) (ak)))) (au (aP 1 yj.nd (cI (aa 0) T.cl_House T.me_House_newest (Hf T) hr.le T.b_14 aC)) (au (cM (be (aE (aa 0)) T.cl_Seals T.me_Seals_seal (zG T) hr.le T.b_36 aC (ac (aa 1) (ak)))) (aq (az (aa 1))))))
theorem Ia:aB P w K mg base (CX1 P w) 1 A.a_61 A.d_61 ["_law_found"] (oU K A):=
 T.f_61.f.okS Jc (CZ K A) (Fs T.1) fun _ _ _ _ _ _ hr=>
 aq (az (ck (aV fw T.z_isinstance MA (ac (aa 0) (ac (fx T.z_int boot_int) (ak)))) (dh (oj (aV fw T.z_isinstance MA (ac (aa 0) (ac (fx T.z_bool boot_bool) (ak))))))))
theorem Fl:aB P w K mg base (CX1 P w) 149 A.a_48 A.d_48 ["_law_house","_law_known","_law_makes"] (lA K A):=
 T.f_48.f.okS yk (Em K A) (IV T.1) fun _ _ _ _ _ _ hr=>
 au (cM (hV OQ NU OF gu (aa 2) (ac (dL yl T.z_dict boot_dict (ac (aa 1) (ak))) (ak)))) (au (aP 3 yk.nd (cI (aa 0) T.cl_House T.me_House_make (HY T) hr.le T.b_13 aC)) (aq (az (ck (aV fw T.z_isinstance MA (ac (aa 3) (ac (fx T.z_tuple Tp) (ak)))) (ck (et (cA hr.units150) (aV dq T.z_len Mv (ac (aa 3) (ak))) (av)) (ck (aY (Ia T) hr.le T.f_61 (ac (cm (bw hr.units1) (aa 3) (av) (fun _ _=>rfl)) (ak))) (dh (et (cA hr.units150) (cm (bw hr.units1) (aa 3) (av) (fun _ _=>rfl)) (aV dq T.z_len Mv (ac (aa 2) (ak)))))))))))
theorem HQ:aB P w K mg base (CX1 P w) 3 A.a_73 A.d_73 ["count","place"] (nA K A):=
 T.f_73.f.okS GB (Cb K A) (Jg T.1) fun _ _ _ _ _ _ hr=>
 aq (az (ck (aY (si T) hr.le T.f_69 (ac (aa 0) (ak))) (ck (aY (jp T) hr.le T.f_77 (ac (aa 1) (ak))) (dh (fK oLe oLt (av) (aa 1) (aa 0))))))
theorem IJ:aB P w K mg base (CX1 P w) 4 A.a_29 A.d_29 ["self","count","place"] (oh K A):=
 T.f_29.okS FR (Bb K A) (Fh T.1) fun _ _ _ _ _ _ hr=>
 aq (az (ck (aY (HQ T) hr.le T.f_73 (ac (aa 1) (ac (aa 2) (ak)))) (dh (et oLe (aa 1) (cI (aa 0) T.cl_Row T.me_Row_size (lC T) hr.le T.b_31 aC)))))
theorem HF (cdv:pv)(Ar:Mn)(outer:List Env)(s:wr)(H:Hp)(E:XK)
  (hr:aU 73 (Ar.deeper (envOfC "House.value_at" (ai lK) s.heap.objs.size A.a_18 cdv))):PSs (cH (CX1 P w) P w K mg base ["self","place","key"] "House.value_at" (ai lK) A.a_18 cdv Ar outer s H E) (aO lK) (Bc K A E):=QSs.out (
 au (bv (cE (cu (be (aE (aa 0)) T.cl_Row T.me_Row_has_place (IJ T) hr.le T.b_29 aC (ac (cI (aE (aa 0)) T.cl_Row T.me_Row_size (lC T) hr.le T.b_31 aC) (ac (aa 1) (ak)))))) (aq (gI T.er_NoPlace T.mc_NoPlace fu)) (aT)) (aq (az (be (cm (bw hr.units1) (aE (aa 0)) (aa 1) (fun _ _=>rfl)) T.cl_Table T.me_Table_value_of (sJ T) hr.le T.b_42 eW (ac (aa 2) (ak))))))
theorem nz:aB P w K mg base (CX1 P w) 74 A.a_18 A.d_18 ["self","place","key"] (iy K A):=
 T.f_18.okX IX (Bg K A) (fun cdv Ar outer s H vs Q E hr h=>⟨_,HF T cdv Ar outer s H E hr,EN T.1 vs H Q E h⟩)
theorem Hn:aB P w K mg base (CX1 P w) 150 A.a_44 A.d_44 ["_law_house","_law_known","_law_makes","_law_cell","_law_number","_law_bits"] (kQ K A):=
 T.f_44.f.okS kA (Bo K A) (FW T.1) fun _ _ _ _ _ _ hr=>
 au (aP 6 kA.nd (aY (Gh T) hr.le T.f_47 (ac (aa 1) (ac (aa 3) (ac (aG dB (aa 4) (av)) (ac (aa 5) (ak))))))) (au (bv (bE oLt (aG cB (aa 4) (av)) (av)) (au (aP 7 kA.nd (aY (GG T) hr.le T.f_62 (ac (aG dB (aa 4) (av)) (ak)))) (au (aP 8 kA.nd (hV Nn NA Pd (mi hr.units1) (aa 1) (ac (aa 6) (ak)))) (au (eF hr.units1 (aa 1) (aa 6) (aa 7)) (aq (az (aY (oH T) hr.le T.f_54 (ac (be (aa 0) T.cl_House T.me_House_put (rR T) hr.le T.b_15 aC (ac (aa 6) (ac (aa 7) (ak)))) (ac (aa 8) (ak))))))))) (aT)) (au (bv (bE (cA hr.units150) (aG cB (aa 4) (av)) (av)) (aq (az (aY (Fu T) hr.le T.f_60 (ac (aa 0) (ac (aa 1) (ac (aa 6) (ak))))))) (aT)) (au (bv (x_w (oJ (bE (cA hr.units150) (aG cB (aa 4) (av)) (av)) (lI (bE (Eu hr.units0) (aa 2) (dS (ak)))))) (aq (az (aY (Fl T) hr.le T.f_48 (ac (aa 0) (ac (aa 1) (ac (aa 2) (ak))))))) (aT)) (au (aP 9 kA.nd (aG cB (aG dB (aa 4) (av)) (aV dq T.z_len Mv (ac (aa 2) (ak))))) (aq (az (aY (oH T) hr.le T.f_54 (ac (be (aa 0) T.cl_House T.me_House_value_at (nz T) hr.le T.b_18 aC (ac (aa 9) (ac (aa 6) (ak)))) (ac (hV Nn NA Pd (mi hr.units1) (cm (bw hr.units1) (aa 2) (aa 9) (fun _ _=>rfl)) (ac (aa 6) (ak))) (ak))))))))))
theorem yI:aB P w K mg base (CX1 P w) 75 A.a_52 A.d_52 ["_law_house","_law_place","_law_key_here"] (lF K A):=
 T.f_52.f.okS rZ (EC K A) (Im T.1) fun _ _ _ _ _ E hr=>
 au (aP 3 rZ.nd (dO)) (au (ij (fun pn' E' EH hEH=>aq (cM (be (aa 0) T.cl_House T.me_House_value_at (nz T) hr.le T.b_18 hEH (ac (aa 1) (ac (aa 2) (ak)))))) (fv T.eo_NoPlace T.mc_NoPlace (fun a=>aq (aP 3 rZ.nd (dO))) (fY)) (aT)) (aq (az (aa 3))))
theorem Ft:aB P w K mg base (CX1 P w) 83 A.a_51 A.d_51 ["_law_house","_law_key_here","_law_there"] (nJ K A):=
 T.f_51.f.okS jj (BD K A) (FY T.1) fun _ _ _ _ _ E hr=>
 au (aP 3 jj.nd (av)) (au (ij (fun pn' E' EH hEH=>aq (cM (be (aa 0) T.cl_House T.me_House_put (rR T) hr.le T.b_15 hEH (ac (aa 1) (ac (av) (ak)))))) (fv T.eo_NoKey T.mc_NoKey (fun a=>aq (aP 3 jj.nd (aG df (aa 3) (av)))) (fY)) (aT)) (au (ij (fun pn' E' EH hEH=>aq (cM (be (aa 0) T.cl_House T.me_House_take (yE T) hr.le T.b_16 hEH (ac (aa 1) (ak))))) (fv T.eo_NoKey T.mc_NoKey (fun a=>aq (aP 3 jj.nd (aG df (aa 3) (av)))) (fY)) (aT)) (au (ij (fun pn' E' EH hEH=>aq (cM (be (aa 0) T.cl_House T.me_House_value_at (nz T) hr.le T.b_18 hEH (ac (av) (ac (aa 1) (ak)))))) (fv T.eo_NoKey T.mc_NoKey (fun a=>aq (aP 3 jj.nd (aG df (aa 3) (av)))) (fv T.eo_NoPlace T.mc_NoPlace (fun a=>aq (aP 3 jj.nd (aG df (aa 3) (dL CC T.z_int L2.uA (ac (oj (aa 2)) (ak)))))) (fY))) (aT)) (aq (az (et (cA hr.units150) (aa 3) (av)))))))
theorem EO:aB P w K mg base (CX1 P w) 83 A.a_53 A.d_53 ["_law_house","_law_text"] (nK K A):=
 T.f_53.f.okS sN (CT K A) (FK T.1) fun _ _ _ _ _ E hr=>
 au (aP 2 sN.nd (dO)) (au (ij (fun pn' E' EH hEH=>aq (cM (be (aa 0) T.cl_House T.me_House_put (rR T) hr.le T.b_15 hEH (ac (av) (ac (aa 1) (ak)))))) (fv T.eo_NoValue T.mc_NoValue (fun a=>aq (aP 2 sN.nd (dO))) (fY)) (aT)) (aq (az (aa 2))))
theorem zF:aB P w K mg base (CX1 P w) 84 A.a_45 A.d_45 ["_law_house","_law_makes","_law_keys","_law_bits"] (kY K A):=
 T.f_45.f.okS nH (BR K A) (Ib T.1) fun _ _ _ _ _ _ hr=>
 au (jh 4 nH.nd (qa T.z_range (ac (aV dq T.z_len Mv (ac (aa 1) (ak))) (ak))) (aq (jh 5 nH.nd (iI (aa 2)) (aq (bv (cE (cu (aY (oH T) hr.le T.f_54 (ac (be (aa 0) T.cl_House T.me_House_value_at (nz T) hr.le T.b_18 aC (ac (aa 4) (ac (aa 5) (ak)))) (ac (hV Nn NA Pd (mi hr.units1) (cm (bw hr.units1) (aa 1) (aa 4) (fun _ _=>rfl)) (ac (aa 5) (ak))) (ak)))))) (aq (az (dO))) (aT))) NM)) NM) (au (jh 4 nH.nd (iI (dS (ac (sg (av)) (ac (aV dq T.z_len Mv (ac (aa 1) (ak))) (ac (dO) (ac (ik) (ac (dE) (ak)))))))) (aq (bv (x_w (oJ (cE (cu (aY (yI T) hr.le T.f_52 (ac (aa 0) (ac (aa 4) (ac (av) (ak))))))) (lI (cE (cu (aY (yI T) hr.le T.f_52 (ac (aa 0) (ac (aa 4) (ac (sg (av)) (ak)))))))))) (aq (az (dO))) (aT))) NM) (aq (az (ck (aY (Ft T) hr.le T.f_51 (ac (aa 0) (ac (aG mv (av) (aa 3)) (ac (et (ED hr.units0) (aa 1) (dS (ak))) (ak))))) (dh (aY (EO T) hr.le T.f_53 (ac (aa 0) (ac (aG eL (dE) (av)) (ak)))))))))
theorem rM:aB P w K mg base (CX1 P w) 13 A.a_50 A.d_50 ["_law_bits"] (jc K A):=
 T.f_50.f.okS rD (Bp K A) (GO T.1) fun _ _ _ _ _ E hr=>
 au (aP 1 rD.nd (dO)) (au (ij (fun pn' E' EH hEH=>aq (cM (cj T.mk_House (nE T) hr.le T.mc_House T.b_12 hEH (ac (pV (yq T) hr.le T.f_65.m T.f_65.f.kp T.f_65.b aC) (ac (aa 0) (ac (gZ T.mk_Seals (sZ T) hr.le T.mc_Seals T.b_35 aC) (ak))))))) (fv T.eo_NoBits T.mc_NoBits (fun a=>aq (aP 1 rD.nd (dO))) (fY)) (aT)) (aq (az (aa 1))))
theorem EX:aB P w K mg base (CX1 P w) 151 A.a_79 A.d_79 ["_law_script"] (nC K A):=
 T.f_79.f.okS fj (DC K A) (HW T.1) fun _ _ _ _ _ _ hr=>
 au (aP 1 fj.nd (aY (Fq T) hr.le T.f_55 (ac (aY (yw T) hr.le T.f_43 (ac (aa 0) (ac (av) (ak)))) (ak)))) (au (aP 2 fj.nd (aG df (av) (aG cB (aY (yw T) hr.le T.f_43 (ac (aa 0) (ac (av) (ak)))) (av)))) (au (aP 3 fj.nd (dS (ac (cj T.mk_House (nE T) hr.le T.mc_House T.b_12 aC (ac (aa 1) (ac (aa 2) (ac (gZ T.mk_Seals (sZ T) hr.le T.mc_Seals T.b_35 aC) (ak))))) (ac (cj T.mk_House (nE T) hr.le T.mc_House T.b_12 aC (ac (aa 1) (ac (aa 2) (ac (gZ T.mk_Seals (sZ T) hr.le T.mc_Seals T.b_35 aC) (ak))))) (ak))))) (au (aP 4 fj.nd (dS (ac (fT) (ac (fT) (ak))))) (au (aP 5 fj.nd (dS (ac (dS (ak)) (ac (dS (ak)) (ak))))) (au (jh 6 fj.nd (ya T.z_range (ac (av) (ac (aV (JM rfl) T.z_min boot_min (ac (aV dq T.z_len Mv (ac (aa 0) (ak))) (ac (av) (ak)))) (ak)))) (au (aP 7 fj.nd (aY (Gv T) hr.le T.f_49 (ac (cm (bw hr.units1) (aa 0) (aa 6) (fun _ _=>rfl)) (ac (aa 6) (ak))))) (au (aP 8 fj.nd (aG cB (aa 7) (av))) (au (bv (bE (cA hr.units150) (aG cB (aG dB (aa 7) (av)) (av)) (av)) (au (eF hr.units1 (aa 3) (aG fc (av) (aa 8)) (cI (cm (bw hr.units1) (aa 3) (aa 8) (fun _ _=>rfl)) T.cl_House T.me_House_twin (HV T) hr.le T.b_17 aC)) (au (eF hr.units1 (aa 4) (aG fc (av) (aa 8)) (dL yl T.z_dict boot_dict (ac (cm (bw hr.units1) (aa 4) (aa 8) (fun _ _=>rfl)) (ak)))) (aq (eF hr.units1 (aa 5) (aG fc (av) (aa 8)) (dL sy T.z_list boot_list (ac (cm (bw hr.units1) (aa 5) (aa 8) (fun _ _=>rfl)) (ak))))))) (aT)) (aq (bv (cE (cu (aY (Hn T) hr.le T.f_44 (ac (cm (bw hr.units1) (aa 3) (aa 8) (fun _ _=>rfl)) (ac (cm (bw hr.units1) (aa 4) (aa 8) (fun _ _=>rfl)) (ac (cm (bw hr.units1) (aa 5) (aa 8) (fun _ _=>rfl)) (ac (cm (bw hr.units1) (aa 0) (aa 6) (fun _ _=>rfl)) (ac (aG dB (aa 7) (av)) (ac (aa 2) (ak)))))))))) (aq (az (dO))) (aT)))))) NM) (au (aP 9 fj.nd (qY tK (aG df (aV (me rfl) T.z_sorted Sz (ac (cm (bw hr.units1) (aa 4) (av) (fun _ _=>rfl)) (ak))) (aV (me rfl) T.z_sorted Sz (ac (cm (bw hr.units1) (aa 4) (av) (fun _ _=>rfl)) (ak)))) (qG) (qB (av)))) (au (bv (x_w (oJ (cE (cu (aY (zF T) hr.le T.f_45 (ac (cm (bw hr.units1) (aa 3) (av) (fun _ _=>rfl)) (ac (cm (bw hr.units1) (aa 5) (av) (fun _ _=>rfl)) (ac (aa 9) (ac (aa 2) (ak)))))))) (lI (cE (cu (aY (zF T) hr.le T.f_45 (ac (cm (bw hr.units1) (aa 3) (av) (fun _ _=>rfl)) (ac (cm (bw hr.units1) (aa 5) (av) (fun _ _=>rfl)) (ac (aa 9) (ac (aa 2) (ak))))))))))) (aq (az (dO))) (aT)) (aq (az (ck (aY (rM T) hr.le T.f_50 (ac (av) (ak))) (ck (aY (rM T) hr.le T.f_50 (ac (av) (ak))) (dh (aY (rM T) hr.le T.f_50 (ac (dO) (ak)))))))))))))))
omit T
def sM (P:Mf)(w:Mx)(K:cW)(mg:Str→Option pv)(fa:Addr):Prop:=∃(fd:LM)(tabs:List (Addr×Addr))(sp:Sp),(∀(s:wr)(v:pv),RA s fd ⟨[v],[]⟩ [("_law_script",v)])∧Rg K=true∧(∀t∈tabs,∃y∈(["counting","_law_stamper"]:List Str),Qc K y=some t)∧(∀base:Heap,K.In base→base.Ns mainGlobals mg→BM mg base→(∀t∈tabs,OS base t.1 t.2)→aB P w K mg base (CX1 P w) 151 fa fd ["_law_script"] sp)∧∀(H:Hp)(a:Addr)(ns:List Int),ns.length≤63→(∀t∈tabs,H t.2=some (.tbl #[]))→SqL K H a (ns.map V.int)→sp [.ref a] H (fun v _=>v=.bl true) fun _ _ _=>False
theorem BF (T:Txt K mg A)(nt:Rg K=true)(tb_65:Qc K "counting"=some (A.k_65,A.t_65))(tb_55:Qc K "_law_stamper"=some (A.k_55,A.t_55))(tdn:([A.t_65,A.t_55]:List Addr).Nodup):sM P w K mg A.a_79:=by
 refine⟨A.d_79,[(A.k_65,A.t_65),(A.k_55,A.t_55)],nC K A,T.f_79.f.bt,nt,?_,fun base _ _ B C=>?_,fun H a ns hl hO hS=>⟨a,ns,rfl,hS,hl,⟨hO (A.k_65,A.t_65) (by simp),hO (A.k_55,A.t_55) (by simp),tdn⟩,fun _=>rfl⟩⟩
 ·intro t ht
  simp only[gV,pz,or_false]at ht
  rcases ht with rfl|rfl
  ·exact⟨"counting",by simp,tb_65⟩
  ·exact⟨"_law_stamper",by simp,tb_55⟩
 ·exact EX ⟨T,B,C (A.k_65,A.t_65) (by simp),C (A.k_55,A.t_55) (by simp)⟩
theorem Bj {h:Heap}{fa:Addr}(X:K.In h)(G:h.Ns mainGlobals mg)(hfa:mg "law"=some (.ref fa)){x_77 x_74 x_75 x_25 x_59 x_24 x_65 x_55 x_43 x_68 x_19 x_0 x_37 x_26 x_69 x_71 x_64 x_36 x_83 x_80 x_12 x_35 x_49 x_41 x_34 x_17 x_46 x_47 x_62 x_54 x_72 x_1 x_21 x_81 x_9 x_7 x_42 x_76 x_20 x_2 x_82 x_4 x_78 x_63 x_22 x_8 x_6 x_10 x_38 x_15 x_3 x_23 x_5 x_11 x_40 x_16 x_60 x_27 x_39 x_31 x_70 x_28 x_67 x_33 x_32 x_30 x_14 x_13 x_61 x_48 x_73 x_29 x_18 x_44 x_52 x_51 x_53 x_45 x_50 x_79 y_NoBits y_NoKey y_NoValue y_Missing y_NoPlace y_Numbers y_Knot y_Bare y_Seals y_Row y_Table y_House y_Fork y_Leaf:Addr}{d0 d1 d2 d3 d4 d5 d6 d7 d8 d9 d10 d11 d12 d13 d14 d15 d16 d17 d18 d19 d20 d21 d22 d23 d24 d25 d26 d27 d28 d29 d30 d31 d32 d33 d34 d35 d36 d37 d38 d39 d40 d41 d42 d43 d44 d45 d46 d47 d48 d49 d50 d51 d52 d53 d54 d55 d56 d57 d58 d59 d60 d61 d62 d63 d64 d65 d66 d67 d68 d69 d70 d71 d72 d73 d74 d75 d76 d77 d78 d79:LM}{tc0 tc1 tc2:Tok}
  (bo_Numbers:Nb K mainGlobals "Numbers"=some (some (.ref y_Numbers)))(bo_Knot:Nb K mainGlobals "Knot"=some (some (.ref y_Knot)))(bo_Bare:Nb K mainGlobals "Bare"=some (some (.ref y_Bare)))(bo_Seals:Nb K mainGlobals "Seals"=some (some (.ref y_Seals)))(bo_Row:Nb K mainGlobals "Row"=some (some (.ref y_Row)))(bo_Table:Nb K mainGlobals "Table"=some (some (.ref y_Table)))(bo_House:Nb K mainGlobals "House"=some (some (.ref y_House)))(bo_Fork:Nb K mainGlobals "Fork"=some (some (.ref y_Fork)))(bo_Leaf:Nb K mainGlobals "Leaf"=some (some (.ref y_Leaf)))(bc_NoBits:Nb K mainGlobals "NoBits"=some (some (.ref y_NoBits)))(bc_NoKey:Nb K mainGlobals "NoKey"=some (some (.ref y_NoKey)))(bc_NoValue:Nb K mainGlobals "NoValue"=some (some (.ref y_NoValue)))(bc_Missing:Nb K mainGlobals "Missing"=some (some (.ref y_Missing)))(bc_NoPlace:Nb K mainGlobals "NoPlace"=some (some (.ref y_NoPlace)))(h0:Fa K "is_whole" "is_whole" xw x_77 d0)(h1:Fa K "is_stamp" "is_stamp" xr x_74 d1)(h2:Fa K "is_term" "is_term" wO x_75 d2)(a3:LL K (.ref y_Numbers) "number_of"=some (some (.ref x_25)))(h3:Fun K "number_of" "Numbers.number_of" xA x_25 d3)(fn3:MC K (.ref x_25)=true)(h4:Fa K "_law_sum" "_law_sum" xN x_59 d4)(a5:LL K (.ref y_Numbers) "__init__"=some (some (.ref x_24)))(h5:Fun K "__init__" "Numbers.__init__" ww x_24 d5)(fn5:MC K (.ref x_24)=true)(h6:Fa K "counting" "counting" jZ x_65 d6)(tb_65:(Qc K "counting").isSome=true)(h7:Fa K "_law_stamper" "_law_stamper" ig x_55 d7)(tb_55:(Qc K "_law_stamper").isSome=true)(h8:Fa K "_law_cell_at" "_law_cell_at" wU x_43 d8)(h9:Fa K "is_bits" "is_bits" vn x_68 d9)(a10:LL K (.ref y_Knot) "__init__"=some (some (.ref x_19)))(h10:Fun K "__init__" "Knot.__init__" vI x_19 d10)(fn10:MC K (.ref x_19)=true)(a11:LL K (.ref y_Bare) "__init__"=some (some (.ref x_0)))(h11:Fun K "__init__" "Bare.__init__" s_0 x_0 d11)(fn11:MC K (.ref x_0)=true)(a12:LL K (.ref y_Table) "__init__"=some (some (.ref x_37)))(h12:Fun K "__init__" "Table.__init__" mh x_37 d12)(fn12:MC K (.ref x_37)=true)(a13:LL K (.ref y_Row) "__init__"=some (some (.ref x_26)))(h13:Fun K "__init__" "Row.__init__" ve x_26 d13)(fn13:MC K (.ref x_26)=true)(h14:Fa K "is_count" "is_count" yg x_69 d14)(h15:Fa K "is_head" "is_head" wY x_71 d15)(h16:Fa K "check_head" "check_head" xT x_64 d16)(a17:LL K (.ref y_Seals) "seal"=some (some (.ref x_36)))(h17:Fun K "seal" "Seals.seal" vE x_36 d17)(fn17:MC K (.ref x_36)=true)(h18:Fa K "void_terms" "void_terms" xC x_83 d18)(h19:Fa K "none_head" "none_head" xF x_80 d19)(a20:LL K (.ref y_House) "__init__"=some (some (.ref x_12)))(h20:Fun K "__init__" "House.__init__" my x_12 d20)(fn20:MC K (.ref x_12)=true)(a21:LL K (.ref y_Seals) "__init__"=some (some (.ref x_35)))(h21:Fun K "__init__" "Seals.__init__" xa x_35 d21)(fn21:MC K (.ref x_35)=true)(h22:Fa K "_law_mix" "_law_mix" xO x_49 d22)(a23:LL K (.ref y_Table) "twin"=some (some (.ref x_41)))(h23:Fun K "twin" "Table.twin" vh x_41 d23)(fn23:MC K (.ref x_41)=true)(a24:LL K (.ref y_Row) "twin"=some (some (.ref x_34)))(h24:Fun K "twin" "Row.twin" vt x_34 d24)(fn24:MC K (.ref x_34)=true)(a25:LL K (.ref y_House) "twin"=some (some (.ref x_17)))(h25:Fun K "twin" "House.twin" vS x_17 d25)(fn25:MC K (.ref x_17)=true)(h26:Fa K "_law_key" "_law_key" wK x_46 d26)(h27:Fa K "_law_key_for" "_law_key_for" wN x_47 d27)(h28:Fa K "_law_word" "_law_word" wm x_62 d28)(h29:Fa K "_law_said" "_law_said" xX x_54 d29)(h30:Fa K "is_key" "is_key" vb x_72 d30)(a31:LL K (.ref y_Bare) "found"=some (some (.ref x_1)))(h31:Fun K "found" "Bare.found" s_1 x_1 d31)(fn31:MC K (.ref x_1)=true)(a32:LL K (.ref y_Leaf) "found"=some (some (.ref x_21)))(h32:Fun K "found" "Leaf.found" wH x_21 d32)(fn32:MC K (.ref x_21)=true)(h33:Fa K "side" "side" wz x_81 d33)(a34:LL K (.ref y_Fork) "toward"=some (some (.ref x_9)))(h34:Fun K "toward" "Fork.toward" s_9 x_9 d34)(fn34:MC K (.ref x_9)=true)(a35:LL K (.ref y_Fork) "found"=some (some (.ref x_7)))(h35:Fun K "found" "Fork.found" s_7 x_7 d35)(fn35:MC K (.ref x_7)=true)(a36:LL K (.ref y_Table) "value_of"=some (some (.ref x_42)))(h36:Fun K "value_of" "Table.value_of" ma x_42 d36)(fn36:MC K (.ref x_42)=true)(h37:Fa K "is_value" "is_value" vd x_76 d37)(a38:LL K (.ref y_Leaf) "__init__"=some (some (.ref x_20)))(h38:Fun K "__init__" "Leaf.__init__" xl x_20 d38)(fn38:MC K (.ref x_20)=true)(a39:LL K (.ref y_Bare) "with_key"=some (some (.ref x_2)))(h39:Fun K "with_key" "Bare.with_key" s_2 x_2 d39)(fn39:MC K (.ref x_2)=true)(h40:Fa K "start" "start" vU x_82 d40)(a41:LL K (.ref y_Fork) "__init__"=some (some (.ref x_4)))(h41:Fun K "__init__" "Fork.__init__" s_4 x_4 d41)(fn41:MC K (.ref x_4)=true)(h42:Fa K "joined" "joined" xZ x_78 d42)(h43:Fa K "alike" "alike" vo x_63 d43)(a44:LL K (.ref y_Leaf) "with_key"=some (some (.ref x_22)))(h44:Fun K "with_key" "Leaf.with_key" wJ x_22 d44)(fn44:MC K (.ref x_22)=true)(a45:LL K (.ref y_Fork) "leads"=some (some (.ref x_8)))(h45:Fun K "leads" "Fork.leads" s_8 x_8 d45)(fn45:MC K (.ref x_8)=true)(a46:LL K (.ref y_Fork) "changed"=some (some (.ref x_6)))(h46:Fun K "changed" "Fork.changed" s_6 x_6 d46)(fn46:MC K (.ref x_6)=true)(a47:LL K (.ref y_Fork) "with_key"=some (some (.ref x_10)))(h47:Fun K "with_key" "Fork.with_key" vH x_10 d47)(fn47:MC K (.ref x_10)=true)(a48:LL K (.ref y_Table) "put"=some (some (.ref x_38)))(h48:Fun K "put" "Table.put" mz x_38 d48)(fn48:MC K (.ref x_38)=true)(a49:LL K (.ref y_House) "put"=some (some (.ref x_15)))(h49:Fun K "put" "House.put" mn x_15 d49)(fn49:MC K (.ref x_15)=true)(a50:LL K (.ref y_Bare) "without"=some (some (.ref x_3)))(h50:Fun K "without" "Bare.without" s_3 x_3 d50)(fn50:MC K (.ref x_3)=true)(a51:LL K (.ref y_Leaf) "without"=some (some (.ref x_23)))(h51:Fun K "without" "Leaf.without" yd x_23 d51)(fn51:MC K (.ref x_23)=true)(a52:LL K (.ref y_Fork) "aside"=some (some (.ref x_5)))(h52:Fun K "aside" "Fork.aside" s_5 x_5 d52)(fn52:MC K (.ref x_5)=true)(a53:LL K (.ref y_Fork) "without"=some (some (.ref x_11)))(h53:Fun K "without" "Fork.without" wn x_11 d53)(fn53:MC K (.ref x_11)=true)(a54:LL K (.ref y_Table) "take"=some (some (.ref x_40)))(h54:Fun K "take" "Table.take" mf x_40 d54)(fn54:MC K (.ref x_40)=true)(a55:LL K (.ref y_House) "take"=some (some (.ref x_16)))(h55:Fun K "take" "House.take" lS x_16 d55)(fn55:MC K (.ref x_16)=true)(h56:Fa K "_law_taken" "_law_taken" yf x_60 d56)(a57:LL K (.ref y_Row) "add"=some (some (.ref x_27)))(h57:Fun K "add" "Row.add" xR x_27 d57)(fn57:MC K (.ref x_27)=true)(a58:LL K (.ref y_Table) "root"=some (some (.ref x_39)))(h58:Fun K "root" "Table.root" wV x_39 d58)(fn58:MC K (.ref x_39)=true)(a59:LL K (.ref y_Row) "size"=some (some (.ref x_31)))(h59:Fun K "size" "Row.size" wj x_31 d59)(fn59:MC K (.ref x_31)=true)(h60:Fa K "is_elder" "is_elder" xK x_70 d60)(a61:LL K (.ref y_Row) "has_elder"=some (some (.ref x_28)))(h61:Fun K "has_elder" "Row.has_elder" wu x_28 d61)(fn61:MC K (.ref x_28)=true)(h62:Fa K "half" "half" xf x_67 d62)(a63:LL K (.ref y_Row) "top_term"=some (some (.ref x_33)))(h63:Fun K "top_term" "Row.top_term" vq x_33 d63)(fn63:MC K (.ref x_33)=true)(a64:LL K (.ref y_Row) "top_of"=some (some (.ref x_32)))(h64:Fun K "top_of" "Row.top_of" vA x_32 d64)(fn64:MC K (.ref x_32)=true)(a65:LL K (.ref y_Row) "mark_at"=some (some (.ref x_30)))(h65:Fun K "mark_at" "Row.mark_at" wy x_30 d65)(fn65:MC K (.ref x_30)=true)(a66:LL K (.ref y_House) "newest"=some (some (.ref x_14)))(h66:Fun K "newest" "House.newest" wQ x_14 d66)(fn66:MC K (.ref x_14)=true)(a67:LL K (.ref y_House) "make"=some (some (.ref x_13)))(h67:Fun K "make" "House.make" vM x_13 d67)(fn67:MC K (.ref x_13)=true)(h68:Fa K "_law_whole" "_law_whole" vN x_61 d68)(h69:Fa K "_law_made" "_law_made" va x_48 d69)(h70:Fa K "is_place" "is_place" xJ x_73 d70)(a71:LL K (.ref y_Row) "has_place"=some (some (.ref x_29)))(h71:Fun K "has_place" "Row.has_place" xm x_29 d71)(fn71:MC K (.ref x_29)=true)(a72:LL K (.ref y_House) "value_at"=some (some (.ref x_18)))(h72:Fun K "value_at" "House.value_at" lK x_18 d72)(fn72:MC K (.ref x_18)=true)(h73:Fa K "_law_deed" "_law_deed" vC x_44 d73)(h74:Fa K "_law_no_place" "_law_no_place" wZ x_52 d74)(h75:Fa K "_law_no_key" "_law_no_key" wx x_51 d75)(h76:Fa K "_law_no_value" "_law_no_value" vp x_53 d76)(h77:Fa K "_law_holds" "_law_holds" vY x_45 d77)(h78:Fa K "_law_no_bits" "_law_no_bits" vw x_50 d78)(h79:Fa K "law" "law" vi x_79 d79)(pg_Numbers:Np K y_Numbers Nd=true)(hd_Numbers:Nj K y_Numbers=true)(po_Numbers:Nx K y_Numbers=true)(sa_Numbers:LL K (.ref y_Numbers) "__setattr__"=some (some (.builtin "object.__setattr__")))(na_Numbers_given:LL K (.ref y_Numbers) "given"=some none)(pg_Knot:Np K y_Knot Nd=true)(hd_Knot:Nj K y_Knot=true)(po_Knot:Nx K y_Knot=true)(sa_Knot:LL K (.ref y_Knot) "__setattr__"=some (some (.builtin "object.__setattr__")))(na_Knot_term:LL K (.ref y_Knot) "term"=some none)(na_Knot_mark:LL K (.ref y_Knot) "mark"=some none)(pg_Bare:Np K y_Bare Nd=true)(hd_Bare:Nj K y_Bare=true)(po_Bare:Nx K y_Bare=true)(sa_Bare:LL K (.ref y_Bare) "__setattr__"=some (some (.builtin "object.__setattr__")))(na_Bare_term:LL K (.ref y_Bare) "term"=some none)(na_Bare_mark:LL K (.ref y_Bare) "mark"=some none)(pg_Seals:Np K y_Seals Nd=true)(hd_Seals:Nj K y_Seals=true)(po_Seals:Nx K y_Seals=true)(sa_Seals:LL K (.ref y_Seals) "__setattr__"=some (some (.builtin "object.__setattr__")))(na_Seals_sealed:LL K (.ref y_Seals) "sealed"=some none)(pg_Row:Np K y_Row Nd=true)(hd_Row:Nj K y_Row=true)(po_Row:Nx K y_Row=true)(sa_Row:LL K (.ref y_Row) "__setattr__"=some (some (.builtin "object.__setattr__")))(na_Row_stamper:LL K (.ref y_Row) "stamper"=some none)(na_Row_entries:LL K (.ref y_Row) "entries"=some none)(na_Row_tops:LL K (.ref y_Row) "tops"=some none)(pg_Table:Np K y_Table Nd=true)(hd_Table:Nj K y_Table=true)(po_Table:Nx K y_Table=true)(sa_Table:LL K (.ref y_Table) "__setattr__"=some (some (.builtin "object.__setattr__")))(na_Table_stamper:LL K (.ref y_Table) "stamper"=some none)(na_Table_bits:LL K (.ref y_Table) "bits"=some none)(na_Table_top:LL K (.ref y_Table) "top"=some none)(pg_House:Np K y_House Nd=true)(hd_House:Nj K y_House=true)(po_House:Nx K y_House=true)(sa_House:LL K (.ref y_House) "__setattr__"=some (some (.builtin "object.__setattr__")))(na_House_table:LL K (.ref y_House) "table"=some none)(na_House_row:LL K (.ref y_House) "row"=some none)(na_House_makes:LL K (.ref y_House) "makes"=some none)(na_House_seals:LL K (.ref y_House) "seals"=some none)(pg_Fork:Np K y_Fork Nd=true)(hd_Fork:Nj K y_Fork=true)(po_Fork:Nx K y_Fork=true)(sa_Fork:LL K (.ref y_Fork) "__setattr__"=some (some (.builtin "object.__setattr__")))(na_Fork_depth:LL K (.ref y_Fork) "depth"=some none)(na_Fork_begin:LL K (.ref y_Fork) "begin"=some none)(na_Fork_left:LL K (.ref y_Fork) "left"=some none)(na_Fork_right:LL K (.ref y_Fork) "right"=some none)(na_Fork_term:LL K (.ref y_Fork) "term"=some none)(na_Fork_mark:LL K (.ref y_Fork) "mark"=some none)(pg_Leaf:Np K y_Leaf Nd=true)(hd_Leaf:Nj K y_Leaf=true)(po_Leaf:Nx K y_Leaf=true)(sa_Leaf:LL K (.ref y_Leaf) "__setattr__"=some (some (.builtin "object.__setattr__")))(na_Leaf_key:LL K (.ref y_Leaf) "key"=some none)(na_Leaf_text:LL K (.ref y_Leaf) "text"=some none)(na_Leaf_term:LL K (.ref y_Leaf) "term"=some none)(na_Leaf_mark:LL K (.ref y_Leaf) "mark"=some none)(cg_Knot:PF K (.ref y_Knot) "__getattribute__"=some (some (.builtin "type.__getattribute__")))(cr_Knot:W.readsIn K y_Knot (.type "type")=true)(cv_Knot:W.findCls K (.ref y_Knot) (.type "type") "__init__"=some (.val (.ref x_19)))(cw_Knot:QY (.ref x_19)=true)(oig:PF K (.builtin "object.__class__") "__get__"=some (some (.builtin "getset_descriptor.__get__")))(oit:SY K (.builtin "object.__class__")=some true)(oic_Bare:LL K (.ref y_Bare) "__class__"=some (some (.builtin "object.__class__")))(oim_Bare:Ms K y_Bare (.type "object")=some true)(oic_Fork:LL K (.ref y_Fork) "__class__"=some (some (.builtin "object.__class__")))(oim_Fork:Ms K y_Fork (.type "object")=some true)(oic_Leaf:LL K (.ref y_Leaf) "__class__"=some (some (.builtin "object.__class__")))(oim_Leaf:Ms K y_Leaf (.type "object")=some true)(ko_Bare_Bare:Oy K (.ref y_Bare) (.ref y_Bare)=some true)(ko_Fork_Bare:Oy K (.ref y_Fork) (.ref y_Bare)=some false)(ko_Leaf_Bare:Oy K (.ref y_Leaf) (.ref y_Bare)=some false)(mk_Numbers:On K y_Numbers=true)(kc_Numbers:NF K (.ref y_Numbers)=true)(mk_Bare:On K y_Bare=true)(kc_Bare:NF K (.ref y_Bare)=true)(mk_Row:On K y_Row=true)(kc_Row:NF K (.ref y_Row)=true)(mk_Table:On K y_Table=true)(kc_Table:NF K (.ref y_Table)=true)(mk_House:On K y_House=true)(kc_House:NF K (.ref y_House)=true)(mk_Leaf:On K y_Leaf=true)(kc_Leaf:NF K (.ref y_Leaf)=true)(mk_Fork:On K y_Fork=true)(kc_Fork:NF K (.ref y_Fork)=true)(mk_Seals:On K y_Seals=true)(kc_Seals:NF K (.ref y_Seals)=true)(eo_NoBits:Qd K y_NoBits veM "ValueError.__new__"=true)(eo_NoKey:Qd K y_NoKey veM "ValueError.__new__"=true)(eo_NoValue:Qd K y_NoValue veM "ValueError.__new__"=true)(eo_Missing:Qd K y_Missing veM "ValueError.__new__"=true)(eo_NoPlace:Qd K y_NoPlace veM "ValueError.__new__"=true)(e0_NoBits:LL K (.ref y_NoBits) "__getattribute__"=some (some (.builtin "BaseException.__getattribute__")))(e1_NoBits:LL K (.ref y_NoBits) "__getattr__"=some none)(e2_NoBits:LL K (.ref y_NoBits) "__class__"=some (some (.builtin "object.__class__")))(em0_NoBits:Ms K y_NoBits (.type "object")=some true)(em1_NoBits:Ms K y_NoBits (.type "BaseException")=some true)(e0_NoKey:LL K (.ref y_NoKey) "__getattribute__"=some (some (.builtin "BaseException.__getattribute__")))(e1_NoKey:LL K (.ref y_NoKey) "__getattr__"=some none)(e2_NoKey:LL K (.ref y_NoKey) "__class__"=some (some (.builtin "object.__class__")))(em0_NoKey:Ms K y_NoKey (.type "object")=some true)(em1_NoKey:Ms K y_NoKey (.type "BaseException")=some true)(e0_NoValue:LL K (.ref y_NoValue) "__getattribute__"=some (some (.builtin "BaseException.__getattribute__")))(e1_NoValue:LL K (.ref y_NoValue) "__getattr__"=some none)(e2_NoValue:LL K (.ref y_NoValue) "__class__"=some (some (.builtin "object.__class__")))(em0_NoValue:Ms K y_NoValue (.type "object")=some true)(em1_NoValue:Ms K y_NoValue (.type "BaseException")=some true)(e0_Missing:LL K (.ref y_Missing) "__getattribute__"=some (some (.builtin "BaseException.__getattribute__")))(e1_Missing:LL K (.ref y_Missing) "__getattr__"=some none)(e2_Missing:LL K (.ref y_Missing) "__class__"=some (some (.builtin "object.__class__")))(em0_Missing:Ms K y_Missing (.type "object")=some true)(em1_Missing:Ms K y_Missing (.type "BaseException")=some true)(e0_NoPlace:LL K (.ref y_NoPlace) "__getattribute__"=some (some (.builtin "BaseException.__getattribute__")))(e1_NoPlace:LL K (.ref y_NoPlace) "__getattr__"=some none)(e2_NoPlace:LL K (.ref y_NoPlace) "__class__"=some (some (.builtin "object.__class__")))(em0_NoPlace:Ms K y_NoPlace (.type "object")=some true)(em1_NoPlace:Ms K y_NoPlace (.type "BaseException")=some true)(sb_NoBits_Missing:Ms K y_NoBits (.ref y_Missing)=some false)(sb_NoBits_NoPlace:Ms K y_NoBits (.ref y_NoPlace)=some false)(sb_NoBits_NoKey:Ms K y_NoBits (.ref y_NoKey)=some false)(sb_NoBits_NoValue:Ms K y_NoBits (.ref y_NoValue)=some false)(sb_NoBits_NoBits:Ms K y_NoBits (.ref y_NoBits)=some true)(sb_NoKey_Missing:Ms K y_NoKey (.ref y_Missing)=some false)(sb_NoKey_NoPlace:Ms K y_NoKey (.ref y_NoPlace)=some false)(sb_NoKey_NoKey:Ms K y_NoKey (.ref y_NoKey)=some true)(sb_NoKey_NoValue:Ms K y_NoKey (.ref y_NoValue)=some false)(sb_NoKey_NoBits:Ms K y_NoKey (.ref y_NoBits)=some false)(sb_NoValue_Missing:Ms K y_NoValue (.ref y_Missing)=some false)(sb_NoValue_NoPlace:Ms K y_NoValue (.ref y_NoPlace)=some false)(sb_NoValue_NoKey:Ms K y_NoValue (.ref y_NoKey)=some false)(sb_NoValue_NoValue:Ms K y_NoValue (.ref y_NoValue)=some true)(sb_NoValue_NoBits:Ms K y_NoValue (.ref y_NoBits)=some false)(sb_Missing_Missing:Ms K y_Missing (.ref y_Missing)=some true)(sb_Missing_NoPlace:Ms K y_Missing (.ref y_NoPlace)=some false)(sb_Missing_NoKey:Ms K y_Missing (.ref y_NoKey)=some false)(sb_Missing_NoValue:Ms K y_Missing (.ref y_NoValue)=some false)(sb_Missing_NoBits:Ms K y_Missing (.ref y_NoBits)=some false)(sb_NoPlace_Missing:Ms K y_NoPlace (.ref y_Missing)=some false)(sb_NoPlace_NoPlace:Ms K y_NoPlace (.ref y_NoPlace)=some true)(sb_NoPlace_NoKey:Ms K y_NoPlace (.ref y_NoKey)=some false)(sb_NoPlace_NoValue:Ms K y_NoPlace (.ref y_NoValue)=some false)(sb_NoPlace_NoBits:Ms K y_NoPlace (.ref y_NoBits)=some false)(z_all:Nb K mainGlobals "all"=some none)(z_bool:Nb K mainGlobals "bool"=some none)(z_dict:Nb K mainGlobals "dict"=some none)(z_int:Nb K mainGlobals "int"=some none)(z_isinstance:Nb K mainGlobals "isinstance"=some none)(z_len:Nb K mainGlobals "len"=some none)(z_list:Nb K mainGlobals "list"=some none)(z_min:Nb K mainGlobals "min"=some none)(z_ord:Nb K mainGlobals "ord"=some none)(z_range:Nb K mainGlobals "range"=some none)(z_sorted:Nb K mainGlobals "sorted"=some none)(z_str:Nb K mainGlobals "str"=some none)(z_tuple:Nb K mainGlobals "tuple"=some none)(c_MOST_BITS:Nb K mainGlobals "MOST_BITS"=some (some (.int 60 tc0)))(c_MOST_PARTS:Nb K mainGlobals "MOST_PARTS"=some (some (.int 8 tc1)))(c_MOST_SIGNS:Nb K mainGlobals "MOST_SIGNS"=some (some (.int 60 tc2)))(nt:Rg K=true)(td:mV K ["counting","_law_stamper"]=true):sM P w K mg fa:=by
 cases hfa.symm.trans (MW X G h79.m)
 obtain⟨⟨z_65,t_65⟩,tb_65⟩:=Mr.mp tb_65
 obtain⟨⟨z_55,t_55⟩,tb_55⟩:=Mr.mp tb_55
 have tdn:([t_65,t_55]:List Addr).Nodup:=vJ (by unfold mV at td;simp only[Mo,PX,tb_65,tb_55,Ot]at td;exact of_decide_eq_true td)
 exact BF (A:=⟨x_77,d0,x_74,d1,x_75,d2,x_25,d3,x_59,d4,x_24,d5,x_65,d6,x_55,d7,x_43,d8,x_68,d9,x_19,d10,x_0,d11,x_37,d12,x_26,d13,x_69,d14,x_71,d15,x_64,d16,x_36,d17,x_83,d18,x_80,d19,x_12,d20,x_35,d21,x_49,d22,x_41,d23,x_34,d24,x_17,d25,x_46,d26,x_47,d27,x_62,d28,x_54,d29,x_72,d30,x_1,d31,x_21,d32,x_81,d33,x_9,d34,x_7,d35,x_42,d36,x_76,d37,x_20,d38,x_2,d39,x_82,d40,x_4,d41,x_78,d42,x_63,d43,x_22,d44,x_8,d45,x_6,d46,x_10,d47,x_38,d48,x_15,d49,x_3,d50,x_23,d51,x_5,d52,x_11,d53,x_40,d54,x_16,d55,x_60,d56,x_27,d57,x_39,d58,x_31,d59,x_70,d60,x_28,d61,x_67,d62,x_33,d63,x_32,d64,x_30,d65,x_14,d66,x_13,d67,x_61,d68,x_48,d69,x_73,d70,x_29,d71,x_18,d72,x_44,d73,x_52,d74,x_51,d75,x_53,d76,x_45,d77,x_50,d78,fa,d79,z_65,t_65,z_55,t_55,y_NoBits,y_NoKey,y_NoValue,y_Missing,y_NoPlace,y_Numbers,y_Knot,y_Bare,y_Seals,y_Row,y_Table,y_House,y_Fork,y_Leaf⟩) ⟨h0.fm1 X G,h1.fm1 X G,h2.fm1 X G,h3,h3.b2,h4.fm1 X G,h5,h5.b1,h6.fm0 X G,h7.fm1 X G,h8.fm2 X G,h9.fm1 X G,h10,h10.b3,h11,h11.b2,h12,h12.b3,h13,h13.b2,h14.fm1 X G,h15.fm1 X G,h16.fm1 X G,h17,h17.b2,h18.fm1 X G,h19.fm1 X G,h20,h20.b4,h21,h21.b1,h22.fm2 X G,h23,h23.b1,h24,h24.b1,h25,h25.b1,h26.fm2 X G,h27.fm4 X G,h28.fm1 X G,h29.fm2 X G,h30.fm2 X G,h31,h31.b3,h32,h32.b3,h33.fm3 X G,h34,h34.b3,h35,h35.b3,h36,h36.b2,h37.fm1 X G,h38,h38.b4,h39,h39.b5,h40.fm3 X G,h41,h41.b6,h42.fm5 X G,h43.fm3 X G,h44,h44.b5,h45,h45.b3,h46,h46.b5,h47,h47.b5,h48,h48.b3,h49,h49.b3,h50,h50.b4,h51,h51.b4,h52,h52.b3,h53,h53.b4,h54,h54.b2,h55,h55.b2,h56.fm3 X G,h57,h57.b2,h58,h58.b1,h59,h59.b1,h60.fm2 X G,h61,h61.b3,h62.fm1 X G,h63,h63.b3,h64,h64.b3,h65,h65.b2,h66,h66.b1,h67,h67.b1,h68.fm1 X G,h69.fm3 X G,h70.fm2 X G,h71,h71.b3,h72,h72.b3,h73.fm6 X G,h74.fm3 X G,h75.fm3 X G,h76.fm2 X G,h77.fm4 X G,h78.fm1 X G,h79.fm1 X G,MQ X G z_all,MQ X G z_bool,MQ X G z_dict,MQ X G z_int,MQ X G z_isinstance,MQ X G z_len,MQ X G z_list,MQ X G z_min,MQ X G z_ord,MQ X G z_range,MQ X G z_sorted,MQ X G z_str,MQ X G z_tuple,⟨_,MW X G c_MOST_BITS⟩,⟨_,MW X G c_MOST_PARTS⟩,⟨_,MW X G c_MOST_SIGNS⟩,h6.code X G tb_65,h7.code X G tb_55,MW X G bc_NoBits,cL.ok eo_NoBits,MW X G bc_NoKey,cL.ok eo_NoKey,MW X G bc_NoValue,cL.ok eo_NoValue,MW X G bc_Missing,cL.ok eo_Missing,MW X G bc_NoPlace,cL.ok eo_NoPlace,eo_NoBits,eo_NoKey,eo_NoValue,eo_Missing,eo_NoPlace,⟨e0_NoBits,e1_NoBits,e2_NoBits,em0_NoBits,em1_NoBits⟩,⟨e0_NoKey,e1_NoKey,e2_NoKey,em0_NoKey,em1_NoKey⟩,⟨e0_NoValue,e1_NoValue,e2_NoValue,em0_NoValue,em1_NoValue⟩,⟨e0_Missing,e1_Missing,e2_Missing,em0_Missing,em1_Missing⟩,⟨e0_NoPlace,e1_NoPlace,e2_NoPlace,em0_NoPlace,em1_NoPlace⟩,bo sb_NoBits_Missing,bo sb_NoBits_NoPlace,bo sb_NoBits_NoKey,bo sb_NoBits_NoValue,bo sb_NoBits_NoBits,bo sb_NoKey_Missing,bo sb_NoKey_NoPlace,bo sb_NoKey_NoKey,bo sb_NoKey_NoValue,bo sb_NoKey_NoBits,bo sb_NoValue_Missing,bo sb_NoValue_NoPlace,bo sb_NoValue_NoKey,bo sb_NoValue_NoValue,bo sb_NoValue_NoBits,bo sb_Missing_Missing,bo sb_Missing_NoPlace,bo sb_Missing_NoKey,bo sb_Missing_NoValue,bo sb_Missing_NoBits,bo sb_NoPlace_Missing,bo sb_NoPlace_NoPlace,bo sb_NoPlace_NoKey,bo sb_NoPlace_NoValue,bo sb_NoPlace_NoBits,MW X G bo_Numbers,⟨pg_Numbers,hd_Numbers,po_Numbers,sa_Numbers⟩,na_Numbers_given,MW X G bo_Knot,⟨pg_Knot,hd_Knot,po_Knot,sa_Knot⟩,na_Knot_term,na_Knot_mark,MW X G bo_Bare,⟨pg_Bare,hd_Bare,po_Bare,sa_Bare⟩,na_Bare_term,na_Bare_mark,MW X G bo_Seals,⟨pg_Seals,hd_Seals,po_Seals,sa_Seals⟩,na_Seals_sealed,MW X G bo_Row,⟨pg_Row,hd_Row,po_Row,sa_Row⟩,na_Row_stamper,na_Row_entries,na_Row_tops,MW X G bo_Table,⟨pg_Table,hd_Table,po_Table,sa_Table⟩,na_Table_stamper,na_Table_bits,na_Table_top,MW X G bo_House,⟨pg_House,hd_House,po_House,sa_House⟩,na_House_table,na_House_row,na_House_makes,na_House_seals,MW X G bo_Fork,⟨pg_Fork,hd_Fork,po_Fork,sa_Fork⟩,na_Fork_depth,na_Fork_begin,na_Fork_left,na_Fork_right,na_Fork_term,na_Fork_mark,MW X G bo_Leaf,⟨pg_Leaf,hd_Leaf,po_Leaf,sa_Leaf⟩,na_Leaf_key,na_Leaf_text,na_Leaf_term,na_Leaf_mark,⟨a17,fn17,h17.kp⟩,⟨a24,fn24,h24.kp⟩,⟨a23,fn23,h23.kp⟩,⟨a34,fn34,h34.kp⟩,⟨a31,fn31,h31.kp⟩,⟨a32,fn32,h32.kp⟩,⟨a35,fn35,h35.kp⟩,⟨a46,fn46,h46.kp⟩,⟨a39,fn39,h39.kp⟩,⟨a44,fn44,h44.kp⟩,⟨a47,fn47,h47.kp⟩,⟨a45,fn45,h45.kp⟩,⟨a36,fn36,h36.kp⟩,⟨a48,fn48,h48.kp⟩,⟨a52,fn52,h52.kp⟩,⟨a50,fn50,h50.kp⟩,⟨a51,fn51,h51.kp⟩,⟨a53,fn53,h53.kp⟩,⟨a54,fn54,h54.kp⟩,⟨a55,fn55,h55.kp⟩,⟨a59,fn59,h59.kp⟩,⟨a64,fn64,h64.kp⟩,⟨a63,fn63,h63.kp⟩,⟨a61,fn61,h61.kp⟩,⟨a65,fn65,h65.kp⟩,⟨a66,fn66,h66.kp⟩,⟨a57,fn57,h57.kp⟩,⟨a58,fn58,h58.kp⟩,⟨a67,fn67,h67.kp⟩,⟨a71,fn71,h71.kp⟩,⟨a72,fn72,h72.kp⟩,⟨a49,fn49,h49.kp⟩,⟨a25,fn25,h25.kp⟩,⟨a3,fn3,h3.kp⟩,⟨mk_Numbers,a5,fn5,kc_Numbers⟩,⟨mk_Bare,a11,fn11,kc_Bare⟩,⟨mk_Row,a13,fn13,kc_Row⟩,⟨mk_Table,a12,fn12,kc_Table⟩,⟨mk_House,a20,fn20,kc_House⟩,⟨mk_Leaf,a38,fn38,kc_Leaf⟩,⟨mk_Fork,a41,fn41,kc_Fork⟩,⟨mk_Seals,a21,fn21,kc_Seals⟩,⟨cg_Knot,cr_Knot,cv_Knot,cw_Knot,h10.kp⟩,⟨oic_Bare,oig,oit,oim_Bare⟩,⟨oic_Fork,oig,oit,oim_Fork⟩,⟨oic_Leaf,oig,oit,oim_Leaf⟩,ko_Bare_Bare,ko_Fork_Bare,ko_Leaf_Bare⟩ nt tb_65 tb_55 tdn
theorem Kg {l:W.OpenLaw}{q:Mf}{loose:List Str}{XP:(Str→Option pv)→Heap→Prop}{YP:Mx→Heap→Prop}{d:DefRec}{K:Params→cW}(hn:l.most=some 63)(hdf:d.params.defaults=[])
  (hY:∀(w:Mx)(h:Heap),YP w h→(K w.params).In h)(hq:∀y∈(["counting","_law_stamper"]:List Str),((Qh q).find? fun e=>e.name==y).isSome=true)
  (F:∀(w:Mx)(mg:Str→Option pv)(fa:Addr)(h:Heap),(K w.params).In h→h.Ns mainGlobals mg→mg d.name=some (.ref fa)→sM l.prog w (K w.params) mg fa):
  W.WalkO q loose XP YP l.row.toRowW d [] (fun f vs=>Ry f vs):=
 L2.vc (n:=63) (k:=151) (x:="_law_script") (CX:=fun w=>CX1 l.prog w) hn (by decide) hdf ⟨rfl,by decide,by decide⟩ hY hq F fun _ _ _ _ _ ⟨_,_,_,_,_,_,z⟩=>z
end
end Rs
def PySem.W.Fast.tw16939287759991623643:Unit:=()
def PySem.W.Fast.tw9099164055776617034:Unit:=()
def PySem.W.Fast.tw16322556875459196299:Unit:=()
def PySem.W.Fast.tw18386943705148756853:Unit:=()
def PySem.W.Fast.tw1877169835441553976:Unit:=()
def PySem.W.Fast.tw14160022505954209405:Unit:=()
def PySem.W.Fast.tw12300927153755765175:Unit:=()
def PySem.W.Fast.tw6274805324217096400:Unit:=()
def PySem.W.Fast.tw4849916345473437236:Unit:=()
def PySem.W.Fast.tw5663196640754585514:Unit:=()
def PySem.W.Fast.tw16761970049539236092:Unit:=()
def PySem.W.Fast.tw14399911594930434991:Unit:=()
def PySem.W.Fast.tw15771454195938081280:Unit:=()
def PySem.W.Fast.tw10166941813375789859:Unit:=()
def PySem.W.Fast.tw11739889808971996170:Unit:=()
def PySem.W.Fast.tw4660637589747942519:Unit:=()
def PySem.W.Fast.tw7428968900627828225:Unit:=()
def PySem.W.Fast.tw4694752480573816280:Unit:=()
def PySem.W.Fast.tw2040408041250047775:Unit:=()
def PySem.W.Fast.tw80271334045239995:Unit:=()
def PySem.W.Fast.tw2583845622683260306:Unit:=()
def PySem.W.Fast.tw5211249995210089559:Unit:=()
def PySem.W.Fast.tw17719172720562770213:Unit:=()
def PySem.W.Fast.tw4376400533233661378:Unit:=()
def PySem.W.Fast.tw11787372894896504705:Unit:=()
def PySem.W.Fast.tw10490781814563421340:Unit:=()
def PySem.W.Fast.tw1022025045565347960:Unit:=()
def PySem.W.Fast.tw11970180851572867117:Unit:=()
def PySem.W.Fast.tw8684947824149845111:Unit:=()
def PySem.W.Fast.tw9341453581615877493:Unit:=()
def PySem.W.Fast.tw11329720210895755777:Unit:=()
def PySem.W.Fast.tw9814282545671058658:Unit:=()
def PySem.W.Fast.tw7498278544908747435:Unit:=()
def PySem.W.Fast.tw14601783513226328679:Unit:=()
def PySem.W.Fast.tw2209165577290564625:Unit:=()
def PySem.W.Fast.tw5924011036735536487:Unit:=()
def PySem.W.Fast.tw524765223449853371:Unit:=()
def PySem.W.Fast.tw5081258356763615424:Unit:=()
def PySem.W.Fast.tw10518968062345767630:Unit:=()
def PySem.W.Fast.tw10335287397074803114:Unit:=()
def PySem.W.Fast.tw374158450889429249:Unit:=()
def PySem.W.Fast.tw6208836459905467996:Unit:=()
def PySem.W.Fast.tw12555517990197756790:Unit:=()
def PySem.W.Fast.tw13647774462951739218:Unit:=()
def PySem.W.Fast.tw9398726841288471404:Unit:=()
def PySem.W.Fast.tw11176140099899865459:Unit:=()
def PySem.W.Fast.tw13299740911909493266:Unit:=()
def PySem.W.Fast.tw6799582144855521261:Unit:=()
def PySem.W.Fast.tw4771339662903266719:Unit:=()
def PySem.W.Fast.tw8425767295159542991:Unit:=()
def PySem.W.Fast.tw2247596712658153145:Unit:=()
def PySem.W.Fast.tw4262647660396464522:Unit:=()
def PySem.W.Fast.tw16161958023110269745:Unit:=()
def PySem.W.Fast.tw3124412184054211828:Unit:=()
def PySem.W.Fast.tw12608448989062453499:Unit:=()
def PySem.W.Fast.tw15237157636064837899:Unit:=()
def PySem.W.Fast.tw16351947749031857984:Unit:=()
def PySem.W.Fast.tw13115238701480088280:Unit:=()
def PySem.W.Fast.tw12260939904439596801:Unit:=()
def PySem.W.Fast.tw7405301937571528203:Unit:=()
def PySem.W.Fast.tw18261930950565440703:Unit:=()
def PySem.W.Fast.tw2393101543876306711:Unit:=()
def PySem.W.Fast.tw2662636240290317981:Unit:=()
def PySem.W.Fast.tw7404356178184299223:Unit:=()
def PySem.W.Fast.tw12889022583582644888:Unit:=()
def PySem.W.Fast.tw11091360441842618182:Unit:=()
def PySem.W.Fast.tw13088634480574213906:Unit:=()
def PySem.W.Fast.tw5102191226647919754:Unit:=()
def PySem.W.Fast.tw14802847780816914304:Unit:=()
def PySem.W.Fast.tw11357487757602577350:Unit:=()
def PySem.W.Fast.tw11581250374467413203:Unit:=()
def PySem.W.Fast.tw4394221507514876631:Unit:=()
def PySem.W.Fast.tw1681213401187541174:Unit:=()
def PySem.W.Fast.tw18373957201882079743:Unit:=()
def PySem.W.Fast.tw8617517016752626571:Unit:=()
def PySem.W.Fast.tw8188492706683439577:Unit:=()
def PySem.W.Fast.tw3213736055080063028:Unit:=()
def PySem.W.Fast.tw2744905599450144345:Unit:=()
def PySem.W.Fast.tw4489612795820582382:Unit:=()
def PySem.W.Fast.tw1378994043082771525:Unit:=()
def PySem.W.Fast.tw4571902174942165821:Unit:=()
def PySem.W.Fast.tw14040161927449768070:Unit:=()
def PySem.W.Fast.tw5379516073286854435:Unit:=()
def PySem.W.Fast.tw4327798033760613360:Unit:=()
def PySem.W.Fast.tw9034186010744704443:Unit:=()
def PySem.W.Fast.tw7862454947999685392:Unit:=()
def PySem.W.Fast.tw5260089220696897800:Unit:=()
def PySem.W.Fast.tw17843483804815894851:Unit:=()
def PySem.W.Fast.tw16556033212401659337:Unit:=()
def PySem.W.Fast.tw599298419492667149:Unit:=()
def PySem.W.Fast.tw18050095627991323942:Unit:=()
def PySem.W.Fast.tw9576978763072310465:Unit:=()
def PySem.W.Fast.tw9334616899508867120:Unit:=()
def PySem.W.Fast.tw9361408120745820094:Unit:=()
def PySem.W.Fast.tw18132998391003079873:Unit:=()
def PySem.W.Fast.tw12679203384767320993:Unit:=()
def PySem.W.Fast.tw4555345882094848072:Unit:=()
def PySem.W.Fast.tw16697670207491703937:Unit:=()
def PySem.W.Fast.tw563980405230062519:Unit:=()
def PySem.W.Fast.tw16128619927821086026:Unit:=()
def PySem.W.Fast.tw10432782908827260616:Unit:=()
def PySem.W.Fast.tw1729351560439119494:Unit:=()
def PySem.W.Fast.tw14286370354556571339:Unit:=()
def PySem.W.Fast.tw9171254432066800037:Unit:=()
def PySem.W.Fast.tw6238154565648023817:Unit:=()
def PySem.W.Fast.tw5234516928981205574:Unit:=()
def PySem.W.Fast.tw5765394141107048572:Unit:=()
def PySem.W.Fast.tw3091841322234741546:Unit:=()
def PySem.W.Fast.tw448513794312839581:Unit:=()
def PySem.W.Fast.tw18216823992987328339:Unit:=()
def PySem.W.Fast.tw5288584024047327900:Unit:=()
def PySem.W.Fast.tw8822833883767931001:Unit:=()
def PySem.W.Fast.tw16615965711182732440:Unit:=()
def PySem.W.Fast.tw1078458551782077486:Unit:=()
def PySem.W.Fast.tw4087118300991037278:Unit:=()
def PySem.W.Fast.tw15949492460854660496:Unit:=()
def PySem.W.Fast.tw17967122785077959674:Unit:=()
def PySem.W.Fast.tw17144975017103492762:Unit:=()
def PySem.W.Fast.tw13932721707782926345:Unit:=()
def PySem.W.Fast.tw7744894286186117229:Unit:=()
def PySem.W.Fast.tw12546748837626403161:Unit:=()
def PySem.W.Fast.tw2370939713417219900:Unit:=()
def PySem.W.Fast.tw1820953451871575462:Unit:=()
def PySem.W.Fast.tw13845456882021099395:Unit:=()
def PySem.W.Fast.tw4726394919126182297:Unit:=()
def PySem.W.Fast.tw16459246937537346439:Unit:=()
def PySem.W.Fast.tw3103197717714553625:Unit:=()
def PySem.W.Fast.tw12982371598649013832:Unit:=()
def PySem.W.Fast.tw7309299206211119767:Unit:=()
def PySem.W.Fast.tw6683861832352502497:Unit:=()
def PySem.W.Fast.tw13820082013718704895:Unit:=()
def PySem.W.Fast.tw11469169493216252446:Unit:=()
def PySem.W.Fast.tw16280027346783220113:Unit:=()
def PySem.W.Fast.tw8996200331899965889:Unit:=()
def PySem.W.Fast.tw7333151070159222272:Unit:=()
def PySem.W.Fast.tw9902361422001745048:Unit:=()
def PySem.W.Fast.tw6827302409724490040:Unit:=()
def PySem.W.Fast.tw105469643624111288:Unit:=()
def PySem.W.Fast.tw3427639681592708498:Unit:=()
def PySem.W.Fast.tw5979032737632902006:Unit:=()
def PySem.W.Fast.tw2424019093109016642:Unit:=()
def PySem.W.Fast.tw13040391621662774026:Unit:=()
def PySem.W.Fast.tw1105645225492200971:Unit:=()
def PySem.W.Fast.tw10006831999086052340:Unit:=()
def PySem.W.Fast.tw1131440726238518916:Unit:=()
def PySem.W.Fast.tw14423069750666750655:Unit:=()
def PySem.W.Fast.tw8409750327729805839:Unit:=()
def PySem.W.Fast.tw1904517614554015469:Unit:=()
def PySem.W.Fast.tw7999962150443534003:Unit:=()
def PySem.W.Fast.tw13125748139492946171:Unit:=()
def PySem.W.Fast.tw13778329796051416845:Unit:=()
def PySem.W.Fast.tw15486155357159564892:Unit:=()
def PySem.W.Fast.tw1373943911697485947:Unit:=()
def PySem.W.Fast.tw9409102527774826104:Unit:=()
def PySem.W.Fast.tw14799340989740859717:Unit:=()
def PySem.W.Fast.tw9607284719807862509:Unit:=()
def PySem.W.Fast.tw6600141115536716168:Unit:=()
def PySem.W.Fast.tw16679122035054906184:Unit:=()
def PySem.W.Fast.tw37084446995001369:Unit:=()
def PySem.W.Fast.tw6805434903852437721:Unit:=()
def PySem.W.Fast.tw16950001973739318159:Unit:=()
def PySem.W.Fast.tw132580808174259250:Unit:=()
def PySem.W.Fast.tw1323365148574125607:Unit:=()
def PySem.W.Fast.tw9300121639554057585:Unit:=()
def PySem.W.Fast.tw6595823828674787857:Unit:=()
def PySem.W.Fast.tw2558475565674231309:Unit:=()
def PySem.W.Fast.tw16885075517542730957:Unit:=()
def PySem.W.Fast.tw2522832004646184171:Unit:=()
def PySem.W.Fast.tw7481169074948175702:Unit:=()
def PySem.W.Fast.tw10194072292033616083:Unit:=()
def PySem.W.Fast.tw525227230991734684:Unit:=()
def PySem.W.Fast.tw15839463609061564849:Unit:=()
def PySem.W.Fast.tw7911026025635821125:Unit:=()
def PySem.W.Fast.tw7365500949839371535:Unit:=()
def PySem.W.Fast.tw14721392137118738231:Unit:=()
def PySem.W.Fast.tw17926215844633055674:Unit:=()
def PySem.W.Fast.tw18396568825322994527:Unit:=()
def PySem.W.Fast.tw4474278395486688619:Unit:=()
def PySem.W.Fast.tw8748626368425531529:Unit:=()
def PySem.W.Fast.tw2657398021585268702:Unit:=()
def PySem.W.Fast.tw12288089543887006020:Unit:=()
def PySem.W.Fast.tw18319025988249945903:Unit:=()
def PySem.W.Fast.tw17541477270782289059:Unit:=()
def PySem.W.Fast.tw8309573110582230355:Unit:=()
def PySem.W.Fast.tw14617240390474406618:Unit:=()
def PySem.W.Fast.tw11669406521175374514:Unit:=()
def PySem.W.Fast.tw16149257132259139567:Unit:=()
def PySem.W.Fast.tw10361800829973270249:Unit:=()
def PySem.W.Fast.tw15460516207849142044:Unit:=()
def PySem.W.Fast.tw12084967179503578158:Unit:=()
def PySem.W.Fast.tw14531475286174636731:Unit:=()
def PySem.W.Fast.tw15813460690359525285:Unit:=()
def PySem.W.Fast.tw10291763353081924931:Unit:=()
def PySem.W.Fast.tw12421217857008616787:Unit:=()
def PySem.W.Fast.tw13052825758044751062:Unit:=()
def PySem.W.Fast.tw7971108158815194348:Unit:=()
def PySem.W.Fast.tw10697169019170675220:Unit:=()
def PySem.W.Fast.tw4431142081668403077:Unit:=()
def PySem.W.Fast.tw6948191262252172876:Unit:=()
def PySem.W.Fast.tw3930702385551348274:Unit:=()
def PySem.W.Fast.tw13317379912399082457:Unit:=()
def PySem.W.Fast.tw16914193154835489811:Unit:=()
def PySem.W.Fast.tw16403171304563362166:Unit:=()
def PySem.W.Fast.tw17591608164483078446:Unit:=()
def PySem.W.Fast.tw14984464402281142362:Unit:=()
def PySem.W.Fast.tw18268920540724451119:Unit:=()
def PySem.W.Fast.tw10706359376195903306:Unit:=()
def PySem.W.Fast.tw13756480015358938094:Unit:=()
def PySem.W.Fast.tw17484079679330740482:Unit:=()
def PySem.W.Fast.tw4801576827797505229:Unit:=()
def PySem.W.Fast.tw8077733384281697946:Unit:=()
def PySem.W.Fast.tw10249429706271913917:Unit:=()
def PySem.W.Fast.tw3207003931790647055:Unit:=()
def PySem.W.Fast.tw17950611456551047782:Unit:=()
def PySem.W.Fast.tw5441009882068352070:Unit:=()
def PySem.W.Fast.tw17100172225024135517:Unit:=()
def PySem.W.Fast.tw14536220719787055657:Unit:=()
def PySem.W.Fast.tw1040206923753615212:Unit:=()
def PySem.W.Fast.tw251429336793579179:Unit:=()
def PySem.W.Fast.tw16793888708553236887:Unit:=()
def PySem.W.Fast.tw8368650589438895149:Unit:=()
def PySem.W.Fast.tw11052360339463857509:Unit:=()
def PySem.W.Fast.tw6468227724067443748:Unit:=()
def PySem.W.Fast.tw5727630976916847870:Unit:=()
def PySem.W.Fast.tw10603622396483802923:Unit:=()
def PySem.W.Fast.tw15260332939773314328:Unit:=()
def PySem.W.Fast.tw4361498503541911870:Unit:=()
def PySem.W.Fast.tw18323483233560177780:Unit:=()
def PySem.W.Fast.tw17565834982328168546:Unit:=()
def PySem.W.Fast.tw16189954361923074325:Unit:=()
def PySem.W.Fast.tw16584738743135816763:Unit:=()
def PySem.W.Fast.tw2188020442505797621:Unit:=()
def PySem.W.Fast.tw13078332523078968983:Unit:=()
def PySem.W.Fast.tw10673462565102770313:Unit:=()
def PySem.W.Fast.tw15968140729445840133:Unit:=()
def PySem.W.Fast.tw6185587128910136611:Unit:=()
def PySem.W.Fast.tw635173895003968327:Unit:=()
def PySem.W.Fast.tw9103823932436207036:Unit:=()
def PySem.W.Fast.tw14156729588594991310:Unit:=()
def PySem.W.Fast.tw7022273351982527908:Unit:=()
def PySem.W.Fast.tw3644695340384319307:Unit:=()
def PySem.W.Fast.tw17868417573820674775:Unit:=()
def PySem.W.Fast.tw11872246674943401416:Unit:=()
def PySem.W.Fast.tw10039258226372739602:Unit:=()
def PySem.W.Fast.tw10590117816137786759:Unit:=()
def PySem.W.Fast.tw10830491946359905098:Unit:=()
def PySem.W.Fast.tw5028110840137512071:Unit:=()
def PySem.W.Fast.tw4429287443196710747:Unit:=()
def PySem.W.Fast.tw8691689273331440270:Unit:=()
def PySem.W.Fast.tw11472969688318395847:Unit:=()
def PySem.W.Fast.tw2916110851661853708:Unit:=()
def PySem.W.Fast.tw7861802562052621588:Unit:=()
def PySem.W.Fast.tw8749152729800572915:Unit:=()
def PySem.W.Fast.tw13517620408611249217:Unit:=()
def PySem.W.Fast.tw13309461652595390235:Unit:=()
def PySem.W.Fast.tw7771318625613660032:Unit:=()
def PySem.W.Fast.tw12034386760978283891:Unit:=()
def PySem.W.Fast.tw7824862691834962614:Unit:=()
def PySem.W.Fast.tw5753836155999780977:Unit:=()
def PySem.W.Fast.tw9349025730473870605:Unit:=()
def PySem.W.Fast.tw1515194224033467966:Unit:=()
def PySem.W.Fast.tw17760899010428352883:Unit:=()
def PySem.W.Fast.tw6513318155766742927:Unit:=()
def PySem.W.Fast.tw12096824526835561746:Unit:=()
def PySem.W.Fast.tw8804904275845998746:Unit:=()
def PySem.W.Fast.tw7735908161786943627:Unit:=()
def PySem.W.Fast.tw5706256033872484480:Unit:=()
def PySem.W.Fast.tw1071555533726067487:Unit:=()
def PySem.W.Fast.tw816376998033869551:Unit:=()
def PySem.W.Fast.tw13277147252071459732:Unit:=()
def PySem.W.Fast.tw3631641635954041836:Unit:=()
def PySem.W.Fast.tw5079173882218876035:Unit:=()
def PySem.W.Fast.tw11603793991982710648:Unit:=()
def PySem.W.Fast.tw7794172323007757770:Unit:=()
def PySem.W.Fast.tw4975753057222777599:Unit:=()
def PySem.W.Fast.tw8085973382665516789:Unit:=()
def PySem.W.Fast.tw10271767841917888459:Unit:=()
def PySem.W.Fast.tw14556579816671743263:Unit:=()
def PySem.W.Fast.tw16172786200991331362:Unit:=()
open PySem PySem.W PyProof.Rows
set_option maxRecDepth 100000 in
set_option maxHeartbeats 0 in
theorem PySem.Challenge.cw_rootstamp_k52_a_house_is_dicts_holds : PySem.Challenge.rw_rootstamp_k52_a_house_is_dicts.Holds := by
 w_on; o_law; k_head; (case hw => w_witness2)
 k_fill
 refine Rs.Kg (l := PySem.Challenge.rw_rootstamp_k52_a_house_is_dicts) rfl rfl (fun w h Y => by first | exact PySem.W.kIn_of Y | exact PySem.W.km_in_of Y) (by decide +kernel) ?F
 case F =>
  intro w mg fa h KX G hmg
  refine' Rs.Bj KX G hmg ?bo_Numbers ?bo_Knot ?bo_Bare ?bo_Seals ?bo_Row ?bo_Table ?bo_House ?bo_Fork ?bo_Leaf ?bc_NoBits ?bc_NoKey ?bc_NoValue ?bc_Missing ?bc_NoPlace (L2.bu ?a0 ?l0 ?c0 ?k0) (L2.bu ?a1 ?l1 ?c1 ?k1) (L2.bu ?a2 ?l2 ?c2 ?k2) ?a3 (L2.aS ?l3 ?c3 ?k3) ?fn3 (L2.bu ?a4 ?l4 ?c4 ?k4) ?a5 (L2.aS ?l5 ?c5 ?k5) ?fn5 (L2.bu ?a6 ?l6 ?c6 ?k6) ?tb_65 (L2.bu ?a7 ?l7 ?c7 ?k7) ?tb_55 (L2.bu ?a8 ?l8 ?c8 ?k8) (L2.bu ?a9 ?l9 ?c9 ?k9) ?a10 (L2.aS ?l10 ?c10 ?k10) ?fn10 ?a11 (L2.aS ?l11 ?c11 ?k11) ?fn11 ?a12 (L2.aS ?l12 ?c12 ?k12) ?fn12 ?a13 (L2.aS ?l13 ?c13 ?k13) ?fn13 (L2.bu ?a14 ?l14 ?c14 ?k14) (L2.bu ?a15 ?l15 ?c15 ?k15) (L2.bu ?a16 ?l16 ?c16 ?k16) ?a17 (L2.aS ?l17 ?c17 ?k17) ?fn17 (L2.bu ?a18 ?l18 ?c18 ?k18) (L2.bu ?a19 ?l19 ?c19 ?k19) ?a20 (L2.aS ?l20 ?c20 ?k20) ?fn20 ?a21 (L2.aS ?l21 ?c21 ?k21) ?fn21 (L2.bu ?a22 ?l22 ?c22 ?k22) ?a23 (L2.aS ?l23 ?c23 ?k23) ?fn23 ?a24 (L2.aS ?l24 ?c24 ?k24) ?fn24 ?a25 (L2.aS ?l25 ?c25 ?k25) ?fn25 (L2.bu ?a26 ?l26 ?c26 ?k26) (L2.bu ?a27 ?l27 ?c27 ?k27) (L2.bu ?a28 ?l28 ?c28 ?k28) (L2.bu ?a29 ?l29 ?c29 ?k29) (L2.bu ?a30 ?l30 ?c30 ?k30) ?a31 (L2.aS ?l31 ?c31 ?k31) ?fn31 ?a32 (L2.aS ?l32 ?c32 ?k32) ?fn32 (L2.bu ?a33 ?l33 ?c33 ?k33) ?a34 (L2.aS ?l34 ?c34 ?k34) ?fn34 ?a35 (L2.aS ?l35 ?c35 ?k35) ?fn35 ?a36 (L2.aS ?l36 ?c36 ?k36) ?fn36 (L2.bu ?a37 ?l37 ?c37 ?k37) ?a38 (L2.aS ?l38 ?c38 ?k38) ?fn38 ?a39 (L2.aS ?l39 ?c39 ?k39) ?fn39 (L2.bu ?a40 ?l40 ?c40 ?k40) ?a41 (L2.aS ?l41 ?c41 ?k41) ?fn41 (L2.bu ?a42 ?l42 ?c42 ?k42) (L2.bu ?a43 ?l43 ?c43 ?k43) ?a44 (L2.aS ?l44 ?c44 ?k44) ?fn44 ?a45 (L2.aS ?l45 ?c45 ?k45) ?fn45 ?a46 (L2.aS ?l46 ?c46 ?k46) ?fn46 ?a47 (L2.aS ?l47 ?c47 ?k47) ?fn47 ?a48 (L2.aS ?l48 ?c48 ?k48) ?fn48 ?a49 (L2.aS ?l49 ?c49 ?k49) ?fn49 ?a50 (L2.aS ?l50 ?c50 ?k50) ?fn50 ?a51 (L2.aS ?l51 ?c51 ?k51) ?fn51 ?a52 (L2.aS ?l52 ?c52 ?k52) ?fn52 ?a53 (L2.aS ?l53 ?c53 ?k53) ?fn53 ?a54 (L2.aS ?l54 ?c54 ?k54) ?fn54 ?a55 (L2.aS ?l55 ?c55 ?k55) ?fn55 (L2.bu ?a56 ?l56 ?c56 ?k56) ?a57 (L2.aS ?l57 ?c57 ?k57) ?fn57 ?a58 (L2.aS ?l58 ?c58 ?k58) ?fn58 ?a59 (L2.aS ?l59 ?c59 ?k59) ?fn59 (L2.bu ?a60 ?l60 ?c60 ?k60) ?a61 (L2.aS ?l61 ?c61 ?k61) ?fn61 (L2.bu ?a62 ?l62 ?c62 ?k62) ?a63 (L2.aS ?l63 ?c63 ?k63) ?fn63 ?a64 (L2.aS ?l64 ?c64 ?k64) ?fn64 ?a65 (L2.aS ?l65 ?c65 ?k65) ?fn65 ?a66 (L2.aS ?l66 ?c66 ?k66) ?fn66 ?a67 (L2.aS ?l67 ?c67 ?k67) ?fn67 (L2.bu ?a68 ?l68 ?c68 ?k68) (L2.bu ?a69 ?l69 ?c69 ?k69) (L2.bu ?a70 ?l70 ?c70 ?k70) ?a71 (L2.aS ?l71 ?c71 ?k71) ?fn71 ?a72 (L2.aS ?l72 ?c72 ?k72) ?fn72 (L2.bu ?a73 ?l73 ?c73 ?k73) (L2.bu ?a74 ?l74 ?c74 ?k74) (L2.bu ?a75 ?l75 ?c75 ?k75) (L2.bu ?a76 ?l76 ?c76 ?k76) (L2.bu ?a77 ?l77 ?c77 ?k77) (L2.bu ?a78 ?l78 ?c78 ?k78) (L2.bu ?a79 ?l79 ?c79 ?k79) ?pg_Numbers ?hd_Numbers ?po_Numbers ?sa_Numbers ?na_Numbers_given ?pg_Knot ?hd_Knot ?po_Knot ?sa_Knot ?na_Knot_term ?na_Knot_mark ?pg_Bare ?hd_Bare ?po_Bare ?sa_Bare ?na_Bare_term ?na_Bare_mark ?pg_Seals ?hd_Seals ?po_Seals ?sa_Seals ?na_Seals_sealed ?pg_Row ?hd_Row ?po_Row ?sa_Row ?na_Row_stamper ?na_Row_entries ?na_Row_tops ?pg_Table ?hd_Table ?po_Table ?sa_Table ?na_Table_stamper ?na_Table_bits ?na_Table_top ?pg_House ?hd_House ?po_House ?sa_House ?na_House_table ?na_House_row ?na_House_makes ?na_House_seals ?pg_Fork ?hd_Fork ?po_Fork ?sa_Fork ?na_Fork_depth ?na_Fork_begin ?na_Fork_left ?na_Fork_right ?na_Fork_term ?na_Fork_mark ?pg_Leaf ?hd_Leaf ?po_Leaf ?sa_Leaf ?na_Leaf_key ?na_Leaf_text ?na_Leaf_term ?na_Leaf_mark ?cg_Knot ?cr_Knot ?cv_Knot ?cw_Knot ?oig ?oit ?oic_Bare ?oim_Bare ?oic_Fork ?oim_Fork ?oic_Leaf ?oim_Leaf ?ko_Bare_Bare ?ko_Fork_Bare ?ko_Leaf_Bare ?mk_Numbers ?kc_Numbers ?mk_Bare ?kc_Bare ?mk_Row ?kc_Row ?mk_Table ?kc_Table ?mk_House ?kc_House ?mk_Leaf ?kc_Leaf ?mk_Fork ?kc_Fork ?mk_Seals ?kc_Seals ?eo_NoBits ?eo_NoKey ?eo_NoValue ?eo_Missing ?eo_NoPlace ?e0_NoBits ?e1_NoBits ?e2_NoBits ?em0_NoBits ?em1_NoBits ?e0_NoKey ?e1_NoKey ?e2_NoKey ?em0_NoKey ?em1_NoKey ?e0_NoValue ?e1_NoValue ?e2_NoValue ?em0_NoValue ?em1_NoValue ?e0_Missing ?e1_Missing ?e2_Missing ?em0_Missing ?em1_Missing ?e0_NoPlace ?e1_NoPlace ?e2_NoPlace ?em0_NoPlace ?em1_NoPlace ?sb_NoBits_Missing ?sb_NoBits_NoPlace ?sb_NoBits_NoKey ?sb_NoBits_NoValue ?sb_NoBits_NoBits ?sb_NoKey_Missing ?sb_NoKey_NoPlace ?sb_NoKey_NoKey ?sb_NoKey_NoValue ?sb_NoKey_NoBits ?sb_NoValue_Missing ?sb_NoValue_NoPlace ?sb_NoValue_NoKey ?sb_NoValue_NoValue ?sb_NoValue_NoBits ?sb_Missing_Missing ?sb_Missing_NoPlace ?sb_Missing_NoKey ?sb_Missing_NoValue ?sb_Missing_NoBits ?sb_NoPlace_Missing ?sb_NoPlace_NoPlace ?sb_NoPlace_NoKey ?sb_NoPlace_NoValue ?sb_NoPlace_NoBits ?z_all ?z_bool ?z_dict ?z_int ?z_isinstance ?z_len ?z_list ?z_min ?z_ord ?z_range ?z_sorted ?z_str ?z_tuple ?c_MOST_BITS ?c_MOST_PARTS ?c_MOST_SIGNS ?nt ?td
  case bo_Numbers | bo_Knot | bo_Bare | bo_Seals | bo_Row | bo_Table | bo_House | bo_Fork | bo_Leaf | bc_NoBits | bc_NoKey | bc_NoValue | bc_Missing | bc_NoPlace | a0 | l0 | c0 | k0 | a1 | l1 | c1 | k1 | a2 | l2 | c2 | k2 | a3 | l3 | c3 | k3 | fn3 | a4 | l4 | c4 | k4 | a5 | l5 | c5 | k5 | fn5 | a6 | l6 | c6 | k6 => k_is
  case tb_65 => kernel_rfl
  case a7 | l7 | c7 | k7 => k_is
  case tb_55 => kernel_rfl
  case a8 | l8 | c8 | k8 | a9 | l9 | c9 | k9 | a10 | l10 | c10 | k10 | fn10 | a11 | l11 | c11 | k11 | fn11 | a12 | l12 | c12 | k12 | fn12 | a13 | l13 | c13 | k13 | fn13 | a14 | l14 | c14 | k14 | a15 | l15 | c15 | k15 | a16 | l16 | c16 | k16 | a17 | l17 | c17 | k17 | fn17 | a18 | l18 | c18 | k18 | a19 | l19 | c19 | k19 | a20 | l20 | c20 | k20 | fn20 | a21 | l21 | c21 | k21 | fn21 | a22 | l22 | c22 | k22 | a23 | l23 | c23 | k23 | fn23 | a24 | l24 | c24 | k24 | fn24 | a25 | l25 | c25 | k25 | fn25 | a26 | l26 | c26 | k26 | a27 | l27 | c27 | k27 | a28 | l28 | c28 | k28 | a29 | l29 | c29 | k29 | a30 | l30 | c30 | k30 | a31 | l31 | c31 | k31 | fn31 | a32 | l32 | c32 | k32 | fn32 | a33 | l33 | c33 | k33 | a34 | l34 | c34 | k34 | fn34 | a35 | l35 | c35 | k35 | fn35 | a36 | l36 | c36 | k36 | fn36 | a37 | l37 | c37 | k37 | a38 | l38 | c38 | k38 | fn38 | a39 | l39 | c39 | k39 | fn39 | a40 | l40 | c40 | k40 | a41 | l41 | c41 | k41 | fn41 | a42 | l42 | c42 | k42 | a43 | l43 | c43 | k43 | a44 | l44 | c44 | k44 | fn44 | a45 | l45 | c45 | k45 | fn45 | a46 | l46 | c46 | k46 | fn46 | a47 | l47 | c47 | k47 | fn47 | a48 | l48 | c48 | k48 | fn48 | a49 | l49 | c49 | k49 | fn49 | a50 | l50 | c50 | k50 | fn50 | a51 | l51 | c51 | k51 | fn51 | a52 | l52 | c52 | k52 | fn52 | a53 | l53 | c53 | k53 | fn53 | a54 | l54 | c54 | k54 | fn54 | a55 | l55 | c55 | k55 | fn55 | a56 | l56 | c56 | k56 | a57 | l57 | c57 | k57 | fn57 | a58 | l58 | c58 | k58 | fn58 | a59 | l59 | c59 | k59 | fn59 | a60 | l60 | c60 | k60 | a61 | l61 | c61 | k61 | fn61 | a62 | l62 | c62 | k62 | a63 | l63 | c63 | k63 | fn63 | a64 | l64 | c64 | k64 | fn64 | a65 | l65 | c65 | k65 | fn65 | a66 | l66 | c66 | k66 | fn66 | a67 | l67 | c67 | k67 | fn67 | a68 | l68 | c68 | k68 | a69 | l69 | c69 | k69 | a70 | l70 | c70 | k70 | a71 | l71 | c71 | k71 | fn71 | a72 | l72 | c72 | k72 | fn72 | a73 | l73 | c73 | k73 | a74 | l74 | c74 | k74 | a75 | l75 | c75 | k75 | a76 | l76 | c76 | k76 | a77 | l77 | c77 | k77 | a78 | l78 | c78 | k78 | a79 | l79 | c79 | k79 | pg_Numbers | hd_Numbers | po_Numbers | sa_Numbers | na_Numbers_given | pg_Knot | hd_Knot | po_Knot | sa_Knot | na_Knot_term | na_Knot_mark | pg_Bare | hd_Bare | po_Bare | sa_Bare | na_Bare_term | na_Bare_mark | pg_Seals | hd_Seals | po_Seals | sa_Seals | na_Seals_sealed | pg_Row | hd_Row | po_Row | sa_Row | na_Row_stamper | na_Row_entries | na_Row_tops | pg_Table | hd_Table | po_Table | sa_Table | na_Table_stamper | na_Table_bits | na_Table_top | pg_House | hd_House | po_House | sa_House | na_House_table | na_House_row | na_House_makes | na_House_seals | pg_Fork | hd_Fork | po_Fork | sa_Fork | na_Fork_depth | na_Fork_begin | na_Fork_left | na_Fork_right | na_Fork_term | na_Fork_mark | pg_Leaf | hd_Leaf | po_Leaf | sa_Leaf | na_Leaf_key | na_Leaf_text | na_Leaf_term | na_Leaf_mark => k_is
  case cg_Knot | cr_Knot | cv_Knot | cw_Knot | oig | oit | oic_Bare | oim_Bare | oic_Fork | oim_Fork | oic_Leaf | oim_Leaf => first | k_is | kernel_rfl
  case ko_Bare_Bare | ko_Fork_Bare | ko_Leaf_Bare => kit_is
  case mk_Numbers | kc_Numbers | mk_Bare | kc_Bare | mk_Row | kc_Row | mk_Table | kc_Table | mk_House | kc_House | mk_Leaf | kc_Leaf | mk_Fork | kc_Fork | mk_Seals | kc_Seals => k_is
  case eo_NoBits | eo_NoKey | eo_NoValue | eo_Missing | eo_NoPlace => k_exc
  case e0_NoBits | e1_NoBits | e2_NoBits | em0_NoBits | em1_NoBits | e0_NoKey | e1_NoKey | e2_NoKey | em0_NoKey | em1_NoKey | e0_NoValue | e1_NoValue | e2_NoValue | em0_NoValue | em1_NoValue | e0_Missing | e1_Missing | e2_Missing | em0_Missing | em1_Missing | e0_NoPlace | e1_NoPlace | e2_NoPlace | em0_NoPlace | em1_NoPlace | sb_NoBits_Missing | sb_NoBits_NoPlace | sb_NoBits_NoKey | sb_NoBits_NoValue | sb_NoBits_NoBits | sb_NoKey_Missing | sb_NoKey_NoPlace | sb_NoKey_NoKey | sb_NoKey_NoValue | sb_NoKey_NoBits | sb_NoValue_Missing | sb_NoValue_NoPlace | sb_NoValue_NoKey | sb_NoValue_NoValue | sb_NoValue_NoBits | sb_Missing_Missing | sb_Missing_NoPlace | sb_Missing_NoKey | sb_Missing_NoValue | sb_Missing_NoBits | sb_NoPlace_Missing | sb_NoPlace_NoPlace | sb_NoPlace_NoKey | sb_NoPlace_NoValue | sb_NoPlace_NoBits | z_all | z_bool | z_dict | z_int | z_isinstance | z_len | z_list | z_min | z_ord | z_range | z_sorted | z_str | z_tuple | c_MOST_BITS | c_MOST_PARTS | c_MOST_SIGNS => k_is
  case nt | td => kernel_rfl
