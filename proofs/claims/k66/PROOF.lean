import PyProof.Rows.All
import Wide.All
import OpenK.AllK
import Wide.FinOn
import Lean
import PyProof.EqAt
import PyProof.EqKinds
import PyProof.TupleCall
import PyProof.P3In
import KE.KDictLaws
import KE.KTabLook
import KE.KRevIter
import KE.KItemsList
import PyProof.TupleOfGen
import KE.KSortTup
import KE.KDictSum
import KE.KEqDict
import PyProof.EnumMake
import PyProof.EnumFor
import PyProof.EnumStmt
import PyProof.AttrMissHeap
import KE.KDictOf
import PyProof.Rows.SortShell
import KE.KDictList
import PyProof.Rows.StrJoinRep
import PySem.Challenge.RW_rootstamp_k66_whole_no_lie_of_one_row
set_option Elab.async false
set_option linter.all false
set_option maxRecDepth 100000
set_option maxHeartbeats 4000000
open Array renaming getElem?_eq_getElem→Lz,length_toList→Mx,getElem?_eq_some_iff→MQ,getElem?_eq_none→NU,getElem?_toList→Pl,append_assoc→Qe,getElem?_setIfInBounds_ne→Qm,forIn_toList→SH,all_eq_true→Tc,toList→UB
open Bool renaming and_eq_true_iff→KD,false_ne_true→KN,and_eq_true→Lq,false_eq_true→Mo,true_and→NG,eq_iff_iff→Oy,false_and→PN,or_true→Qx,and_false→Up,or_false→Uz,and_true→UA
open Classical renaming byContradiction→Ov
open False renaming elim→Ll
open ForInStep renaming yield→Sz
open Int renaming eq_ofNat_of_zero_le→Mp,toNat_natCast→MB,emod_lt_of_pos→MX,emod_nonneg→NE,toNat_of_nonneg→Qd,natCast_add→Rh,ofNat_sub→RW,le_ediv_of_mul_le→Sy
open LawfulBEq renaming eq_of_beq→TD
open LawfulMonad renaming pure_bind→RV
open List renaming length_map→Kz,getElem?_eq_getElem→KB,getElem?_eq_some_iff→KC,size_toArray→KH,length_append→KI,mem_of_getElem?→KM,mem_cons_of_mem→KQ,mem_singleton→KW,mem_cons→KY,getElem?_map→La,getD_eq_getElem?_getD→Lb,map_append→Lc,length_take→Lf,getElem?_eq_none→Lh,map_cons→Lm,mem_cons_self→Lv,getElem?_append_left→LN,length_cons→LO,mem_append_right→LR,getElem?_append_right→LU,length_drop→LV,append_nil→LW,mem_append→LY,filterMap_cons→Ma,not_mem_nil→Mb,all_eq_true→Mc,lookup→My,append_assoc→Mz,of_mem_zip→MC,nodup_cons→MD,mem_iff_getElem?→ME,mem_map→MM,lookup_cons→MT,drop_eq_getElem_cons→Nb,all_cons→Nk,take_length→Nq,getElem?_reverse→Nz,zip→NK,sum_cons→NO,forIn_cons→NP,find?_cons→NQ,reverse_cons→NZ,drop_zero→Oe,mem_append_left→On,length_reverse→Ox,take_take→OH,forIn_nil→OI,take_add_one→OP,ext_getElem?→OQ,getElem_mem→OY,map_map→Pr,length_zip→Ps,length_replicate→Pt,range→PC,mem_range→PM,length→PX,contains_cons→Qi,map_nil→Qw,mem_reverse→QB,map_reverse→QC,replicate→Rq,mem_of_find?_eq_some→Rr,getElem?_take_of_lt→RC,getElem?_replicate→RI,getElem?_cons_zero→RJ,getElem?_cons_succ→RK,any_cons→RL,getElem?_set_self→RT,append_eq_nil_iff→RU,lookup_cons_self→RZ,length_singleton→Se,all_map→Sf,reverse_reverse→Sr,mem_of_mem_take→Ss,mem_iff_getElem→Sv,getElem?_set_ne→Sw,mem_filterMap→Ta,getElem?_take→Tb,take_sublist→Th,find?_append→Tj,zipIdx_cons→Tz,getElem_inj→TB,drop_length→TC,zipIdx_nil→TV,nil_append→TX,mem_filter→TY,length_nil→TZ,take_succ→Ul,drop_take→Um,drop_drop→Uo,map_take→Ux,map_drop→Uy
open List.Pairwise renaming nil→Rg,of_map→Va
open List.cons renaming inj→Mu
open Nat renaming le_refl→KA,le_trans→KR,lt_of_lt_of_le→KU,ne_of_lt→KZ,zero_le→Ly,lt_of_le_of_lt→Mh,le_of_lt→Mq,lt_irrefl→ML,ne_of_gt→MN,lt_or_ge→MV,le_succ→Np,sub_zero→NC,min_eq_left→ND,lt_succ_self→Ol,le_add_right→Om,log2_self_le→Pa,sub_self→Pz,le_of_eq→PB,pow_le_pow_right→PJ,min_le_right→QL,log2→QU,isDigit_of_mem_toDigits→Rf,pow_lt_pow_iff_right→RH,pow_succ→Sq,add_le_add_right→SG,log2_lt→SZ,lt_trichotomy→Tx,succ_le_succ→TU,min_le_left→Uk,mul_le_mul→Uw
open Ne renaming symm→Lg
open Option renaming isSome_iff_exists→Lu,map_some→NM,isSome_map→Qh,map_eq_some_iff→RB,getD_some→SX,getD_none→SY
open Option.some renaming inj→KL
open Or renaming inr→Tw
open Prod renaming ext→Uv
open PyProof.Rows renaming callWith_type1→LK,slot_tuple_getitem→LX,boot_isinstance→Me,boot_tuple→Pj,AllBare→Py,IsTup→QK,recsOf→QR,boot_str→SW,subscriptTail_builtinR→Tg,entry_tuple_getitem→Ui,IntsAre→Uj,args_tuple_getitem→Uu
open PyProof.Rows.IsTup renaming new→RS
open PySem renaming wpAny_bind→cW,Value→Gt,wpAny_pure→If,Shared→Ky,FuncData→KP,Program→KS,wpAny_mono→Le,Around→Lj,boot_len→Lk,wpAny_field→Lp,wpAny_callSpecial?_slot→LA,wpAny_call_entry→LB,wpAny_Call_Name_kw→LF,World→LI,wpAny_newObj_type→LJ,builtinLookup_eq_fast→Md,wpAny_setField_rec→Mr,wpAny_holding→Ms,sizeLine_eq→Mt,mem_of_lookup→Mw,codeAny_mono→MG,wpAny_of_eq→MR,typeLookup_type→MS,tupleKind_room_in1→Nd,wpAny_seqItems→Nh,NameKind→Nj,wpAny_truthy_bool→Nl,wpAny_specialOf→Nm,wpAny_loadPart_at→Nn,wpAny_isSubtype_exc→Nr,wpAny_attempt→Nt,strLen_append→Nu,wpAny_typeNameOfWhole_keyiter→Nw,isSubtype_type→Nx,wpAny_passesOwn→NI,Builtin→NS,wpAny_typeNameOf_keyiter→NT,wpAny_updateSeq→Oa,plainId_quiet→Ob,wpAny_dictEntries→Oj,codeAny_call_function→Oo,IsPair→Ou,wpAny_isInstance→Oz,wpAny_execs_cons→OA,wpAny_standAt→OD,wpAny_rule→OF,wpAny_execs_nil→OJ,codeAny_builtin→OK,wpAny_newFunctionEnv_cells→OR,wpAny_typeOf→OT,wpAny_setField→OU,wpAny_call→Pc,atKey_none_of_get→Pd,DictEntry→Ph,ExceptHandler→Px,wpAny_notOrdered_dict→PY,wpAny_loadPart'→PZ,call_meetsIn→Qa,ZipApart→Qf,wpAny_newFunctionEnv→Qj,Within→Qn,wpAny_pyIter_slot→QV,wpAny_pyIter_list→QX,wpAny_assign_Name→QY,wpAny_Return_some→QZ,plainObj_wpAny_Assign_Attribute→Ra,PlainAttrs→Rb,codeAny_func→Ri,Result→Rj,IsPart→Rl,wpAny_lookBehind→Rt,pastItsLine_dict→Ru,noFill_tuple_add→Rv,wpAny_letGo→RM,wpAny_dictEpoch→RN,ofString_length→RO,wpAny_loadPart→Sg,isSubtype_stop→Sh,wpAny_comprehension_free→SA,wpAny_onRaise→SI,signature?_of→SJ,seq_tuple_add→SK,call→SL,GenState→SQ,BindsTo→SV,wpAny_nextOf_list_item→Td,wpAny_nsSet1→Tl,wpAny_nextOf_list_end→Tn,wpAny_isOneOf_keyiter→To,seqIndex_neg→Tp,concat_meets→Tq,PyData→Tt,PassesOwn→Tu,CmpOp→Tv,wpAny_updateSeq_pair→TF,wpAny_pyIter_revIter→TJ,wpAny_mkInt→Ua,storedH_new→Ub,seqIndex_of→Uc,kt_meets_setdefault→Ud,wpAny_pyIter_tuple→Uq,IntMulOk→Us,wpAny_sequenceKey→UC,wpAny_load→UD,wpAny_Name→UE,typeIs_str→UF,call_meets→UG,Model→UL,IsZip→UM
open PySem.Around renaming under_plainId→NF,under→RG,frames_deeper→RQ
open PySem.Builtin.Dict renaming keyAndDefault→Qc,showsAll→Qz
open PySem.Builtin.Dict_items renaming ownsTuple→OX
open PySem.Builtin.Int renaming intBits→MH
open PySem.Builtin.List renaming listExtendWith→Mj,listSameRef→NB,listLengthHint→PV,listItems→Qv
open PySem.Builtin.Range renaming rangeSize→UZ
open PySem.Builtin.Slice renaming slicePlaces→Nv,sliceAdjust→Og,sliceApplied→PU,slicePartIndex→UX,sliceFields→UY
open PySem.Builtin.SmallTypes renaming ownedTupleIsFree→Li,nextOf→LQ,ownedTupleHandOut→OC
open PySem.Builtin.Str renaming occurrences→Qu
open PySem.Builtin.Tuple renaming tupleExact→Mv,tupleItemsOf→PR,tupleIsExact→UW
open PySem.Calls renaming Name_function_global→OB,spliced_cons→Qb,spliced_nil→Ql,loadGlobal_global→RA,callWith_builtin→RF
open PySem.Code renaming isFrame→RY,quiet_builtin→SU
open PySem.EntryCells renaming newEntry→Rp
open PySem.EqMixed renaming ne_str_int→UO,ne_str_bool→UP,ne_int_str→UQ,ne_bool_str→UR,eq_str_int→US,eq_str_bool→UT,eq_int_str→UU,eq_bool_str→UV
open PySem.F renaming slot_list_append→Lo,type_list_append→Lt,plainAttrs_list→Lw,slot_dict_setdefault→Mi,slot_dict_keyiterator_next→Mm,plain_extend_loop→Mn,args_dict_setdefault_3→Ng,entry_dict_setdefault→Ni,slot_zip_next→NY,excBase_ValueError→Ow,args_tuple_add_2→OE,plainAttrs_dict→OM,entry_tuple_add→ON,slot_tuple_add→OS,slot_dict_get→OW,args_dict_keyiterator_next_1→Pq,entry_dict_keyiterator_next→Pw,type_dict_setdefault→Qo,entry_extend_loop→QF,args_zip_next_1→QG,slot_str_ascii_iterator_iter→QQ,entry_zip_next→Rc,args_dict_get_3→Re,slot_dict_iter→Rm,plainAttrs_str→Rn,entry_dict_get→Ro,type_str_join→Ry,slot_str_join→Rz,slot_tuple_iterator_next→RD,args_object_init_2→RE,called_tuple→RP,slot_tuple_eq_refl→Tf,plain_tuple_new→Ug,plain_list_iadd→Uh,slot_dict_len→UN
open PySem.Heap renaming get?_push_of_some→gV,lt_size→KF,get?_push_size→KG,get?_update_self→Ls,get?_update_other→LG,SameBut→MK,size_push→MY,size_update→Qy,ExtBut→QP,get?_none_of_le→So,get?_update_ne→SE
open PySem.Heap.IsSliceOf renaming new→Ut
open PySem.Heap.Ns1 renaming of_empty→RX
open PySem.Heap.SameBut renaming update→MZ
open PySem.IntMulOk renaming of_left→Qg
open PySem.NameKind renaming free→Nf,cell→OG
open PySem.NumText renaming digitsVal→UK
open PySem.Obj renaming mapSeq→MA,data_mapFields→MU,mapFields→NR,isFreed_of_fields→Of,cls_mapFields→Qt,data_mapDictKeys→SC
open PySem.PassesOwn renaming never→MI
open PySem.PyData renaming depthAll→Mg,canLayAll0→Nc,tuple→NJ,strOk→OZ,eqvAll→Rk
open PySem.SeqAt.EqAt renaming int_int→PF,str_int→Qr,int_str→Qs,str_str→TR
open PySem.Shared renaming heap→Ur
open PySem.Str renaming ofString→Mf,empty→MP,length→QD,empty_append→TN,append_empty→TQ
open PySem.Txt renaming mul→Pu,slice→Qk
open PySem.Value renaming ref→KJ,none→Ml,bool→MJ,str→Oc,int→OL,type→Po,float→Sn,isStrOf→Ue,isInt→UI,bytes→UJ
open PySem.Value.type renaming inj→Sm
open PySem.W renaming Frag→tx,findIn→Lr,mg_none_of→MO,CodeHd→Ny,fnOf→NL,emptyDict→NN,nsIn→NV,mg_of→NW,kia_one→NX,keepIn→Oh,hideAll_none→Oi,tabIn→Oq,mroIn→Ot,isFn→OO,instObj→OV,plainGet_of→Pe,hideAll_get→Pf,hasDictIn→Pg,envX→Pm,cellsFrom_some→Pn,callWith_K→PD,plainGet→PQ,plainOver→Rw,methodCall_KW→Rx,tabObj→Si,noTabs→Sj,excIn→Sk,callWith_K0→Sl,of_hideAll→SM,makesIn→SN,codeRec_of→SO,methodObj→Tr,lookIn→TK,codeIn→TL,takerIn→UH
open PySem.W.KIN renaming signs_num→Ts
open PySem.Within renaming cons→QN
open Sum renaming inr→NA,inl→NH
open Sum.inl renaming inj→Qq
open Sum.inr renaming inj→Qp
open True renaming intro→MF
namespace L2
open PySem PySem.Spec PyProof.Rows
abbrev Key:=Sum Int Str
def kZ:Key→Gt→Bool
 |.inl k,v=>UI k v
 |.inr x,v=>Ue x v
def Jz (w:LI):Key→Int
 |.inl k=>hashInt k
 |.inr x=>hashStr w x
theorem cH:∀{k:Key}{v:Gt},kZ k v=true→(∃i t,k=NH i∧v=OL i t)∨(∃x t,k=NA x∧v=Oc x t)
 |.inl i,v,h=>by
  obtain⟨t,e⟩:=Value.isInt_shape (k:=i) (v:=v) h
  exact .inl ⟨i,t,rfl,e⟩
 |.inr x,v,h=>by
  obtain⟨t,e⟩:=Value.isStrOf_shape (x:=x) (v:=v) h
  exact .inr ⟨x,t,rfl,e⟩
theorem vZ (i:Int)(t:Tok):kZ (.inl i) (.int i t)=true:=by simp[kZ,UI]
theorem vS (x:Str)(t:Tok):kZ (.inr x) (.str x t)=true:=by simp[kZ,Ue]
theorem BF (a b:Int):decide ((NH a:Key)=NH b)=(a==b):=by
 by_cases e:a=b
 ·subst e;simp
 ·have h:¬(NH a:Key)=NH b:=fun q=>e (Qq q)
  rw[decide_eq_false h]
  exact(beq_eq_false_iff_ne.mpr e).symm
theorem CG (a b:Str):decide ((NA a:Key)=NA b)=decide (a=b):=by
 by_cases e:a=b
 ·subst e;simp
 ·have h:¬(NA a:Key)=NA b:=fun q=>e (Qp q)
  rw[decide_eq_false h,decide_eq_false e]
theorem BO (a:Int)(b:Str):decide ((NH a:Key)=NA b)=false:=decide_eq_false (fun q=>nomatch q)
theorem BK (a:Str)(b:Int):decide ((NA a:Key)=NH b)=false:=decide_eq_false (fun q=>nomatch q)
def bP (prog:KS)(w:LI):PySem.KeyKind prog w Key where
 is:=kZ
 hash:=Jz w
 inj:=fun v a b ha hb=>by
  rcases cH ha with⟨i,t,rfl,rfl⟩|⟨x,t,rfl,rfl⟩
  ·rcases cH hb with⟨j,u,rfl,e⟩|⟨y,u,rfl,e⟩
   ·injection e with e1 _;rw[e1]
   ·exact nomatch e
  ·rcases cH hb with⟨j,u,rfl,e⟩|⟨y,u,rfl,e⟩
   ·exact nomatch e
   ·injection e with e1 _;rw[e1]
 byValue:=fun k v h=>by
  rcases cH h with⟨i,t,rfl,rfl⟩|⟨x,t,rfl,rfl⟩<;>rfl
 pyHash:=fun hv h=>by
  rcases cH hv with⟨i,t,rfl,rfl⟩|⟨x,t,rfl,rfl⟩
  ·exact wpAny_pyHash_int h
  ·exact wpAny_pyHash_str h
 eqBool:=fun hu hv h=>by
  rcases cH hu with⟨i,t,rfl,rfl⟩|⟨x,t,rfl,rfl⟩
  ·rcases cH hv with⟨j,u,rfl,rfl⟩|⟨y,u,rfl,rfl⟩
   ·rw[BF]at h;exact wpAny_eqBool_int h
   ·rw[BO]at h;exact Qs i t y u _ _ _ _ h
  ·rcases cH hv with⟨j,u,rfl,rfl⟩|⟨y,u,rfl,rfl⟩
   ·rw[BK]at h;exact Qr x t j u _ _ _ _ h
   ·rw[CG]at h;exact wpAny_eqBool_str h
 «strs»:=fun k x t v h=>by
  rcases cH h with⟨i,u,rfl,e⟩|⟨y,u,rfl,e⟩
  ·exact nomatch e
  ·injection e with e1 _
   subst e1
   cases v<;>rfl
theorem rO (prog:KS)(w:LI)(i:Int)(t:Tok):(bP prog w).is (.inl i) (.int i t)=true:=vZ i t
theorem rB (prog:KS)(w:LI)(x:Str)(t:Tok):(bP prog w).is (.inr x) (.str x t)=true:=vS x t
inductive V where
 |non|bl (b:Bool)|int (i:Int)|str (x:Str)|byt (b:Array UInt8)|flt (b:UInt64)|ref (a:Addr)|ty (n:String)
 deriving DecidableEq
def aK:V→Gt→Prop
 |.non,u=>u=Ml
 |.bl b,u=>u=MJ b
 |.int i,u=>∃t,u=OL i t
 |.str x,u=>∃t,u=Oc x t
 |.byt b,u=>∃t,u=UJ b t
 |.flt b,u=>∃t,u=Sn b t
 |.ref a,u=>u=KJ a
 |.ty n,u=>u=Po n
abbrev aO:List V→List Gt→Prop:=Paired aK
theorem aO.length {xs:List V}{us:List Gt}(r:aO xs us):xs.length=us.length:=Paired.length r
theorem aO.get:∀{xs:List V}{us:List Gt}{i:Nat}{x:V},aO xs us→xs[i]? =some x→∃u,us[i]? =some u∧aK x u
 |_,_,_,_,.nil,e=>by simp at e
 |_,_,0,_,.cons r _,e=>by simp at e;subst e;exact⟨_,rfl,r⟩
 |_,_,i+1,x,.cons _ t,e=>by
  obtain⟨u,h1,h2⟩:=aO.get (i:=i) (x:=x) t (by simpa using e)
  exact⟨u,by simpa using h1,h2⟩
theorem aO.set {x:V}{u:Gt}(r:aK x u):∀{xs:List V}{us:List Gt}(i:Nat),aO xs us→aO (xs.set i x) (us.set i u)
 |_,_,_,.nil=>.nil
 |_,_,0,.cons _ t=>.cons r t
 |_,_,i+1,.cons q t=>.cons q (aO.set r i t)
theorem aO.append:∀{xs ys:List V}{us ws:List Gt},aO xs us→aO ys ws→aO (xs++ys) (us++ws)
 |_,_,_,_,.nil,s=>s
 |_,_,_,_,.cons r t,s=>.cons r (aO.append t s)
theorem aO.take:∀{xs:List V}{us:List Gt}(n:Nat),aO xs us→aO (xs.take n) (us.take n)
 |_,_,0,_=>.nil
 |_,_,_+1,.nil=>.nil
 |_,_,n+1,.cons r t=>.cons r (aO.take n t)
theorem aO.drop:∀{xs:List V}{us:List Gt}(n:Nat),aO xs us→aO (xs.drop n) (us.drop n)
 |_,_,0,r=>r
 |_,_,_+1,.nil=>.nil
 |_,_,n+1,.cons _ t=>aO.drop n t
def cF:Option V→Option Gt→Prop
 |some v,some u=>aK v u
 |none,none=>True
 |_,_=>False
def KV {κ:Type}:List (κ×V)→List (κ×Gt)→Prop:=Paired fun(p:κ×V)(q:κ×Gt)=>p.1=q.1∧aK p.2 q.2
def kV:Key→V
 |.inl i=>.int i
 |.inr x=>.str x
inductive HO where
 |lst (xs:List V)
 |tup (xs:List V)
 |dK (kvs:List (Key×V))|dT (kvs:List (List Key×V))
 |set (S:Int→Bool) (n:Nat)
 |ins (C dx:Addr) (fs:List (Str×V))
 |own (x:Addr)
 |xd (fs:List (Str×V))
 |met (f x:Addr)
 |rng (lo hi:Int)
 |frz (o:Obj) (u:HO)
 |tbl (ps:Array Gt)
 |ext (φ:Heap→Prop)
abbrev Hp:=Addr→Option HO
def upd (H:Hp)(a:Addr)(o:HO):Hp:=fun b=>if b=a then some o else H b
theorem ai {H:Hp}{a:Addr}{o:HO}:upd H a o a=some o:=by unfold upd;rw[if_pos rfl]
theorem ao {H:Hp}{a b:Addr}{o:HO}(h:b≠a):upd H a o b=H b:=by unfold upd;rw[if_neg h]
theorem eW {H:Hp}{a:Addr}{o u:HO}:upd (upd H a o) a u=upd H a u:=by
 funext b;unfold upd;split<;>rfl
theorem aW {H:Hp}{a b:Addr}{o u:HO}(h:H a=some o)(h':H b=some u)(d:o≠u):a≠b:=by
 intro e;subst e;rw[h]at h';exact d (KL h')
theorem av {H:Hp}{a b:Addr}{o:HO}(h:H a=some o)(h':H b=none):a≠b:=by
 intro e;subst e;rw[h]at h';cases h'
section
variable (P:KS)(w:LI)
def aT (H:Hp)(h:Heap)(a:Addr):HO→Prop
 |.lst xs=>xs.length≤sizeLine∧∃(its:List Gt)(n:Nat),aO xs its∧h.get? a=some {cls:=.type "list",data:=.seq its.toArray n}
 |.tup xs=>xs.length≤sizeLine∧∃its:List Gt,aO xs its∧QK h a its.toArray
 |.dK kvs=>kvs.length≤sizeLine∧(a==sysModules)=false∧∃vs,KV kvs vs∧h.DictOf (bP P w) a vs
 |.dT kvs=>kvs.length≤sizeLine∧(a==sysModules)=false∧∃xs:List (List Key×Addr×Gt),
  Paired (fun(p:List Key×V)(q:List Key×Addr×Gt)=>p.1=q.1∧H q.2.1=some (.tup (p.1.map kV))∧aK p.2 q.2.2) kvs xs∧
  ∃o es ep,h.get? a=some o∧o.ExactDict∧o.data=.dict es ep∧es.toList=xs.map (entryOfKey (tupleKind (bP P w)))∧(xs.map (·.1)).Nodup
 |.set S n=>h.SetOf (intKind P w) a S n
 |.ins C dx fs=>H dx=some (.own a)∧fs.length≤1000∧dx≠a∧h.get? a=some (OV C dx)∧
  ∃mA,h.Ns1 dx mA∧(∀f,cF (fs.lookup f) (mA f))∧Qn mA (fs.map (·.1))
 |.own _=>∃o,h.get? a=some o
 |.xd fs=>∃mA,h.Ns1 a mA∧∀f,cF (fs.lookup f) (mA f)
 |.rng lo hi=>∃t u v,h.get? a=some {cls:=.type "range",data:=.fields #[.int lo t,.int hi u,.int 1 v]}
 |.frz o u=>h.get? a=some o∧aT H h a u
 |.tbl ps=>h.get? a=some {cls:=.none,data:=.fields ps}
 |.met f x=>h.get? a=some (Tr (.ref f) (.ref x))
 |.ext φ=>φ h∧(∃o,h.get? a=some o)∧∀h1 h2:Heap,φ h1→(∀o,h1.get? a=some o→h2.get? a=some o)→φ h2
def HOk (H:Hp)(h:Heap):Prop:=∀a o,H a=some o→aT P w H h a o
end
section
variable {P:KS}{w:LI}{H H':Hp}{h h':Heap}{a:Addr}{o:HO}
theorem aT.lt (x:aT P w H h a o):a<h.objs.size:=by
 cases o with
 |lst xs=>obtain⟨_,_,_,_,e⟩:=x;exact KF e
 |tup xs=>obtain⟨_,_,_,p⟩:=x;exact p.lt
 |dK kvs=>obtain⟨_,_,_,_,o,_,_,e,_⟩:=x;exact KF e
 |dT kvs=>obtain⟨_,_,_,_,o,_,_,e,_⟩:=x;exact KF e
 |set S n=>obtain⟨o,_,_,_,e,_⟩:=x;exact KF e
 |ins C dx fs=>obtain⟨_,_,_,e,_⟩:=x;exact KF e
 |own y=>obtain⟨_,e⟩:=x;exact KF e
 |xd fs=>obtain⟨_,⟨_,_,_,e,_⟩,_⟩:=x;exact KF e
 |rng lo hi=>obtain⟨_,_,_,e⟩:=x;exact KF e
 |frz ob u=>obtain⟨e,_⟩:=x;exact KF e
 |tbl ps=>exact KF (show h.get? a=some _ from x)
 |met f y=>exact KF (show h.get? a=some _ from x)
 |ext φ=>obtain⟨_,⟨_,e⟩,_⟩:=x;exact KF e
theorem Paired.mapP {α β:Type}{F G:α→β→Prop}:∀{l₁:List α}{l₂:List β},Paired F l₁ l₂→(∀a b,F a b→G a b)→Paired G l₁ l₂
 |_,_,.nil,_=>.nil
 |_,_,.cons r t,f=>.cons (f _ _ r) (Paired.mapP t f)
theorem aT.stay (x:aT P w H h a o)(k:∀b u,(b=a∨H b=some (.own a))→h.get? b=some u→h'.get? b=some u)
  (ho:∀b,H b=some (.own a)→H' b=some (.own a))(ht:∀b xs,H b=some (.tup xs)→H' b=some (.tup xs)):aT P w H' h' a o:=by
 induction o with
 |lst xs=>obtain⟨z,its,n,r,e⟩:=x;exact⟨z,its,n,r,k _ _ (.inl rfl) e⟩
 |tup xs=>obtain⟨z,its,r,ob,e,c⟩:=x;exact⟨z,its,r,ob,k _ _ (.inl rfl) e,c⟩
 |dK kvs=>obtain⟨z,y,vs,r,ob,es,ep,e,c⟩:=x;exact⟨z,y,vs,r,ob,es,ep,k _ _ (.inl rfl) e,c⟩
 |dT kvs=>
  obtain⟨z,y,xs,r,ob,es,ep,e,c⟩:=x
  exact⟨z,y,xs,Paired.mapP r fun p q z=>⟨z.1,ht _ _ z.2.1,z.2.2⟩,ob,es,ep,k _ _ (.inl rfl) e,c⟩
 |set S n=>obtain⟨ob,es,ep,t,e,c⟩:=x;exact⟨ob,es,ep,t,k _ _ (.inl rfl) e,c⟩
 |ins C dx fs=>
  obtain⟨d,z,ne,e,mA,⟨od,es,ep,e2,c⟩,r⟩:=x
  exact⟨ho _ d,z,ne,k _ _ (.inl rfl) e,mA,⟨od,es,ep,k _ _ (.inr d) e2,c⟩,r⟩
 |own y=>obtain⟨ob,e⟩:=x;exact⟨ob,k _ _ (.inl rfl) e⟩
 |xd fs=>obtain⟨mA,⟨od,es,ep,e,c⟩,r⟩:=x;exact⟨mA,⟨od,es,ep,k _ _ (.inl rfl) e,c⟩,r⟩
 |rng lo hi=>obtain⟨t,u,v,e⟩:=x;exact⟨t,u,v,k _ _ (.inl rfl) e⟩
 |frz ob u ih=>obtain⟨e,q⟩:=x;exact⟨k _ _ (.inl rfl) e,ih q⟩
 |tbl ps=>
  have e:h.get? a=some {cls:=.none,data:=.fields ps}:=x
  show h'.get? a=some {cls:=.none,data:=.fields ps}
  exact k a _ (.inl rfl) e
 |met f y=>
  have e:h.get? a=some (Tr (.ref f) (.ref y)):=x
  show h'.get? a=some (Tr (.ref f) (.ref y))
  exact k a _ (.inl rfl) e
 |ext φ=>obtain⟨p,⟨o,e⟩,st⟩:=x;exact⟨st _ _ p fun o q=>k _ _ (.inl rfl) q,⟨o,k _ _ (.inl rfl) e⟩,st⟩
theorem HOk.lt (x:HOk P w H h)(e:H a=some o):a<h.objs.size:=(x a o e).lt
theorem HOk.fresh (x:HOk P w H h)(e:h.objs.size≤a):H a=none:=by
 cases q:H a with
 |none=>rfl
 |some u=>exact absurd (KU (x.lt q) e) (ML _)
theorem HOk.kept (x:HOk P w H h)(k:∀b u,h.get? b=some u→h'.get? b=some u):HOk P w H h':=fun a o e=>
 (x a o e).stay (fun b u _ q=>k b u q) (fun _ q=>q) fun _ _ q=>q
theorem HOk.laid (x:HOk P w H h)(k:∀b u,h.get? b=some u→h'.get? b=some u)(hp:h.objs.size≤a)(new:aT P w (upd H a o) h' a o):HOk P w (upd H a o) h':=fun b u e=>by
 have hn:=x.fresh hp
 by_cases hb:b=a
 ·subst hb;rw[ai]at e;cases e;exact new
 ·rw[ao hb]at e
  exact(x b u e).stay (fun c v _ q=>k c v q) (fun c q=>by rw[ao (av q hn)];exact q) fun c xs q=>by rw[ao (av q hn)];exact q
end
def Rd (H:Hp)(a:Addr)(u:HO):Prop:=H a=some u∨∃o,H a=some (.frz o u)
theorem Rd.ok {P:KS}{w:LI}{H:Hp}{h:Heap}{a:Addr}{u:HO}(r:Rd H a u)(x:HOk P w H h):aT P w H h a u:=by
 rcases r with r|⟨o,r⟩
 ·exact x a u r
 ·obtain⟨_,q⟩:=x a _ r
  exact q
def Mut:Option HO→Prop
 |some (.lst _)=>True
 |some (.dK _)=>True
 |some (.dT _)=>True
 |some (.set _ _)=>True
 |some (.ins _ _ _)=>True
 |some (.ext _)=>True
 |_=>False
section
variable {P:KS}{w:LI}{H:Hp}{h h':Heap}{x e:Addr}{o':HO}
theorem HOk.write (ok:HOk P w H h)(mu:Mut (H x))(he:e=x∨H e=some (.own x))(k:∀b u,b≠e→h.get? b=some u→h'.get? b=some u)(heo:∃u,h'.get? e=some u)
  (new:aT P w (upd H x o') h' x o'):HOk P w (upd H x o') h':=fun b u q=>by
 have nown:∀c y,H c=some (.own y)→c≠x:=fun c y r z=>by subst z;rw[r]at mu;exact mu
 have ntup:∀c xs,H c=some (.tup xs)→c≠x:=fun c xs r z=>by subst z;rw[r]at mu;exact mu
 by_cases hb:b=x
 ·subst hb;rw[ai]at q;cases q;exact new
 ·rw[ao hb]at q
  by_cases hbe:b=e
  ·have q':H b=some (.own x):=by
    rcases he with z|z
    ·exact absurd (hbe.trans z) hb
    ·rw[hbe];exact z
   rw[q]at q';cases q'
   obtain⟨v,hv⟩:=heo
   exact⟨v,by rw[hbe];exact hv⟩
  ·refine(ok b u q).stay (fun c v hc r=>k c v ?_ r) (fun c r=>by rw[ao (nown c b r)];exact r) fun c xs r=>by rw[ao (ntup c xs r)];exact r
   rcases hc with rfl|hc
   ·exact hbe
   ·rintro rfl
    rcases he with z|z
    ·exact nown c b hc z
    ·rw[hc]at z;cases z;exact hb rfl
end
structure Un (fs ex:List Addr)(H H':Hp)(h h':Heap):Prop where
 keep:∀b o,h.get? b=some o→H b=none→b∉fs→b∉ex→h'.get? b=some o
 slot:∀b o,h.get? b=some o→H b=none→b∈fs→b∉ex→∃sl,h'.get? b=some {o with slots:=sl}
 free:∀b o,h.get? b=some o→H b=none→b∉ex→H' b=none
 there:∀b o,h.get? b=some o→b∉ex→∃o',h'.get? b=some o'
 tups:∀b xs,H b=some (.tup xs)→H' b=some (.tup xs)
 frzs:∀b o u,H b=some (.frz o u)→H' b=some (.frz o u)
 tbls:∀b ps,H b=some (.tbl ps)→∃more,H' b=some (.tbl (ps++more))
section
variable {fs fs' ex ex':List Addr}{H H1 H2:Hp}{h h1 h2 h':Heap}{a x e:Addr}{o:HO}
theorem Un.any (u:Un fs ex H H1 h h1){b:Addr}{ob:Obj}(q:h.get? b=some ob)(n:H b=none)(hx:b∉ex):∃sl,h1.get? b=some {ob with slots:=sl}:=by
 by_cases hb:b∈fs
 ·exact u.slot b ob q n hb hx
 ·exact⟨ob.slots,u.keep b ob q n hb hx⟩
theorem Un.trans (a:Un fs ex H H1 h h1)(b:Un fs ex H1 H2 h1 h2):Un fs ex H H2 h h2 where
 keep:=fun c ob q n hc hx=>b.keep c ob (a.keep c ob q n hc hx) (a.free c ob q n hx) hc hx
 slot:=fun c ob q n hc hx=>by
  obtain⟨sl,e1⟩:=a.slot c ob q n hc hx
  obtain⟨sl',e2⟩:=b.slot c _ e1 (a.free c ob q n hx) hc hx
  exact⟨sl',e2⟩
 free:=fun c ob q n hx=>by
  obtain⟨o',e1⟩:=a.there c ob q hx
  exact b.free c o' e1 (a.free c ob q n hx) hx
 there:=fun c ob q hx=>by
  obtain⟨o',e1⟩:=a.there c ob q hx
  exact b.there c o' e1 hx
 tups:=fun c xs q=>b.tups c xs (a.tups c xs q)
 frzs:=fun c ob xs q=>b.frzs c ob xs (a.frzs c ob xs q)
 tbls:=fun c ps q=>by
  obtain⟨m1,e1⟩:=a.tbls c ps q
  obtain⟨m2,e2⟩:=b.tbls c _ e1
  exact⟨m1++m2,by rw[e2,Qe]⟩
theorem Un.kept (k:∀b u,h.get? b=some u→h'.get? b=some u):Un fs ex H H h h':=
 ⟨fun b ob q _ _ _=>k b ob q,fun b ob q _ _ _=>⟨ob.slots,k b ob q⟩,fun _ _ _ n _=>n,fun b ob q _=>⟨ob,k b ob q⟩,fun _ _ q=>q,fun _ _ _ q=>q,fun _ ps q=>⟨#[],by rw[q];simp⟩⟩
theorem Un.refl:Un fs ex H H h h:=Un.kept fun _ _ q=>q
theorem Un.laid (k:∀b u,h.get? b=some u→h'.get? b=some u)(hp:h.objs.size≤a)(hn:H a=none):Un fs ex H (upd H a o) h h' where
 keep:=fun b u q _ _ _=>k b u q
 slot:=fun b u q _ _ _=>⟨u.slots,k b u q⟩
 free:=fun b u q n _=>by rw[ao (KZ (KU (KF q) hp))];exact n
 there:=fun b u q _=>⟨u,k b u q⟩
 tups:=fun b xs q=>by rw[ao (av q hn)];exact q
 frzs:=fun b u xs q=>by rw[ao (av q hn)];exact q
 tbls:=fun b ps q=>⟨#[],by rw[ao (av q hn),q];simp⟩
theorem Un.write (mu:Mut (H x))(he:e=x∨H e=some (.own x))(k:∀b u,b≠e→h.get? b=some u→h'.get? b=some u)(heo:∃u,h'.get? e=some u):Un fs ex H (upd H x o) h h':=by
 have hx:∀b,H b=none→b≠x:=fun b n z=>by subst z;rw[n]at mu;exact mu
 have hb:∀b,H b=none→b≠e:=fun b n z=>by
  subst z
  rcases he with r|r
  ·exact hx b n r
  ·rw[n]at r;cases r
 have hm:∀b u,H b=some u→¬Mut (some u)→b≠x:=fun b u q nm z=>by subst z;rw[q]at mu;exact nm mu
 refine⟨fun b u q n _ _=>k b u (hb b n) q,fun b u q n _ _=>⟨u.slots,k b u (hb b n) q⟩,fun b u q n _=>by rw[ao (hx b n)];exact n,fun b u q _=>?_,
  fun b xs q=>by rw[ao (hm b _ q fun z=>z)];exact q,fun b u xs q=>by rw[ao (hm b _ q fun z=>z)];exact q,fun b ps q=>⟨#[],by rw[ao (hm b _ q fun z=>z),q];simp⟩⟩
 by_cases hbe:b=e
 ·subst hbe;exact heo
 ·exact⟨u,k b u hbe q⟩
end
def trk (h:Heap)(H:Hp):List Addr:=(PC h.objs.size).filter fun a=>(H a).isSome
def ia (h:Heap)(H:Hp):Heap:=W.hideAll h (trk h H)
theorem vk (h:Heap)(H:Hp):(ia h H).objs.size=h.objs.size:=W.hideAll_size _ _
theorem wU {h:Heap}{H:Hp}{b:Addr}{o:Obj}(e:h.get? b=some o)(n:H b=none):(ia h H).get? b=some o:=
 Pf _ e fun hm=>by
  have q:(H b).isSome=true:=(TY.mp hm).2
  rw[n]at q;simp at q
theorem AI {h:Heap}{H:Hp}{b:Addr}{o:Obj}(e:(ia h H).get? b=some o):h.get? b=some o∧H b=none:=by
 have e':h.get? b=some o:=SM (trk h H) e
 refine⟨e',?_⟩
 cases q:H b with
 |none=>rfl
 |some x=>
  have hm:b∈trk h H:=TY.mpr ⟨PM.mpr (KF e'),by simp[q]⟩
  have z:(ia h H).get? b=none:=Oi (trk h H) hm
  rw[z]at e;cases e
def AT (g h:Heap)(L:Addr):List (Addr×Obj):=(PC h.objs.size).filterMap fun a=>if a=L∨(g.get? a).isSome=true then none else(h.get? a).map fun o=>(a,o)
def ci (g h:Heap)(L d:Addr):List (Addr×Obj):=(AT g h L).filter fun p=>decide (p.1≠d)
structure Mod (K:tx)(mg:Str→Option Gt)(base:Heap):Prop where
 kin:K.In base
 glob:base.Ns mainGlobals mg
 blt:∃mb,base.Ns builtinsNs mb∧∀x:Str,x≠"__name__"→mb x=bootBuiltins x
 nolimit:base.NoLimit
set_option genInjectivity false in
set_option genSizeOf false in
structure Cx where
 prog:KS
 w:LI
 K:tx
 mg:Str→Option Gt
 base:Heap
 A:Lj
 N:List Str
 s₀:Ky
 H₀:Hp
 env:Env
 outer:List Env
 stack:List Env
 ex:List Addr
 fn:Str→Bool
 calm:Bool
 pn:List (Addr×Obj)
 xe:Gt→Ky→Prop
def frs (l:List Env):List Addr:=l.filterMap (·.frame)
abbrev Cx.fs (X:Cx):List Addr:=frs X.outer
def Vis (sc:Scope)(x:Str):Prop:=sc.names.lookup x=some .local∨sc.names.lookup x=some .cell∨sc.names.lookup x=some .free
def Loc (sc:Scope)(x:Str):Prop:=sc.names.lookup x=some .local∨sc.names.lookup x=some .cell
def Cw (env:Env)(h:Heap)(m:Str→Option Gt)(x:Str)(u:Gt):Prop:=
 (env.kindOf x=some .local∧m x=some u)∨((env.kindOf x=some .cell∨env.kindOf x=some .free)∧∃c,env.cells.lookup x=some c∧h.IsCell c (some u))
set_option genInjectivity false in
set_option genSizeOf false in
structure Cx.Ok (X:Cx):Prop where
 mod:Mod X.K X.mg X.base
 kind:X.env.scope.kind=.function
 glob:X.env.globals=mainGlobals
 blt:X.env.builtins=builtinsNs
 above:X.s₀.heap.objs.size≤X.env.locals
 inj:∀x y c,X.env.cells.lookup x=some c→X.env.cells.lookup y=some c→x=y
 has:∀x,(X.env.kindOf x=some .cell∨X.env.kindOf x=some .free)→∃c,X.env.cells.lookup x=some c
 cab:∀x c,X.fn x=true→X.env.cells.lookup x=some c→X.s₀.heap.objs.size≤c
 hd:X.calm=true→X.A.handled=none
 frames:X.A.frames=some X.stack
 stk:X.stack=X.outer∨(X.stack=X.env::X.outer∧X.env.frame=some X.env.locals)
 exf:∀b∈X.ex,b≠X.env.locals∧∀x c,X.env.cells.lookup x=some c→c≠b
 bs:∀b o,X.base.get? b=some o→X.s₀.heap.get? b=some o∧X.H₀ b=none
 bsz:X.base.objs.size≤X.s₀.heap.objs.size
 noex:∀b o,X.base.get? b=some o→b∉X.ex
 exfs:∀b∈X.ex,b∉X.fs
 funs:X.s₀.heap.FunFrames X.base X.outer
 frf:∀b∈X.fs,X.H₀ b=none
structure Inv (X:Cx)(pins:List (Addr×Obj))(σ:List (Option V))(H:Hp)(s:Ky):Prop where
 ok:X.Ok
 os:s.os=X.s₀.os
 bare:Py s.gens
 base:Un X.fs X.ex X.H₀ H X.s₀.heap s.heap
 loc:∃m,s.heap.Ns X.env.locals m∧∀(i:Nat)(x:Str)(v:V),X.N[i]?=some x→σ[i]?=some (some v)→Vis X.env.scope x→∃u,aK v u∧Cw X.env s.heap m x u
 cell:∀x c,X.env.cells.lookup x=some c→∃v,s.heap.IsCell c v
 free:H X.env.locals=none
 freeC:∀x c,X.env.cells.lookup x=some c→H c=none
 pin:∀p∈X.pn++pins,s.heap.get? p.1=some p.2∧H p.1=none∧p.1≠X.env.locals∧p.1∉X.fs∧∀v,p.2.data≠.cell v
 hok:HOk X.prog X.w H s.heap
 len:σ.length=X.N.length
section
variable {X:Cx}{pins:List (Addr×Obj)}{σ:List (Option V)}{H H':Hp}{s:Ky}{h':Heap}
theorem Cx.Ok.nofr (ok:X.Ok){b:Addr}{o:Obj}(e:X.base.get? b=some o):b∉X.fs:=fun hb=>by
 have:=(ok.funs.mem hb).1
 rw[e]at this;cases this
theorem Inv.bs (I:Inv X pins σ H s):∀b o,X.base.get? b=some o→s.heap.get? b=some o∧H b=none:=fun b o e=>
 ⟨I.base.keep b o (I.ok.bs b o e).1 (I.ok.bs b o e).2 (I.ok.nofr e) (I.ok.noex b o e),I.base.free b o (I.ok.bs b o e).1 (I.ok.bs b o e).2 (I.ok.noex b o e)⟩
theorem Inv.bk (I:Inv X pins σ H s):∀b o,X.base.get? b=some o→s.heap.get? b=some o:=fun b o e=>(I.bs b o e).1
theorem Inv.mod (I:Inv X pins σ H s):Mod X.K X.mg X.base:=I.ok.mod
theorem Inv.kIn (I:Inv X pins σ H s):X.K.In s.heap:=I.ok.mod.kin.keeps I.bk
theorem Inv.lt (I:Inv X pins σ H s):X.env.locals<s.heap.objs.size:=let ⟨_,hn,_⟩:=I.loc;hn.lt
theorem Inv.sz (I:Inv X pins σ H s):X.s₀.heap.objs.size≤s.heap.objs.size:=KR I.ok.above (Mq I.lt)
theorem Inv.nofs (I:Inv X pins σ H s){a:Addr}(h:s.heap.objs.size≤a):a∉X.fs:=fun hb=>by
 obtain⟨_,o,ho,_⟩:=I.ok.funs.mem hb
 exact absurd (KU (KF ho) (KR I.sz h)) (ML _)
theorem Inv.cne (I:Inv X pins σ H s):∀x c,X.env.cells.lookup x=some c→c≠X.env.locals:=fun x c e z=>by
 obtain⟨v,o,ho,hd⟩:=I.cell x c e
 obtain⟨m,⟨o',es,ep,ho',hd',_⟩,_⟩:=I.loc
 rw[z,ho']at ho;cases ho;rw[hd']at hd;cases hd
theorem Inv.funs (I:Inv X pins σ H s):s.heap.FunFrames X.base X.outer:=by
 have all:∀(l:List Env),(∀b∈frs l,b∈X.fs)→X.s₀.heap.FunFrames X.base l→s.heap.FunFrames X.base l:=by
  intro l
  induction l with
  |nil=>intro _ _;trivial
  |cons env r ih=>
   intro hs hl
   obtain⟨hk,⟨L,o,hf,hn,ho,hd⟩,hr⟩:=hl
   have hL:L∈X.fs:=hs L (by unfold frs;rw[Ma,hf];exact Lv)
   obtain⟨sl,e⟩:=I.base.slot L o ho (I.ok.frf L hL) hL fun z=>I.ok.exfs L z hL
   exact⟨hk,⟨L,_,hf,hn,e,hd⟩,ih (fun b hb=>hs b (by unfold frs;rw[Ma,hf];exact KQ _ hb)) hr⟩
 exact all X.outer (fun _ hb=>hb) I.ok.funs
theorem Inv.stack (I:Inv X pins σ H s):s.heap.FunFrames X.base X.stack:=by
 rcases I.ok.stk with e|⟨e,hf⟩
 ·rw[e];exact I.funs
 ·rw[e]
  obtain⟨m,hn,_⟩:=I.loc
  refine .cons (by rw[I.ok.kind];decide) hf hn ?_ I.funs
  exact So (KR I.ok.bsz I.ok.above)
theorem Inv.stkSub (I:Inv X pins σ H s):∀b∈frs X.stack,b∈X.env.locals::X.fs:=fun b hb=>by
 rcases I.ok.stk with e|⟨e,hf⟩
 ·rw[e]at hb;exact KQ _ hb
 ·rw[e]at hb
  unfold frs at hb
  rw[Ma,hf]at hb
  exact hb
theorem Inv.stkFree (I:Inv X pins σ H s):∀b∈frs X.stack,H b=none:=fun b hb=>by
 rcases KY.mp (I.stkSub b hb)with e|hb
 ·rw[e];exact I.free
 ·obtain⟨_,o,ho,_⟩:=I.ok.funs.mem hb
  exact I.base.free b o ho (I.ok.frf b hb) fun z=>I.ok.exfs b z hb
theorem Inv.step {g':Array SQ}{t':Nat}{d':Drawn}{ch:List Addr}(I:Inv X pins σ H s)
  (hch:∀b∈ch,(b∈X.ex∨X.s₀.heap.objs.size≤b)∧b≠X.env.locals∧(∀x c,X.env.cells.lookup x=some c→c≠b)∧∀p∈X.pn++pins,p.1≠b)
  (keep:∀b o,b≠X.env.locals→b∉X.fs→b∉ch→s.heap.get? b=some o→H b=none→h'.get? b=some o)
  (slot:∀b o,b≠X.env.locals→b∈X.fs→b∉ch→s.heap.get? b=some o→H b=none→∃sl,h'.get? b=some {o with slots:=sl})(free:∀b o,b∉ch→s.heap.get? b=some o→H b=none→H' b=none)
  (there:∀b o,b∉ch→s.heap.get? b=some o→∃o',h'.get? b=some o')
  (tups:∀b xs,H b=some (.tup xs)→H' b=some (.tup xs))(frzs:∀b o u,H b=some (.frz o u)→H' b=some (.frz o u))(tbls:∀b ps,H b=some (.tbl ps)→∃more,H' b=some (.tbl (ps++more)))
  (ns:∀m,s.heap.Ns X.env.locals m→h'.Ns X.env.locals m)(hok:HOk X.prog X.w H' h')(hg:Py g'):
  Inv X pins σ H' {s with heap:=h',gens:=g',drawn:=d',toks:=t'}:=by
 have neL:∀b o,X.s₀.heap.get? b=some o→b≠X.env.locals:=fun b o e=>KZ (KU (KF e) I.ok.above)
 have neC:∀b o,X.s₀.heap.get? b=some o→b∉X.ex→b∉ch:=fun b o e hx hb=>by
  rcases(hch b hb).1 with z|z
  ·exact hx z
  ·exact absurd (KU (KF e) z) (ML _)
 have cellK:∀x c,X.env.cells.lookup x=some c→∀v,s.heap.IsCell c v→h'.IsCell c v:=fun x c e v ⟨o,ho,hd⟩=>by
  have nch:c∉ch:=fun z=>(hch c z).2.2.1 x c e rfl
  by_cases hc:c∈X.fs
  ·obtain⟨sl,q⟩:=slot c o (I.cne x c e) hc nch ho (I.freeC x c e)
   exact⟨_,q,hd⟩
  ·exact⟨o,keep c o (I.cne x c e) hc nch ho (I.freeC x c e),hd⟩
 refine⟨I.ok,I.os,hg,⟨fun b o e n hb hx=>?_,fun b o e n hb hx=>?_,fun b o e n hx=>?_,fun b o e hx=>?_,fun b xs e=>tups b xs (I.base.tups b xs e),fun b o xs e=>frzs b o xs (I.base.frzs b o xs e),fun b ps e=>?_⟩,?_,fun x c e=>?_,?_,fun x c e=>?_,fun p hp=>?_,hok,I.len⟩
 ·exact keep b o (neL b o e) hb (neC b o e hx) (I.base.keep b o e n hb hx) (I.base.free b o e n hx)
 ·obtain⟨sl,e1⟩:=I.base.slot b o e n hb hx
  obtain⟨sl',e2⟩:=slot b _ (neL b o e) hb (neC b o e hx) e1 (I.base.free b o e n hx)
  exact⟨sl',e2⟩
 ·obtain⟨o',e1⟩:=I.base.there b o e hx
  exact free b o' (neC b o e hx) e1 (I.base.free b o e n hx)
 ·obtain⟨o',e1⟩:=I.base.there b o e hx
  exact there b o' (neC b o e hx) e1
 ·obtain⟨m1,e1⟩:=I.base.tbls b ps e
  obtain⟨m2,e2⟩:=tbls b _ e1
  exact⟨m1++m2,by rw[e2,Qe]⟩
 ·obtain⟨m,hn,hl⟩:=I.loc
  refine⟨m,ns m hn,fun i x v e1 e2 e3=>?_⟩
  obtain⟨u,r,l⟩:=hl i x v e1 e2 e3
  refine⟨u,r,?_⟩
  rcases l with l|⟨k,c,e,z⟩
  ·exact .inl l
  ·exact .inr ⟨k,c,e,cellK x c e _ z⟩
 ·obtain⟨v,z⟩:=I.cell x c e
  exact⟨v,cellK x c e v z⟩
 ·obtain⟨m,⟨o,_,_,ho,_⟩,_⟩:=I.loc
  exact free _ o (fun z=>(hch _ z).2.1 rfl) ho I.free
 ·obtain⟨v,o,ho,hd⟩:=I.cell x c e
  exact free c o (fun z=>(hch c z).2.2.1 x c e rfl) ho (I.freeC x c e)
 ·obtain⟨e,n,ne,nf,d⟩:=I.pin p hp
  have nch:p.1∉ch:=fun z=>(hch p.1 z).2.2.2 p hp rfl
  exact⟨keep p.1 p.2 ne nf nch e n,free p.1 p.2 nch e n,ne,nf,d⟩
theorem Inv.un {t':Nat}(I:Inv X pins σ H s)(u:Un X.fs [] H H' s.heap h')(hok:HOk X.prog X.w H' h'):Inv X pins σ H' {s with heap:=h',toks:=t'}:=by
 obtain⟨m,⟨o,es,ep,ho,r⟩,_⟩:=id I.loc
 obtain⟨sl,hL⟩:=u.any ho I.free (by simp)
 exact I.step (g':=s.gens) (d':=s.drawn) (ch:=[]) (fun _ z=>nomatch z) (fun b o _ hb _ e n=>u.keep b o e n hb (by simp)) (fun b o _ hb _ e n=>u.slot b o e n hb (by simp)) (fun b o _ e n=>u.free b o e n (by simp)) (fun b o _ e=>u.there b o e (by simp)) u.tups u.frzs u.tbls (fun m' hm=>by
  obtain⟨o',es',ep',ho',r'⟩:=hm
  rw[ho]at ho';cases ho'
  exact⟨_,es',ep',hL,r'⟩) hok I.bare
theorem Inv.call {g':Array SQ}{t':Nat}{d':Drawn}{ch:List Addr}(I:Inv X pins σ H s)(u:Un (frs X.stack) ch H H' s.heap h')(hok:HOk X.prog X.w H' h')(hg:Py g')
  (hch:∀b∈ch,(b∈X.ex∨X.s₀.heap.objs.size≤b)∧b≠X.env.locals∧(∀x c,X.env.cells.lookup x=some c→c≠b)∧∀p∈X.pn++pins,p.1≠b):
  Inv X pins σ H' {s with heap:=h',gens:=g',drawn:=d',toks:=t'}:=by
 obtain⟨m,⟨o,es,ep,ho,r⟩,_⟩:=id I.loc
 obtain⟨sl,hL⟩:=u.any ho I.free fun z=>(hch _ z).2.1 rfl
 exact I.step (ch:=ch) hch (fun b o hL hb hc e n=>u.keep b o e n (fun z=>(KY.mp (I.stkSub b z)).elim hL hb) hc) (fun b o _ _ hc e n=>u.any e n hc) (fun b o hc e n=>u.free b o e n hc) (fun b o hc e=>u.there b o e hc) u.tups u.frzs u.tbls (fun m' hm=>by
  obtain⟨o',es',ep',ho',r'⟩:=hm
  rw[ho]at ho';cases ho'
  exact⟨_,es',ep',hL,r'⟩) hok hg
theorem Inv.turned {t':Nat}{it:Addr}(I:Inv X pins σ H s)(k:∀b o,b≠it→s.heap.get? b=some o→h'.get? b=some o)(hn:H it=none)(hL:it≠X.env.locals)
  (h1:it∈X.ex∨X.s₀.heap.objs.size≤it)(h2:∀x c,X.env.cells.lookup x=some c→c≠it)(h3:∀p∈X.pn++pins,p.1≠it):Inv X pins σ H {s with heap:=h',toks:=t'}:=by
 have nit:∀b u,H b=some u→b≠it:=fun b u e z=>by rw[z,hn]at e;cases e
 refine I.step (g':=s.gens) (d':=s.drawn) (ch:=[it]) (fun b hb=>?_) (fun b o _ _ hc e _=>k b o (fun z=>hc (by simp[z])) e) (fun b o _ _ hc e _=>⟨o.slots,k b o (fun z=>hc (by simp[z])) e⟩) (fun _ _ _ _ n=>n)
  (fun b o hc e=>⟨o,k b o (fun z=>hc (by simp[z])) e⟩) (fun _ _ e=>e) (fun _ _ _ e=>e) (fun b ps e=>⟨#[],by rw[e];simp⟩) (fun m hm=>?_) (fun b u e=>?_) I.bare
 ·have e:b=it:=by simpa using hb
  subst e
  exact⟨h1,hL,h2,h3⟩
 ·obtain⟨o,es,ep,ho,r⟩:=hm
  exact⟨o,es,ep,k _ o (Lg hL) ho,r⟩
 ·refine(I.hok b u e).stay (fun c v hc q=>k c v ?_ q) (fun _ q=>q) fun _ _ q=>q
  rcases hc with z|z
  ·rw[z];exact nit b u e
  ·exact nit c _ z
theorem Inv.tok (I:Inv X pins σ H s)(t:Nat):Inv X pins σ H {s with toks:=t}:=I.un (h':=s.heap) (t':=t) Un.refl I.hok
theorem Inv.kept {t':Nat}(I:Inv X pins σ H s)(k:∀b u,s.heap.get? b=some u→h'.get? b=some u):Inv X pins σ H {s with heap:=h',toks:=t'}:=I.un (Un.kept k) (I.hok.kept k)
theorem Inv.laid {a:Addr}{o:HO}{t':Nat}(I:Inv X pins σ H s)(k:∀b u,s.heap.get? b=some u→h'.get? b=some u)(hp:s.heap.objs.size≤a)(new:aT X.prog X.w (upd H a o) h' a o):
 Inv X pins σ (upd H a o) {s with heap:=h',toks:=t'}:=I.un (Un.laid k hp (I.hok.fresh hp)) (I.hok.laid k hp new)
theorem Inv.write {x e:Addr}{o:HO}{t':Nat}(I:Inv X pins σ H s)(mu:Mut (H x))(he:e=x∨H e=some (.own x))(k:∀b u,b≠e→s.heap.get? b=some u→h'.get? b=some u)(heo:∃u,h'.get? e=some u)
 (new:aT X.prog X.w (upd H x o) h' x o):Inv X pins σ (upd H x o) {s with heap:=h',toks:=t'}:=I.un (Un.write mu he k heo) (I.hok.write mu he k heo new)
theorem Inv.pins_of {pins':List (Addr×Obj)}(I:Inv X pins σ H s)(h:∀p∈pins',s.heap.get? p.1=some p.2∧H p.1=none∧p.1≠X.env.locals∧p.1∉X.fs∧∀v,p.2.data≠.cell v):Inv X pins' σ H s:=
 ⟨I.ok,I.os,I.bare,I.base,I.loc,I.cell,I.free,I.freeC,fun p hp=>(LY.mp hp).elim (fun z=>I.pin p (On _ z)) (h p),I.hok,I.len⟩
theorem re {N:List Str}(hN:N.Nodup){i j:Nat}{x:Str}(a:N[i]?=some x)(b:N[j]?=some x):i=j:=by
 obtain⟨h1,e1⟩:=KC.mp a
 obtain⟨h2,e2⟩:=KC.mp b
 exact(TB hN).mp (e1.trans e2.symm)
theorem ou {M:UL}{A:Lj}{E:Gt→Ky→Prop}{i:Nat}{x:Str}{v:V}{u:Gt}{Q:Unit→Ky→Prop}(I:Inv X pins σ H s)(hN:X.N.Nodup)(hi:X.N[i]?=some x)(hx:Loc X.env.scope x)(r:aK v u)
  (h:∀s',Inv X pins (σ.set i (some v)) H s'→(∃a,MK a s.heap s'.heap∧(a=X.env.locals∨X.env.cells.lookup x=some a))→Q () s')(hf:X.fn x=true∨X.env.scope.names.lookup x=some .local:=by first|exact .inl rfl|exact .inr rfl|assumption):wpAny M A (storeName X.env x u) Q E s:=by
 obtain⟨m,hn,hl⟩:=id I.loc
 have hcls:(X.env.scope.kind==.class||(X.env.scope.kind==.module&&X.env.locals !=X.env.globals))=false:=by rw[I.ok.kind];rfl
 have hiσ:i<σ.length:=by rw[I.len];exact(KC.mp hi).1
 have cne:=I.cne
 have tracked:∀{a:Addr}{h':Heap},(∃o,s.heap.get? a=some o∧H a=none)→MK a s.heap h'→HOk X.prog X.w H h':=fun{a h'} ha hs b ob e=>by
  obtain⟨_,_,hfree⟩:=ha
  refine(I.hok b ob e).stay (fun c w' hc q=>(hs.2 c ?_).trans q) (fun _ q=>q) fun _ _ q=>q
  rintro rfl
  rcases hc with rfl|hc
  ·rw[hfree]at e;cases e
  ·rw[hfree]at hc;cases hc
 rcases hx with hk|hk
 ·refine wpAny_storeName_local hk hn (fun h' hn' hs=>?_) hcls
  obtain⟨oL,_,_,hoL,_⟩:=id hn
  refine h _ ⟨I.ok,I.os,I.bare,⟨fun b o e n hb hx=>?_,fun b o e n hb hx=>?_,I.base.free,fun b o e hx=>?_,I.base.tups,I.base.frzs,I.base.tbls⟩,⟨_,hn',fun j y v' e1 e2 e3=>?_⟩,fun y c e=>?_,I.free,I.freeC,fun p hp=>?_,tracked ⟨oL,hoL,I.free⟩ hs,by simpa using I.len⟩ ⟨_,hs,.inl rfl⟩
  ·exact(hs.2 b (KZ (KU (KF e) I.ok.above))).trans (I.base.keep b o e n hb hx)
  ·obtain⟨sl,e1⟩:=I.base.slot b o e n hb hx
   exact⟨sl,(hs.2 b (KZ (KU (KF e) I.ok.above))).trans e1⟩
  ·obtain⟨o',e1⟩:=I.base.there b o e hx
   exact⟨o',(hs.2 b (KZ (KU (KF e) I.ok.above))).trans e1⟩
  ·by_cases hj:j=i
   ·subst hj
    rw[hi]at e1;cases e1
    rw[RT hiσ]at e2
    cases e2
    exact⟨u,r,.inl ⟨hk,by simp⟩⟩
   ·rw[Sw (Lg hj)]at e2
    obtain⟨u',r',q⟩:=hl j y v' e1 e2 e3
    refine⟨u',r',?_⟩
    rcases q with⟨k,e⟩|⟨k,c,e,z⟩
    ·refine .inl ⟨k,?_⟩
     have:y≠x:=fun e=>hj (re hN e1 (e▸hi))
     simp[this,e]
    ·exact .inr ⟨k,c,e,z.sameBut hs (cne y c e)⟩
  ·obtain⟨w',z⟩:=I.cell y c e
   exact⟨w',z.sameBut hs (cne y c e)⟩
  ·obtain⟨e,n,ne,nf,d⟩:=I.pin p hp
   exact⟨(hs.2 p.1 ne).trans e,n,ne,nf,d⟩
 ·have hfn:X.fn x=true:=by
   rcases hf with z|z
   ·exact z
   ·rw[z]at hk;cases hk
  obtain⟨c,hc⟩:=I.ok.has x (.inl hk)
  obtain⟨w',z⟩:=I.cell x c hc
  refine wpAny_storeName_cell I.ok.kind hk hc z (fun h' hc' hs=>?_)
  obtain⟨oc,hoc,hocd⟩:=id z
  refine h {s with heap:=h'} ⟨I.ok,I.os,I.bare,⟨fun b o e n hb hx=>?_,fun b o e n hb hx=>?_,I.base.free,fun b o e hx=>?_,I.base.tups,I.base.frzs,I.base.tbls⟩,⟨m,hn.sameBut hs (Lg (cne x c hc)),fun j y v' e1 e2 e3=>?_⟩,fun y c' e=>?_,I.free,I.freeC,fun p hp=>?_,tracked ⟨oc,hoc,I.freeC x c hc⟩ hs,by simpa using I.len⟩ ⟨c,hs,.inr hc⟩
  ·exact(hs.2 b (KZ (KU (KF e) (I.ok.cab x c hfn hc)))).trans (I.base.keep b o e n hb hx)
  ·obtain⟨sl,e1⟩:=I.base.slot b o e n hb hx
   exact⟨sl,(hs.2 b (KZ (KU (KF e) (I.ok.cab x c hfn hc)))).trans e1⟩
  ·obtain⟨o',e1⟩:=I.base.there b o e hx
   exact⟨o',(hs.2 b (KZ (KU (KF e) (I.ok.cab x c hfn hc)))).trans e1⟩
  ·by_cases hj:j=i
   ·subst hj
    rw[hi]at e1;cases e1
    rw[RT hiσ]at e2
    cases e2
    exact⟨u,r,.inr ⟨.inl hk,c,hc,hc'⟩⟩
   ·rw[Sw (Lg hj)]at e2
    obtain⟨u',r',q⟩:=hl j y v' e1 e2 e3
    refine⟨u',r',?_⟩
    rcases q with q|⟨k,c',e,z'⟩
    ·exact .inl q
    ·refine .inr ⟨k,c',e,z'.sameBut hs ?_⟩
     rintro rfl
     exact hj (re hN e1 (I.ok.inj _ _ _ e hc▸hi))
  ·by_cases hcc:c'=c
   ·subst hcc;exact⟨_,hc'⟩
   ·obtain⟨w2,z2⟩:=I.cell y c' e
    exact⟨w2,z2.sameBut hs hcc⟩
  ·obtain⟨e,n,ne,nf,d⟩:=I.pin p hp
   refine⟨(hs.2 p.1 ?_).trans e,n,ne,nf,d⟩
   intro q
   rw[q,hoc]at e
   have q':oc=p.2:=KL e
   exact d w' (by rw[←q'];exact hocd)
theorem ie {M:UL}{A:Lj}{E:Gt→Ky→Prop}{i:Nat}{x:Str}{v:V}{u:Gt}{Q:Unit→Ky→Prop}(I:Inv X pins σ H s)(hN:X.N.Nodup)(hi:X.N[i]?=some x)(hx:Loc X.env.scope x)(r:aK v u)
  (h:∀s',Inv X pins (σ.set i (some v)) H s'→Q () s')(hf:X.fn x=true∨X.env.scope.names.lookup x=some .local:=by first|exact .inl rfl|exact .inr rfl|assumption):wpAny M A (storeName X.env x u) Q E s:=
 ou I hN hi hx r (fun s' I' _=>h s' I') hf
theorem Inv.call' {s':Ky}{ch:List Addr}(I:Inv X pins σ H s)(ho:s'.os=s.os)(u:Un (frs X.stack) ch H H' s.heap s'.heap)(hok:HOk X.prog X.w H' s'.heap)(hg:Py s'.gens)
  (hch:∀b∈ch,(b∈X.ex∨X.s₀.heap.objs.size≤b)∧b≠X.env.locals∧(∀x c,X.env.cells.lookup x=some c→c≠b)∧∀p∈X.pn++pins,p.1≠b):Inv X pins σ H' s':=by
 obtain⟨h',g',d',t',o'⟩:=s'
 have e:o'=s.os:=ho
 subst e
 exact I.call (g':=g') (t':=t') (d':=d') u hok hg hch
end
abbrev XK:=Gt→Option Addr→Hp→Prop
abbrev St:=List (Option V)
abbrev VK:=V→Hp→Prop
abbrev TE:=St→Hp→VK→Prop
abbrev TT:=St→Hp→(Bool→Hp→Prop)→Prop
abbrev TA:=St→Hp→(List V→Hp→Prop)→Prop
structure gn where
 nx:St→Hp→Prop
 rt:VK
 bk:St→Hp→Prop:=fun _ _=>False
 ct:St→Hp→Prop:=fun _ _=>False
abbrev TS:=gn→St→Hp→Prop
def EP (X:Cx)(pins:List (Addr×Obj))(σ:St)(Q:VK)(u:Gt)(s':Ky):Prop:=∃v H',Inv X pins σ H' s'∧aK v u∧Q v H'
def TP (X:Cx)(pins:List (Addr×Obj))(σ:St)(Q:Bool→Hp→Prop)(b:Bool)(s':Ky):Prop:=∃H',Inv X pins σ H' s'∧Q b H'
def AP (X:Cx)(pins:List (Addr×Obj))(σ:St)(Q:List V→Hp→Prop)(us:List Gt)(s':Ky):Prop:=∃vs H',Inv X pins σ H' s'∧aO vs us∧Q vs H'
def SP (X:Cx)(pins:List (Addr×Obj))(D:gn)(f:Flow)(s':Ky):Prop:=
 match f with
 |.next=>∃σ' H',Inv X pins σ' H' s'∧D.nx σ' H'
 |.brk=>∃σ' H',Inv X pins σ' H' s'∧D.bk σ' H'
 |.cont=>∃σ' H',Inv X pins σ' H' s'∧D.ct σ' H'
 |.ret u=>∃v σ' H',Inv X pins σ' H' s'∧aK v u∧D.rt v H'
def PE (X:Cx)(e:Expr)(t:TE):Prop:=
 ∀(pins:List (Addr×Obj))(s:Ky)(σ:St)(H:Hp)(Q:VK),Inv X pins σ H s→t σ H Q→wpAny (model X.prog X.w) X.A (eval e X.env) (EP X pins σ Q) X.xe s
def PT (X:Cx)(e:Expr)(t:TT):Prop:=
 ∀(pins:List (Addr×Obj))(s:Ky)(σ:St)(H:Hp)(Q:Bool→Hp→Prop),Inv X pins σ H s→t σ H Q→wpAny (model X.prog X.w) X.A (isTrue e X.env (eval e X.env)) (TP X pins σ Q) X.xe s
def PW (X:Cx)(e:Expr)(t:TT):Prop:=
 ∀(whole:Sem Gt)(pins:List (Addr×Obj))(s:Ky)(σ:St)(H:Hp)(Q:Bool→Hp→Prop),Inv X pins σ H s→t σ H Q→wpAny (model X.prog X.w) X.A (isTrue e X.env whole) (TP X pins σ Q) X.xe s
theorem PW.pt {X:Cx}{e:Expr}{t:TT}(h:PW X e t):PT X e t:=h _
def PA (X:Cx)(es:List Expr)(t:TA):Prop:=
 ∀(pos:Pos)(pins:List (Addr×Obj))(s:Ky)(σ:St)(H:Hp)(Q:List V→Hp→Prop),Inv X pins σ H s→t σ H Q→wpAny (model X.prog X.w) X.A (spliced (backTo pos (starEach es X.env))) (AP X pins σ Q) X.xe s
def PS (X:Cx)(st:Stmt)(t:TS):Prop:=
 ∀(pins:List (Addr×Obj))(s:Ky)(σ:St)(H:Hp)(D:gn),Inv X pins σ H s→t D σ H→wpAny (model X.prog X.w) X.A (exec st X.env) (SP X pins D) X.xe s
def PSs (X:Cx)(st:List Stmt)(t:TS):Prop:=
 ∀(pins:List (Addr×Obj))(s:Ky)(σ:St)(H:Hp)(D:gn),Inv X pins σ H s→t D σ H→wpAny (model X.prog X.w) X.A (execs st X.env) (SP X pins D) X.xe s
theorem thn {α:Type}{t:Sem α}{Q Q':α→Ky→Prop}{M:UL}{A:Lj}{E:Gt→Ky→Prop}{s:Ky}(h:wpAny M A t Q E s)(hQ:∀a s,Q a s→Q' a s):wpAny M A t Q' E s:=Le h hQ fun _ _ x=>x
section
variable {X:Cx}
def Ks (i:Nat):TE:=fun σ H Q=>∃v,σ[i]?=some (some v)∧Q v H
def tC (v:V):TE:=fun _ H Q=>Q v H
theorem BV {i:Nat}{x:Str}{pos:Pos}(hN:X.N[i]?=some x)(hv:Vis X.env.scope x)(hd:(x==("__debug__":Str))=false:=by decide)(hcd:(x==("__classdict__":Str))=false:=by decide):PE X (.Name x pos) (Ks i):=by
 intro pins s σ H Q I h
 obtain⟨v,e,h⟩:=h
 obtain⟨m,hn,hl⟩:=I.loc
 obtain⟨u,r,l⟩:=hl i x v hN e hv
 have fin:EP X pins σ Q u s:=⟨v,H,I,r,h⟩
 rcases l with⟨hk,hm⟩|⟨hk,c,hc,hcell⟩
 ·exact UE (wpAny_loadName_local I.ok.kind hk hn hm fin) hd
 ·rcases hk with hk|hk
  ·exact UE (wpAny_loadName_cell I.ok.kind hk hc hcell fin) hd
  ·exact UE (wpAny_loadName_free I.ok.kind hk hc hcell fin hcd) hd
theorem DB {i j pos}:PE X (.Constant (.int i) j pos) (tC (.int i)):=fun _ _ _ H _ I h=>wpAny_Constant_int ⟨.int i,H,I.tok _,⟨_,rfl⟩,h⟩
theorem GS {b j pos}:PE X (.Constant (.bool b) j pos) (tC (.bl b)):=fun _ _ _ H _ I h=>Constant_bool ⟨.bl b,H,I,rfl,h⟩
theorem CF {j pos}:PE X (.Constant .none j pos) (tC .non):=fun _ _ _ H _ I h=>Constant_none ⟨.non,H,I,rfl,h⟩
theorem CA {x j pos}:PE X (.Constant (.str x) j pos) (tC (.str x)):=fun _ _ _ H _ I h=>Calls.Constant_str ⟨.str x,H,I.tok _,⟨_,rfl⟩,h⟩
def Gl (X:Cx)(x:Str):Prop:=X.env.kindOf x=some .globalImplicit
theorem eY {E:Gt→Ky→Prop}{pins:List (Addr×Obj)}{s:Ky}{σ:St}{H:Hp}{x:Str}{u:Gt}{pos:Pos}{Q:Gt→Ky→Prop}(I:Inv X pins σ H s)(hg:Gl X x)(hm:X.mg x=some u)(h:Q u s)
  (hd:(x==("__debug__":Str))=false:=by decide):wpAny (model X.prog X.w) X.A (eval (.Name x pos) X.env) Q E s:=
 OB I.ok.kind hg (RA (by rw[I.ok.glob];exact I.mod.glob.keeps I.bk) hm h) hd
theorem eJ {E:Gt→Ky→Prop}{pins:List (Addr×Obj)}{s:Ky}{σ:St}{H:Hp}{x:Str}{u:Gt}{pos:Pos}{Q:Gt→Ky→Prop}(I:Inv X pins σ H s)(hg:Gl X x)(hm:X.mg x=none)(hv:bootBuiltins x=some u)(h:Q u s)
  (hn:x≠"__name__":=by decide)(hd:(x==("__debug__":Str))=false:=by decide):wpAny (model X.prog X.w) X.A (eval (.Name x pos) X.env) Q E s:=by
 obtain⟨mb,h1,h2⟩:=I.mod.blt
 exact OB I.ok.kind hg (Calls.loadGlobal_builtin (by rw[I.ok.glob];exact I.mod.glob.keeps I.bk) hm (by rw[I.ok.blt];exact h1.keeps I.bk) ((h2 x hn).trans hv) h) hd
theorem AU {x:Str}{v:V}{u:Gt}{pos:Pos}(hg:Gl X x)(hm:X.mg x=some u)(r:aK v u)(hd:(x==("__debug__":Str))=false:=by decide):PE X (.Name x pos) (tC v):=
 fun _ _ _ H _ I h=>eY I hg hm ⟨v,H,I,r,h⟩ hd
theorem Af {x:Str}{v:V}{u:Gt}{pos:Pos}(hg:Gl X x)(hm:X.mg x=none)(hv:bootBuiltins x=some u)(r:aK v u)(hn:x≠"__name__":=by decide)(hd:(x==("__debug__":Str))=false:=by decide):PE X (.Name x pos) (tC v):=
 fun _ _ _ H _ I h=>eJ I hg hm hv ⟨v,H,I,r,h⟩ hn hd
variable {a b:Expr}{ta tb:TE}{pos:Pos}
variable {tA tB':TT}{ci:List Expr}
def dE (t:TT):TT:=fun σ H Q=>t σ H fun c H1=>Q (!c) H1
theorem AN (ha:PT X a tA):PW X (.BoolOp .And [a] pos) tA:=by
 intro wh pins s σ H Q I h
 refine isTrue_and (thn (ha pins s σ H Q I h) fun c s1 e=>?_)
 cases c with
 |true=>exact isTrue_and_nil e
 |false=>exact e
theorem En (ha:PT X a tA):PW X (.BoolOp .Or [a] pos) tA:=by
 intro wh pins s σ H Q I h
 refine isTrue_or (thn (ha pins s σ H Q I h) fun c s1 e=>?_)
 cases c with
 |false=>exact isTrue_or_nil e
 |true=>exact e
theorem EU (ha:PT X a tA):PT X (.UnaryOp .Not a pos) (dE tA):=by
 intro pins s σ H Q I h
 exact isTrue_not (ha pins s σ H (fun c H1=>Q (!c) H1) I h)
theorem Dz {op}{t:TE}(h:PE X a t):PE X (.BoolOp op [a] pos) t:=fun pins s σ H Q I hw=>BoolOp_one (h pins s σ H Q I hw)
end
def SqL (K:tx)(H:Hp)(a:Addr)(xs:List V):Prop:=
 Rd H a (.lst xs)∨
  ∃(o:Obj)(its:Array Gt)(n:Nat),K.lookup a=some o∧o.cls=.type "list"∧o.dict=none∧o.data=.seq its n∧its.size≤sizeLine∧aO xs its.toList
def SqT (K:tx)(H:Hp)(a:Addr)(xs:List V):Prop:=
 Rd H a (.tup xs)∨
  ∃(o:Obj)(its:Array Gt)(n:Nat),K.lookup a=some o∧o.cls=.type "tuple"∧o.data=.seq its n∧its.size≤sizeLine∧aO xs its.toList
def Kh:Gt→Option V
 |.none=>some .non
 |.bool b=>some (.bl b)
 |.int i _=>some (.int i)
 |.str x _=>some (.str x)
 |.bytes b _=>some (.byt b)
 |.float b _=>some (.flt b)
 |.ref a=>some (.ref a)
 |.type n=>some (.ty n)
 |_=>none
theorem aK.abs {x:V}{u:Gt}(r:aK x u):Kh u=some x:=by
 cases x with
 |non=>cases r;rfl
 |bl _=>cases r;rfl
 |int _=>obtain⟨t,rfl⟩:=r;rfl
 |str _=>obtain⟨t,rfl⟩:=r;rfl
 |byt _=>obtain⟨t,rfl⟩:=r;rfl
 |flt _=>obtain⟨t,rfl⟩:=r;rfl
 |ref _=>cases r;rfl
 |ty _=>cases r;rfl
theorem aK.inj {x y:V}{u:Gt}(r:aK x u)(q:aK y u):x=y:=KL (r.abs.symm.trans q.abs)
theorem aO.inj:∀{xs ys:List V}{us:List Gt},aO xs us→aO ys us→xs=ys
 |_,_,_,.nil,.nil=>rfl
 |_,_,_,.cons r t,.cons r' t'=>by rw[r.inj r',aO.inj t t']
section
variable {X:Cx}{pins:List (Addr×Obj)}{σ:St}{H:Hp}{s:Ky}{a:Addr}{xs ys:List V}
theorem SqL.of {K:tx}(h:H a=some (.lst xs)):SqL K H a xs:=.inl (.inl h)
theorem SqT.of {K:tx}(h:H a=some (.tup xs)):SqT K H a xs:=.inl (.inl h)
theorem Inv.list (I:Inv X pins σ H s)(h:SqL X.K H a xs):∃its:List Gt,aO xs its∧PlainL s.heap a its.toArray∧xs.length≤sizeLine:=by
 rcases h with h|⟨o,its,n,hk,hc,hd,hs,hz,r⟩
 ·obtain⟨z,its,n,r,e⟩:=h.ok I.hok
  exact⟨its,r,⟨_,n,e,rfl,rfl,rfl⟩,z⟩
 ·refine⟨its.toList,r,⟨o,n,I.kIn a o hk,hc,hd,by simpa using hs⟩,?_⟩
  have e:=r.length
  simp only[Mx]at e
  omega
theorem Inv.tuple (I:Inv X pins σ H s)(h:SqT X.K H a xs):∃its:List Gt,aO xs its∧QK s.heap a its.toArray∧xs.length≤sizeLine:=by
 rcases h with h|⟨o,its,n,hk,hc,hs,hz,r⟩
 ·obtain⟨z,its,r,p⟩:=h.ok I.hok
  exact⟨its,r,p,z⟩
 ·refine⟨its.toList,r,⟨o,I.kIn a o hk,hc,n,by simpa using hs⟩,?_⟩
  have e:=r.length
  simp only[Mx]at e
  omega
theorem Inv.list_inj (I:Inv X pins σ H s)(h:SqL X.K H a xs)(h':SqL X.K H a ys):xs=ys:=by
 obtain⟨its,r,⟨o,n,e,_,_,d⟩,_⟩:=I.list h
 obtain⟨its',r',⟨o',n',e',_,_,d'⟩,_⟩:=I.list h'
 rw[e]at e';cases e'
 rw[d]at d'
 injection d' with d1 _
 have:its=its':=by simpa using congrArg UB d1
 subst this
 exact r.inj r'
theorem Inv.tuple_inj (I:Inv X pins σ H s)(h:SqT X.K H a xs)(h':SqT X.K H a ys):xs=ys:=by
 obtain⟨its,r,⟨o,e,_,n,d⟩,_⟩:=I.tuple h
 obtain⟨its',r',⟨o',e',_,n',d'⟩,_⟩:=I.tuple h'
 rw[e]at e';cases e'
 rw[d]at d'
 injection d' with d1 _
 have:its=its':=by simpa using congrArg UB d1
 subst this
 exact r.inj r'
end
abbrev Cx.wish (X:Cx)(E:Gt→Ky→Prop):Cx:={X with xe:=E}
abbrev Cx.nox (X:Cx):Cx:=X.wish fun _ _=>False
theorem Cx.Ok.wish {X:Cx}(ok:X.Ok)(E:Gt→Ky→Prop):(X.wish E).Ok:=
 ⟨ok.mod,ok.kind,ok.glob,ok.blt,ok.above,ok.inj,ok.has,ok.cab,ok.hd,ok.frames,ok.stk,ok.exf,ok.bs,ok.bsz,ok.noex,ok.exfs,ok.funs,ok.frf⟩
theorem Cx.Ok.unwish {X:Cx}{E:Gt→Ky→Prop}(ok:(X.wish E).Ok):X.Ok:=
 ⟨ok.mod,ok.kind,ok.glob,ok.blt,ok.above,ok.inj,ok.has,ok.cab,ok.hd,ok.frames,ok.stk,ok.exf,ok.bs,ok.bsz,ok.noex,ok.exfs,ok.funs,ok.frf⟩
section
variable {X:Cx}{pins:List (Addr×Obj)}{σ:St}{H:Hp}{s:Ky}{E:Gt→Ky→Prop}
theorem Inv.wish (I:Inv X pins σ H s)(E:Gt→Ky→Prop):Inv (X.wish E) pins σ H s:=⟨I.ok.wish E,I.os,I.bare,I.base,I.loc,I.cell,I.free,I.freeC,I.pin,I.hok,I.len⟩
theorem Inv.unwish (I:Inv (X.wish E) pins σ H s):Inv X pins σ H s:=⟨I.ok.unwish,I.os,I.bare,I.base,I.loc,I.cell,I.free,I.freeC,I.pin,I.hok,I.len⟩
theorem SP.unwish {D:gn}{f:Flow}{s':Ky}(h:SP (X.wish E) pins D f s'):SP X pins D f s':=by
 cases f with
 |next=>obtain⟨σ',H',I,q⟩:=h;exact⟨σ',H',I.unwish,q⟩
 |brk=>obtain⟨σ',H',I,q⟩:=h;exact⟨σ',H',I.unwish,q⟩
 |cont=>obtain⟨σ',H',I,q⟩:=h;exact⟨σ',H',I.unwish,q⟩
 |ret u=>obtain⟨v,σ',H',I,r,q⟩:=h;exact⟨v,σ',H',I.unwish,r,q⟩
theorem PE.nox {e:Expr}{t:TE}(h:PE X.nox e t):PE X e t:=fun pins s σ H Q I hw=>
 Le (h pins s σ H Q (I.wish _) hw) (fun _ _ ⟨v,H',I',r,q⟩=>⟨v,H',I'.unwish,r,q⟩) fun _ _ z=>Ll z
theorem PSs.nox {st:List Stmt}{t:TS}(h:PSs X.nox st t):PSs X st t:=fun pins s σ H D I hw=>
 Le (h pins s σ H D (I.wish _) hw) (fun _ _ q=>q.unwish) fun _ _ z=>Ll z
end
section
variable {X:Cx}{st:Stmt}{ci:List Stmt}{t u:TS}{e:Expr}{te:TE}{pos:Pos}
def bf:TS:=fun D σ H=>D.nx σ H
def ax (t u:TS):TS:=fun D σ H=>t {D with nx:=u D} σ H
theorem AR:PSs X [] bf:=fun _ _ σ H _ I h=>OJ ⟨σ,H,I,h⟩
theorem xi (h1:PS X st t)(h2:PSs X ci u):PSs X (st::ci) (ax t u):=by
 intro pins s σ H D I h
 refine OA (thn (h1 pins s σ H {D with nx:=u D} I h) fun f s1 q=>?_)
 cases f with
 |next=>
  obtain⟨σ',H',I',q⟩:=q
  exact h2 pins s1 σ' H' D I' q
 |ret v=>exact q
 |brk=>exact q
 |cont=>exact q
theorem Bd (h1:PS X st t):PSs X [st] t:=by
 intro pins s σ H D I h
 refine OA (thn (h1 pins s σ H D I h) fun f s1 q=>?_)
 cases f with
 |next=>exact OJ q
 |ret v=>exact q
 |brk=>exact q
 |cont=>exact q
theorem Inv.quiet {pins:List (Addr×Obj)}{σ:St}{H:Hp}{s:Ky}(I:Inv X pins σ H s):interactive X.env=false:=by simp[interactive,I.ok.kind]
def du (te:TE):TS:=fun D σ H=>te σ H fun _ H1=>D.nx σ H1
theorem Aw (he:PE X e te)(hs:swapsWith e none pos.line X.env=pure false:=by rfl):PS X (.Expr e pos) (du te):=by
 intro pins s σ H D I h
 exact wpAny_Expr_any (thn (he pins s σ H _ I h) fun v s1 ⟨x,H1,I1,r1,q1⟩=>⟨σ,H1,I1,q1⟩) I.quiet hs
def aN (te:TE):TS:=fun D σ H=>te σ H D.rt
theorem Cg (he:PE X e te):PS X (.Return (some e) pos) (aN te):=by
 intro pins s σ H D I h
 exact QZ (thn (he pins s σ H _ I h) fun v s1 ⟨x,H1,I1,r1,q1⟩=>⟨x,σ,H1,I1,r1,q1⟩)
def gl:TS:=fun _ _ _=>False
theorem yw:PS X st gl:=fun _ _ _ _ _ _ h=>h.elim
end
abbrev TG:=V→St→Hp→(St→Hp→Prop)→Prop
abbrev TGs:=List V→St→Hp→(St→Hp→Prop)→Prop
def PG (X:Cx)(target:Expr)(t:TG):Prop:=
 ∀(pins:List (Addr×Obj))(s:Ky)(σ:St)(H:Hp)(v:V)(u:Gt)(Q:St→Hp→Prop),Inv X pins σ H s→aK v u→t v σ H Q→
  wpAny (model X.prog X.w) X.A (assign target X.env u) (fun _ s'=>∃σ' H',Inv X pins σ' H' s'∧Q σ' H') X.xe s
def PGs (X:Cx)(ts:List Expr)(t:TGs):Prop:=
 ∀(pins:List (Addr×Obj))(s:Ky)(σ:St)(H:Hp)(vs:List V)(us:List Gt)(Q:St→Hp→Prop),Inv X pins σ H s→aO vs us→t vs σ H Q→
  wpAny (model X.prog X.w) X.A (assignInOrder ((assignEach ts X.env).map (·.2)) us) (fun _ s'=>∃σ' H',Inv X pins σ' H' s'∧Q σ' H') X.xe s
abbrev wR:=V→V→V→Hp→(Hp→Prop)→Prop
def uH (X:Cx)(t:wR):Prop:=
 ∀(pins:List (Addr×Obj))(s:Ky)(σ:St)(H:Hp)(o i v:V)(ov iv u:Gt)(Q:Hp→Prop),Inv X pins σ H s→aK o ov→aK i iv→aK v u→t o i v H Q→
  wpAny (model X.prog X.w) X.A (setItem ov iv u) (fun _ s'=>∃H',Inv X pins σ H' s'∧Q H') X.xe s
section
variable {X:Cx}{pos:Pos}
def aw (i:Nat):TG:=fun v σ H Q=>Q (σ.set i (some v)) H
theorem dv {i:Nat}{x:Str}(hN:X.N.Nodup)(hi:X.N[i]?=some x)(hx:Loc X.env.scope x)(hf:X.fn x=true∨X.env.scope.names.lookup x=some .local:=by first|exact .inl rfl|exact .inr rfl|assumption):PG X (.Name x pos) (aw i):=by
 intro pins s σ H v u Q I r h
 exact QY (ie I hN hi hx r (fun s' I'=>⟨_,H,I',h⟩) hf)
def ki:TGs:=fun vs σ H Q=>vs=[]∧Q σ H
def cg (t:TG)(u:TGs):TGs:=fun vs σ H Q=>∃v r,vs=v::r∧t v σ H fun σ' H'=>u r σ' H' Q
theorem nC:PGs X [] ki:=by
 intro pins s σ H vs us Q I r h
 obtain⟨e,h⟩:=h
 subst e
 cases r
 exact assignInOrder_nil ⟨σ,H,I,h⟩
theorem dq {e:Expr}{es:List Expr}{t:TG}{u:TGs}(h1:PG X e t)(h2:PGs X es u)
  (hs:(assignEach (e::es) X.env).map (·.2)=assign e X.env::(assignEach es X.env).map (·.2):=by rfl):PGs X (e::es) (cg t u):=by
 intro pins s σ H vs us Q I r h
 obtain⟨v,vr,e1,h⟩:=h
 subst e1
 cases r with
 |cons r rr=>
  rw[hs]
  refine assignInOrder_cons (thn (h1 pins s σ H _ _ _ I r h) fun _ s1 ⟨σ1,H1,I1,q1⟩=>?_)
  exact h2 pins s1 σ1 H1 _ _ Q I1 rr q1
def kq (K:tx)(n:Nat)(t:TGs):TG:=fun v σ H Q=>∃a xs,v=.ref a∧SqT K H a xs∧xs.length=n∧t xs σ H Q
theorem rl {es:List Expr}{k:Nat}{t:TGs}{n:Nat}(hc:X.calm=true)(h:PGs X es t)
  (hn:(assignEach es X.env).length=n:=by rfl)(hst:(assignEach es X.env).findIdx? (·.1)=none:=by rfl):PG X (.Tuple es k pos) (kq X.K n t):=by
 intro pins s σ H v u Q I r hw
 obtain⟨a,xs,e1,hq,hl,hw⟩:=hw
 subst e1
 cases r
 obtain⟨its,rv,ht,hz⟩:=I.tuple hq
 refine assign_Tuple_tuple (I.ok.hd hc) ht (by simp[hn,←hl,rv.length]) hst fun h' hx=>?_
 have I1:Inv X pins σ H {s with heap:=h'}:=I.kept (t':=s.toks) fun b o e=>hx b o (KZ (KF e)) e
 exact h pins _ σ H xs _ Q I1 (by simpa using rv) hw
def kM (to ti:TE)(t:wR):TG:=fun v σ H Q=>to σ H fun o H1=>ti σ H1 fun i H2=>t o i v H2 fun H3=>Q σ H3
theorem EO {o i:Expr}{to ti:TE}{t:wR}(ho:PE X o to)(hi:PE X i ti)(hs:uH X t)
  (ha:∀v,assign (.Subscript o i pos) X.env v=(do
   let ov←holding [v] (eval o X.env)
   let iv←holding [v,ov] (eval i X.env)
   standAt pos
   holding [v,ov,iv] (setItem ov iv v)
   release [v,ov,iv] []):=by intro _;rfl):PG X (.Subscript o i pos) (kM to ti t):=by
 intro pins s σ H v u Q I r h
 rw[ha]
 refine cW (Ms (thn (ho pins s σ H _ I h) fun ov s1 ⟨x,H1,I1,r1,q1⟩=>?_))
 refine cW (Ms (thn (hi pins s1 σ H1 _ I1 q1) fun iv s2 ⟨y,H2,I2,r2,q2⟩=>?_))
 refine cW (OD (cW (Ms (thn (hs pins s2 σ H2 x y v ov iv u _ I2 r1 r2 r q2) fun _ s3 ⟨H3,I3,q3⟩=>?_))))
 exact wpAny_release ⟨σ,H3,I3,q3⟩
def aC (te:TE)(g:TG):TS:=fun D σ H=>te σ H fun x H1=>g x σ H1 D.nx
theorem mn {tg e:Expr}{te:TE}{g:TG}(he:PE X e te)(hg:PG X tg g)(hs:swapsWithSole [tg] e pos.line X.env=pure false:=by rfl)(hw:swappedStores [tg] e X.env=pure none:=by rfl)
  (h1:(assignEach [tg] X.env).map (·.2)=[assign tg X.env]:=by rfl):PS X (.Assign [tg] e pos) (aC te g):=by
 intro pins s σ H D I h
 refine wpAny_Assign_stores (thn (he pins s σ H _ I h) fun v s1 ⟨x,H1,I1,r1,q1⟩=>?_) hs hw
 rw[h1]
 exact thn (hg pins s1 σ H1 x v _ I1 r1 q1) fun _ s2 q=>q
theorem CZ {i:Nat}{x:Str}{e:Expr}{te:TE}{pos':Pos}(hN:X.N.Nodup)(hi:X.N[i]?=some x)(hx:Loc X.env.scope x)(he:PE X e te)(hs:swapsWith e (some (.Name x pos')) pos.line X.env=pure false:=by rfl)(hf:X.fn x=true∨X.env.scope.names.lookup x=some .local:=by first|exact .inl rfl|exact .inr rfl|assumption):
  PS X (.Assign [.Name x pos'] e pos) (aC te (aw i)):=by
 intro pins s σ H D I h
 refine wpAny_Assign_Name (thn (he pins s σ H _ I h) fun v s1 ⟨y,H1,I1,r1,q1⟩=>?_) hs
 exact ie I1 hN hi hx r1 (fun s2 I2=>⟨_,H1,I2,q1⟩) hf
end
section
variable {X:Cx}{pos:Pos}
def kf (c:TT)(tb:TS):TS:=fun D σ H=>∃W:Nat→St→Hp→Prop,(∃m,W m σ H)∧∀m σ H,W m σ H→
 c σ H fun b H1=>if b=true then ∃N:St→Hp→Prop,(∀σ' H',N σ' H'→∃m',m'<m∧W m' σ' H')∧tb {D with nx:=N,ct:=N,bk:=D.nx} σ H1 else D.nx σ H1
theorem yk {c:Expr}{body:List Stmt}{tc:TT}{tb:TS}(hp:Tu (model X.prog X.w) X.A X.env X.xe)(hc:PT X c tc)(hb:PSs X body tb):PS X (.While c body [] pos) (kf tc tb):=by
 intro pins s σ H D I h
 obtain⟨W,⟨m0,w0⟩,turn⟩:=h
 refine wpAny_While (codeAny_whileLoop (fun n s'=>∃σ' H',Inv X pins σ' H' s'∧W n σ' H') ?_ m0 ⟨σ,H,I,w0⟩)
 rintro n s1 ⟨σ1,H1,I1,w1⟩
 refine NI hp (thn (hc pins s1 σ1 H1 _ I1 (turn n σ1 H1 w1)) fun b s2 ⟨H2,I2,q2⟩=>?_)
 cases b with
 |true=>
  obtain⟨N,hN,q2⟩:=q2
  rw[if_pos rfl]
  refine NI hp (thn (hb pins s2 σ1 H2 _ I2 q2) fun f s3 q3=>?_)
  cases f with
  |next=>
   obtain⟨σ3,H3,I3,n3⟩:=q3
   obtain⟨m',hm,w3⟩:=hN σ3 H3 n3
   exact⟨m',hm,σ3,H3,I3,w3⟩
  |cont=>
   obtain⟨σ3,H3,I3,n3⟩:=q3
   obtain⟨m',hm,w3⟩:=hN σ3 H3 n3
   exact⟨m',hm,σ3,H3,I3,w3⟩
  |brk=>exact q3
  |ret v=>exact q3
 |false=>
  rw[if_neg KN]
  exact OJ ⟨σ1,H2,I2,q2⟩
end
structure It where
 go:Nat→Hp→Prop
 yld:Nat→Hp→V→Hp→Prop
 stop:Nat→Hp→Prop
def kF (X:Cx)(pins:List (Addr×Obj))(H:Hp)(b:Addr):Prop:=
 H b=none∧b≠X.env.locals∧b∉X.fs∧(b∈X.ex∨X.s₀.heap.objs.size≤b)∧(∀x c,X.env.cells.lookup x=some c→c≠b)∧∀p∈X.pn++pins,p.1≠b
theorem Inv.fpOk {X:Cx}{pins:List (Addr×Obj)}{σ:St}{H H':Hp}{s:Ky}{b:Addr}(I:Inv X pins σ H s)(hb:s.heap.objs.size≤b)(hn:H' b=none):kF X pins H' b:=by
 refine⟨hn,MN (KU I.lt hb),I.nofs hb,.inr (KR I.sz hb),fun x c e z=>?_,fun p hp z=>?_⟩
 ·obtain⟨v,q⟩:=I.cell x c e
  exact absurd (KU q.lt (by rw[z];exact hb)) (ML _)
 ·exact absurd (KU (KF (I.pin p hp).1) (by rw[z];exact hb)) (ML _)
structure kJ (P:KS)(w:LI)(K:tx)(tg:Expr)(J:It)(fp:List Addr)(it:Addr)(tn:Nat→Heap→Prop):Prop where
 mem:it∈fp
 obj:∀i h,tn i h→∀b∈fp,∃o,h.get? b=some o∧∀v,o.data≠.cell v
 keep:∀i h h',tn i h→(∀b∈fp,∀o,h.get? b=some o→h'.get? b=some o)→tn i h'
 item:∀(X:Cx),X.prog=P→X.w=w→X.K=K→X.calm=true→∀(i:Nat)(pins:List (Addr×Obj))(s:Ky)(σ:St)(H:Hp)(E:Gt→Ky→Prop),Inv X pins σ H s→(∀b∈fp,kF X pins H b)→tn i s.heap→J.go i H→
  wpAny (model P w) X.A (pyNext (.ref it)) (fun r s1=>∃u,r=some u∧
   wpAny (model P w) X.A (letOwnedTupleGo tg (.ref it) u) (fun _ s2=>∃x H',Inv X pins σ H' s2∧aK x u∧J.yld i H x H'∧tn (i+1) s2.heap∧∀b∈fp,H' b=none) E s1) E s
 done:∀(X:Cx),X.prog=P→X.w=w→X.K=K→X.calm=true→∀(i:Nat)(pins:List (Addr×Obj))(s:Ky)(σ:St)(H:Hp)(E:Gt→Ky→Prop),Inv X pins σ H s→(∀b∈fp,kF X pins H b)→tn i s.heap→J.stop i H→
  wpAny (model P w) X.A (pyNext (.ref it)) (fun r s1=>r=none∧Inv X pins σ H s1) E s
 self:∀(A:Lj)(i:Nat)(s:Ky)(Q:Gt→Ky→Prop)(E:Gt→Ky→Prop),tn i s.heap→Q (.ref it) s→wpAny (model P w) A (pyIter (.ref it)) Q E s
abbrev TI:=St→Hp→(It→Hp→Prop)→Prop
def PIE (X:Cx)(pins:List (Addr×Obj))(σ:St)(tg:Expr)(R:It→Hp→Prop)(itv:Gt)(s2:Ky):Prop:=
 ∃(it:Addr)(fp:List Addr)(tn:Nat→Heap→Prop)(J:It)(H':Hp),itv=.ref it∧Inv X pins σ H' s2∧kJ X.prog X.w X.K tg J fp it tn∧tn 0 s2.heap∧(∀b∈fp,kF X pins H' b)∧R J H'
def PI (X:Cx)(tg iter:Expr)(wi:TI):Prop:=
 ∀(pins:List (Addr×Obj))(s:Ky)(σ:St)(H:Hp)(R:It→Hp→Prop),Inv X pins σ H s→wi σ H R→
  wpAny (model X.prog X.w) X.A (eval iter X.env) (fun v s1=>wpAny (model X.prog X.w) X.A (pyIter v) (PIE X pins σ tg R) X.xe s1) X.xe s
theorem lb {M:UL}{A:Lj}{E:Gt→Ky→Prop}{s:Ky}{tg:Expr}{it:Addr}{u:Gt}{o:Obj}{n:String}{vs:Array Gt}{Q:Unit→Ky→Prop}(ho:s.heap.get? it=some o)(hc:o.cls=.type n)(hd:o.data=.fields vs)
  (hn:["enumerate","zip","dict_itemiterator","dict_reverseitemiterator","odict_iterator","itertools.zip_longest","itertools.pairwise"].contains n=false)(hQ:Q () s):wpAny M A (letOwnedTupleGo tg (.ref it) u) Q E s:=by
 unfold letOwnedTupleGo
 cases tg<;>first
  |exact If hQ
  |(cases u<;>first
   |exact If hQ
   |(refine cW (UD ho ?_)
     rw[hc,hd]
     show wpAny M A (if (["enumerate","zip","dict_itemiterator","dict_reverseitemiterator","odict_iterator","itertools.zip_longest","itertools.pairwise"].contains n&&vs[0]? ==some (rawInt _))=true then _ else _) Q E s
     rw[if_neg (by intro h;rw[hn,PN]at h;cases h)]
     exact If hQ))
def Itl (K:tx)(a:Addr):It:=
 ⟨fun i H=>∃xs x,SqL K H a xs∧xs[i]?=some x,fun i H x H'=>H'=H∧∀xs,SqL K H a xs→xs[i]?=some x,fun i H=>∃xs,SqL K H a xs∧xs.length≤i⟩
def Itt (K:tx)(a:Addr):It:=
 ⟨fun i H=>∃xs x,SqT K H a xs∧xs[i]?=some x,fun i H x H'=>H'=H∧∀xs,SqT K H a xs→xs[i]?=some x,fun i H=>∃xs,SqT K H a xs∧xs.length≤i⟩
def Itr (lo:Int)(n:Nat):It:=⟨fun i _=>i<n,fun i H x H'=>H'=H∧x=.int (lo+i),fun i _=>n≤i⟩
theorem vm {P:KS}{w:LI}{K:tx}{tg:Expr}(a it:Addr):kJ P w K tg (Itl K a) [it] it (fun i h=>h.IsListIter it a i)where
 mem:=by simp
 obj:=fun i h st b hb=>by
  have e:b=it:=by simpa using hb
  subst e
  obtain⟨o,e,c,d⟩:=st
  exact⟨o,e,fun v z=>by rw[d]at z;cases z⟩
 keep:=fun i h h' st k=>st.at fun o e=>k it (by simp) o e
 item:=by
  intro X hP hw hK hc i pins s σ H E I hf st hg
  subst hP hw hK
  obtain⟨xs,x,hq,hx⟩:=hg
  obtain⟨its,rv,p,hz⟩:=I.list hq
  obtain⟨u,hu,ru⟩:=rv.get hx
  obtain⟨f0,f1,f2,f3,f4,f5⟩:=hf it (by simp)
  refine wpAny_pyNext_list_item st p.isList (x:=u) (by simpa using hu) fun h' st' sb=>?_
  have I1:Inv X pins σ H {s with heap:=h'}:=I.turned (t':=s.toks) (fun b o hb e=>(sb.2 b hb).trans e) f0 f1 f3 f4 f5
  obtain⟨o,e,c,d⟩:=id st'
  exact⟨u,rfl,lb (s:={s with heap:=h'}) e c d (by decide) ⟨x,H,I1,ru,⟨rfl,fun ys hy=>by rw[I.list_inj hy hq];exact hx⟩,st',fun b hb=>(hf b hb).1⟩⟩
 done:=by
  intro X hP hw hK hc i pins s σ H E I hf st hg
  subst hP hw hK
  obtain⟨xs,hq,hx⟩:=hg
  obtain⟨its,rv,p,hz⟩:=I.list hq
  obtain⟨f0,f1,f2,f3,f4,f5⟩:=hf it (by simp)
  have hl:=rv.length
  exact wpAny_pyNext_list_end (I.ok.hd hc) st p.isList (by simp;omega) fun h' eb=>⟨rfl,I.turned (t':=s.toks) (fun b o hb e=>eb b o hb e) f0 f1 f3 f4 f5⟩
 self:=fun _ _ _ _ _ st h=>wpAny_pyIter_listiter st h
theorem tG {P:KS}{w:LI}{K:tx}{tg:Expr}(a it:Addr):kJ P w K tg (Itt K a) [it] it (fun i h=>h.IsTupleIter it a i)where
 mem:=by simp
 obj:=fun i h st b hb=>by
  have e:b=it:=by simpa using hb
  subst e
  obtain⟨o,e,c,d⟩:=st
  exact⟨o,e,fun v z=>by rw[d]at z;cases z⟩
 keep:=fun i h h' st k=>st.at fun o e=>k it (by simp) o e
 item:=by
  intro X hP hw hK hc i pins s σ H E I hf st hg
  subst hP hw hK
  obtain⟨xs,x,hq,hx⟩:=hg
  obtain⟨its,rv,p,hz⟩:=I.tuple hq
  obtain⟨u,hu,ru⟩:=rv.get hx
  obtain⟨f0,f1,f2,f3,f4,f5⟩:=hf it (by simp)
  refine wpAny_pyNext_tuple_item st (show s.heap.IsTuple a its.toArray from p) (x:=u) (by simpa using hu) fun h' st' sb=>?_
  have I1:Inv X pins σ H {s with heap:=h'}:=I.turned (t':=s.toks) (fun b o hb e=>(sb.2 b hb).trans e) f0 f1 f3 f4 f5
  obtain⟨o,e,c,d⟩:=id st'
  exact⟨u,rfl,lb (s:={s with heap:=h'}) e c d (by decide) ⟨x,H,I1,ru,⟨rfl,fun ys hy=>by rw[I.tuple_inj hy hq];exact hx⟩,st',fun b hb=>(hf b hb).1⟩⟩
 done:=by
  intro X hP hw hK hc i pins s σ H E I hf st hg
  subst hP hw hK
  obtain⟨xs,hq,hx⟩:=hg
  obtain⟨its,rv,p,hz⟩:=I.tuple hq
  obtain⟨f0,f1,f2,f3,f4,f5⟩:=hf it (by simp)
  have hl:=rv.length
  exact wpAny_pyNext_tuple_end (I.ok.hd hc) st (show s.heap.IsTuple a its.toArray from p) (by simp;omega) fun h' eb=>⟨rfl,I.turned (t':=s.toks) (fun b o hb e=>eb b o hb e) f0 f1 f3 f4 f5⟩
 self:=fun _ _ _ _ _ st h=>wpAny_pyIter_tupleiter st h
theorem ug {P:KS}{w:LI}{K:tx}{tg:Expr}(it:Addr)(lo:Int)(n:Nat):kJ P w K tg (Itr lo n) [it] it (fun i h=>IsRangeIter h it (lo+(i:Nat)*1) ((n:Int)- (i:Nat)) 1)where
 mem:=by simp
 obj:=fun i h st b hb=>by
  have e:b=it:=by simpa using hb
  subst e
  exact⟨_,st,fun v z=>by
   have z':Data.fields _=Data.cell v:=z
   cases z'⟩
 keep:=fun i h h' st k=>k it (by simp) _ st
 item:=by
  intro X hP hw hK hc i pins s σ H E I hf st hg
  subst hP hw hK
  obtain⟨f0,f1,f2,f3,f4,f5⟩:=hf it (by simp)
  have W:=Walks.range (prog:=X.prog) (w:=X.w) (I.ok.hd hc) it lo 1 n
  refine W.item i s _ _ hg st fun v h' tk hv st' kk=>?_
  obtain⟨t,rfl⟩:=hv
  have I1:Inv X pins σ H {s with heap:=h',toks:=tk}:=I.turned (fun b o hb e=>kk b o (by simpa using hb) e) f0 f1 f3 f4 f5
  refine⟨_,rfl,lb (s:={s with heap:=h',toks:=tk}) (n:="range_iterator") st' rfl rfl (by decide) ⟨.int (lo+i),H,I1,⟨t,?_⟩,⟨rfl,rfl⟩,st',fun b hb=>(hf b hb).1⟩⟩
  rw[Int.mul_one]
 done:=by
  intro X hP hw hK hc i pins s σ H E I hf st hg
  subst hP hw hK
  obtain⟨f0,f1,f2,f3,f4,f5⟩:=hf it (by simp)
  exact wpAny_pyNext_range_end (I.ok.hd hc) st (by have:n≤i:=hg;omega) fun h' eb=>⟨rfl,I.turned (t':=s.toks) (fun b o hb e=>eb b o hb e) f0 f1 f3 f4 f5⟩
 self:=fun _ _ _ _ _ st h=>wpAny_pyIter_rangeiter st h
section
variable {X:Cx}{tg:Expr}
theorem rk {pins:List (Addr×Obj)}{σ:St}{H:Hp}{s:Ky}{R:It→Hp→Prop}{E:Gt→Ky→Prop}{lo hi:Int}{t u v:Tok}{tk:Nat}(I:Inv X pins σ H s)(h1: -(2^62)≤lo)(h2:lo<2^62)(h3: -(2^62)≤hi)(h4:hi<2^62)
  (q:R (Itr lo (hi- lo).toNat) H):wpAny (model X.prog X.w) X.A (pyIter (.ref s.heap.objs.size)) (PIE X pins σ tg R) E {s with heap:=s.heap.push {cls:=.type "range",data:=.fields #[.int lo t,.int hi u,.int 1 v]},toks:=tk}:=by
 refine wpAny_pyIter_range (IsRange.new ..) (small_one h1 h2 h3 h4) ?_
 have I1:Inv X pins σ H {s with heap:=s.heap.push {cls:=.type "range",data:=.fields #[.int lo t,.int hi u,.int 1 v]},toks:=tk}:=I.kept fun b o e=>gV _ e
 refine⟨(s.heap.push {cls:=.type "range",data:=.fields #[.int lo t,.int hi u,.int 1 v]}).objs.size,[(s.heap.push {cls:=.type "range",data:=.fields #[.int lo t,.int hi u,.int 1 v]}).objs.size],_,_,H,rfl,
  I1.kept (t':=tk) fun b o e=>gV _ e,ug _ lo (hi- lo).toNat,?_,fun b hb=>?_,q⟩
 ·have e1:lo+((0:Nat):Int)*1=lo:=by simp
  have e2:(((hi- lo).toNat:Nat):Int)- ((0:Nat):Int)=UZ lo hi 1:=by rw[rangeSize_one];split<;>omega
  show IsRangeIter _ _ (lo+((0:Nat):Int)*1) ((((hi- lo).toNat:Nat):Int)- ((0:Nat):Int)) 1
  rw[e1,e2]
  exact KG _ rfl
 ·have e:b=(s.heap.push {cls:=.type "range",data:=.fields #[.int lo t,.int hi u,.int 1 v]}).objs.size:=by simpa using hb
  subst e
  exact I1.fpOk (KA _) (I1.hok.fresh (KA _))
def pP (ta:TA):TI:=fun σ H R=>ta σ H fun vs H1=>∃j:Int,vs=[.int j]∧ -(2^62)≤j∧j<2^62∧R (Itr 0 j.toNat) H1
def uI (ta:TA):TI:=fun σ H R=>ta σ H fun vs H1=>∃i j:Int,vs=[.int i,.int j]∧(-(2^62)≤i∧i<2^62∧ -(2^62)≤j∧j<2^62)∧R (Itr i (j- i).toNat) H1
theorem vx {a:Expr}{ta:TA}{p pos:Pos}(hg:Gl X "range")(hm:X.mg "range"=none)(ha:PA X [a] ta)(hs:starEach [a] X.env=[(false,eval a X.env)]:=by rfl):PI X tg (.Call (.Name "range" p) [a] [] pos) (pP ta):=by
 intro pins s σ H R I h
 refine Call_ (eJ I hg hm boot_range (LK (thn (ha pos pins s σ H _ I h) fun us s1 ⟨vs,H1,I1,r1,q1⟩=>?_) hs rfl))
 obtain⟨j,e,q1,q2,q⟩:=q1
 subst e
 cases r1 with
 |cons r rr=>
  cases rr
  obtain⟨t,rfl⟩:=r
  exact call_range_1 (rk I1 (by omega) (by omega) q1 q2 (by simpa using q))
theorem wN {a b:Expr}{ta:TA}{p pos:Pos}(hg:Gl X "range")(hm:X.mg "range"=none)(ha:PA X [a,b] ta)(hs:starEach [a,b] X.env=[(false,eval a X.env),(false,eval b X.env)]:=by rfl)(hs2:starEach [b] X.env=[(false,eval b X.env)]:=by rfl):
  PI X tg (.Call (.Name "range" p) [a,b] [] pos) (uI ta):=by
 intro pins s σ H R I h
 refine Call_ (eJ I hg hm boot_range (LK (thn (ha pos pins s σ H _ I h) fun us s1 ⟨vs,H1,I1,r1,q1⟩=>?_) (by rw[hs,hs2]) (by rw[hs2];rfl)))
 obtain⟨i,j,e,⟨q1,q2,q3,q4⟩,q⟩:=q1
 subst e
 cases r1 with
 |cons r rr=>
  cases rr with
  |cons r' rr=>
   cases rr
   obtain⟨t,rfl⟩:=r
   obtain⟨t',rfl⟩:=r'
   exact call_range_2 (rk I1 q1 q2 q3 q4 q)
def jC (wi:TI)(g:TG)(tb:TS):TS:=fun D σ H=>wi σ H fun J H1=>∃W:Nat→Nat→St→Hp→Prop,(∃m,W 0 m σ H1)∧∀i m σ H,W i m σ H→
 (J.stop i H∧D.nx σ H)∨(J.go i H∧∃N:St→Hp→Prop,(∀σ' H',N σ' H'→∃m',m'<m∧W (i+1) m' σ' H')∧∀x H',J.yld i H x H'→g x σ H' fun σ2 H2=>tb {D with nx:=N,ct:=N,bk:=D.nx} σ2 H2)
def jR (fp:List Addr)(h:Heap):List (Addr×Obj):=fp.filterMap fun b=>(h.get? b).map fun o=>(b,o)
theorem gC {fp:List Addr}{h:Heap}{b:Addr}{o:Obj}(hb:b∈fp)(e:h.get? b=some o):(b,o)∈jR fp h:=Ta.mpr ⟨b,hb,by rw[e];rfl⟩
theorem vt {fp:List Addr}{h:Heap}{p:Addr×Obj}(hp:p∈jR fp h):p.1∈fp∧h.get? p.1=some p.2:=by
 obtain⟨b,hb,e⟩:=Ta.mp hp
 cases q:h.get? b with
 |none=>rw[q]at e;cases e
 |some o=>
  rw[q]at e
  have e':(b,o)=p:=KL e
  subst e'
  exact⟨hb,q⟩
theorem Inv.pinned {pins:List (Addr×Obj)}{σ:St}{H:Hp}{s:Ky}{fp:List Addr}(I:Inv X pins σ H s)(hf:∀b∈fp,kF X pins H b)(ho:∀b∈fp,∃o,s.heap.get? b=some o∧∀v,o.data≠.cell v):Inv X (pins++jR fp s.heap) σ H s:=
 I.pins_of fun p hp=>(LY.mp hp).elim (fun z=>I.pin p (LR _ z)) fun z=>by
  obtain⟨hb,e⟩:=vt z
  obtain⟨f0,f1,f2,_⟩:=hf p.1 hb
  obtain⟨o,e',d⟩:=ho p.1 hb
  rw[e]at e';cases e'
  exact⟨e,f0,f1,f2,d⟩
theorem Inv.unpinned {pins pl:List (Addr×Obj)}{σ:St}{H:Hp}{s:Ky}(I:Inv X (pins++pl) σ H s):Inv X pins σ H s:=I.pins_of fun p hp=>I.pin p (LR _ (On _ hp))
theorem DD {iter:Expr}{body:List Stmt}{wi:TI}{g:TG}{tb:TS}{pos:Pos}(hp:Tu (model X.prog X.w) X.A X.env X.xe)(hc:X.calm=true)(hi:PI X tg iter wi)(hg:PG X tg g)(hb:PSs X body tb)
  (hs:∀x,foldedSetIterable iter X.env x=pure x:=by intro _;rfl):PS X (.For tg iter body [] pos) (jC wi g tb):=by
 intro pins s σ H D I h
 refine wpAny_For (thn (hi pins s σ H _ I h) fun v s1 h1=>thn h1 fun itv s2 h2=>?_) hs
 obtain⟨it,fp,tn,J,H2,e,I2,T,st2,f2,W,⟨m0,w0⟩,turn⟩:=h2
 subst e
 have stat:∀{H':Hp},(∀b∈fp,H' b=none)→∀b∈fp,kF X pins H' b:=fun hn b hb=>⟨hn b hb,(f2 b hb).2⟩
 refine codeAny_forLoop_any (fun n s'=>∃i σ' H',Inv X pins σ' H' s'∧tn i s'.heap∧(∀b∈fp,H' b=none)∧W i n σ' H') ?_ m0 ⟨0,σ,H2,I2,st2,fun b hb=>(f2 b hb).1,w0⟩
 rintro n s3 ⟨i,σ3,H3,I3,st3,fr3,w3⟩
 rcases turn i n σ3 H3 w3 with⟨stop,qn⟩|⟨go,N,hN,step⟩
 ·refine NI hp (thn (T.done X rfl rfl rfl hc i pins s3 σ3 H3 X.xe I3 (stat fr3) st3 stop) fun r s4 ⟨hr,I4⟩=>?_)
  subst hr
  exact OJ ⟨σ3,H3,I4,qn⟩
 ·refine NI hp (thn (T.item X rfl rfl rfl hc i pins s3 σ3 H3 X.xe I3 (stat fr3) st3 go) fun r s4 ⟨u,hr,h4⟩=>?_)
  subst hr
  refine NI hp (thn h4 fun _ s5 ⟨x,H5,I5,r5,y5,st5,fr5⟩=>?_)
  have I5':=I5.pinned (stat fr5) (T.obj _ _ st5)
  refine NI hp (thn (hg _ s5 σ3 H5 x u _ I5' r5 (step x H5 y5)) fun _ s6 ⟨σ6,H6,I6,q6⟩=>?_)
  refine NI hp (thn (hb _ s6 σ6 H6 _ I6 q6) fun f s7 q7=>?_)
  have again:∀{σ7:St}{H7:Hp},Inv X (pins++jR fp s5.heap) σ7 H7 s7→N σ7 H7→∃m,m<n∧∃i σ' H',Inv X pins σ' H' s7∧tn i s7.heap∧(∀b∈fp,H' b=none)∧W i m σ' H':=fun{σ7 H7} I7 n7=>by
   obtain⟨m',hm,w7⟩:=hN σ7 H7 n7
   refine⟨m',hm,i+1,σ7,H7,I7.unpinned,T.keep _ _ _ st5 fun b hb o e=>(I7.pin (b,o) (LR _ (LR _ (gC hb e)))).1,fun b hb=>?_,w7⟩
   obtain⟨o,e,d⟩:=T.obj _ _ st5 b hb
   exact(I7.pin (b,o) (LR _ (LR _ (gC hb e)))).2.1
  cases f with
  |next=>obtain⟨σ7,H7,I7,n7⟩:=q7;exact again I7 n7
  |cont=>obtain⟨σ7,H7,I7,n7⟩:=q7;exact again I7 n7
  |brk=>obtain⟨σ7,H7,I7,q7⟩:=q7;exact⟨σ7,H7,I7.unpinned,q7⟩
  |ret v=>obtain⟨x7,σ7,H7,I7,r7,q7⟩:=q7;exact⟨x7,σ7,H7,I7.unpinned,r7,q7⟩
end
theorem jH {K:tx}{a:Addr}{xs:List V}{g:TG}{tb:TS}{D:gn}{σ:St}{H:Hp}(Pv:Nat→St→Hp→Prop)(h0:Pv 0 σ H)(hl:∀i σ H,i≤xs.length→Pv i σ H→SqL K H a xs)
  (hs:∀i x σ H,xs[i]?=some x→Pv i σ H→g x σ H fun σ2 H2=>tb {D with nx:=Pv (i+1),ct:=Pv (i+1),bk:=D.nx} σ2 H2)(hd:∀σ H,Pv xs.length σ H→D.nx σ H):
  ∃W:Nat→Nat→St→Hp→Prop,(∃m,W 0 m σ H)∧∀i m σ H,W i m σ H→
   ((Itl K a).stop i H∧D.nx σ H)∨((Itl K a).go i H∧∃N:St→Hp→Prop,(∀σ' H',N σ' H'→∃m',m'<m∧W (i+1) m' σ' H')∧∀x H',(Itl K a).yld i H x H'→g x σ H' fun σ2 H2=>tb {D with nx:=N,ct:=N,bk:=D.nx} σ2 H2):=by
 refine⟨fun i m σ H=>m=xs.length- i∧i≤xs.length∧Pv i σ H,⟨xs.length,by simp,Ly _,h0⟩,?_⟩
 rintro i m σ H ⟨rfl,hi,p⟩
 have q:=hl i σ H hi p
 by_cases hlt:i<xs.length
 ·refine .inr ⟨⟨xs,xs[i],q,by simp[hlt]⟩,Pv (i+1),fun σ' H' p'=>⟨xs.length- (i+1),by omega,rfl,hlt,p'⟩,fun x H' y=>?_⟩
  obtain⟨e,y⟩:=y
  subst e
  exact hs i x σ _ (y xs q) p
 ·have e:i=xs.length:=by omega
  subst e
  exact .inl ⟨⟨xs,q,KA _⟩,hd σ H p⟩
theorem Bn {K:tx}{a:Addr}{xs:List V}{g:TG}{tb:TS}{D:gn}{σ:St}{H:Hp}(Pv:Nat→St→Hp→Prop)(h0:Pv 0 σ H)(hl:∀i σ H,i≤xs.length→Pv i σ H→SqT K H a xs)
  (hs:∀i x σ H,xs[i]?=some x→Pv i σ H→g x σ H fun σ2 H2=>tb {D with nx:=Pv (i+1),ct:=Pv (i+1),bk:=D.nx} σ2 H2)(hd:∀σ H,Pv xs.length σ H→D.nx σ H):
  ∃W:Nat→Nat→St→Hp→Prop,(∃m,W 0 m σ H)∧∀i m σ H,W i m σ H→
   ((Itt K a).stop i H∧D.nx σ H)∨((Itt K a).go i H∧∃N:St→Hp→Prop,(∀σ' H',N σ' H'→∃m',m'<m∧W (i+1) m' σ' H')∧∀x H',(Itt K a).yld i H x H'→g x σ H' fun σ2 H2=>tb {D with nx:=N,ct:=N,bk:=D.nx} σ2 H2):=by
 refine⟨fun i m σ H=>m=xs.length- i∧i≤xs.length∧Pv i σ H,⟨xs.length,by simp,Ly _,h0⟩,?_⟩
 rintro i m σ H ⟨rfl,hi,p⟩
 have q:=hl i σ H hi p
 by_cases hlt:i<xs.length
 ·refine .inr ⟨⟨xs,xs[i],q,by simp[hlt]⟩,Pv (i+1),fun σ' H' p'=>⟨xs.length- (i+1),by omega,rfl,hlt,p'⟩,fun x H' y=>?_⟩
  obtain⟨e,y⟩:=y
  subst e
  exact hs i x σ _ (y xs q) p
 ·have e:i=xs.length:=by omega
  subst e
  exact .inl ⟨⟨xs,q,KA _⟩,hd σ H p⟩
theorem vV {lo:Int}{n:Nat}{g:TG}{tb:TS}{D:gn}{σ:St}{H:Hp}(Pv:Nat→St→Hp→Prop)(h0:Pv 0 σ H)
  (hs:∀i σ H,i<n→Pv i σ H→g (.int (lo+i)) σ H fun σ2 H2=>tb {D with nx:=Pv (i+1),ct:=Pv (i+1),bk:=D.nx} σ2 H2)(hd:∀σ H,Pv n σ H→D.nx σ H):
  ∃W:Nat→Nat→St→Hp→Prop,(∃m,W 0 m σ H)∧∀i m σ H,W i m σ H→
   ((Itr lo n).stop i H∧D.nx σ H)∨((Itr lo n).go i H∧∃N:St→Hp→Prop,(∀σ' H',N σ' H'→∃m',m'<m∧W (i+1) m' σ' H')∧∀x H',(Itr lo n).yld i H x H'→g x σ H' fun σ2 H2=>tb {D with nx:=N,ct:=N,bk:=D.nx} σ2 H2):=by
 refine⟨fun i m σ H=>m=n- i∧i≤n∧Pv i σ H,⟨n,by simp,Ly _,h0⟩,?_⟩
 rintro i m σ H ⟨rfl,hi,p⟩
 by_cases hlt:i<n
 ·refine .inr ⟨hlt,Pv (i+1),fun σ' H' p'=>⟨n- (i+1),by omega,rfl,hlt,p'⟩,fun x H' y=>?_⟩
  obtain⟨e,y⟩:=y
  subst e y
  exact hs i σ _ hlt p
 ·have e:i=n:=by omega
  subst e
  exact .inl ⟨KA _,hd σ H p⟩
abbrev R2:=V→V→Hp→VK→Prop
def OpR (X:Cx)(f:Gt→Gt→Sem Gt)(r:R2):Prop:=
 ∀(pins:List (Addr×Obj))(s:Ky)(σ:St)(H:Hp)(x y:V)(v u:Gt)(Q:VK),Inv X pins σ H s→aK x v→aK y u→r x y H Q→
  wpAny (model X.prog X.w) X.A (f v u) (EP X pins σ Q) X.xe s
def UnR (X:Cx)(f:Gt→Sem Gt)(r:V→Hp→VK→Prop):Prop:=
 ∀(pins:List (Addr×Obj))(s:Ky)(σ:St)(H:Hp)(x:V)(v:Gt)(Q:VK),Inv X pins σ H s→aK x v→r x H Q→
  wpAny (model X.prog X.w) X.A (f v) (EP X pins σ Q) X.xe s
def bC (X:Cx)(f:Gt)(r:List V→Hp→VK→Prop):Prop:=
 ∀(pins:List (Addr×Obj))(s:Ky)(σ:St)(H:Hp)(xs:List V)(us:List Gt)(Q:VK),Inv X pins σ H s→aO xs us→r xs H Q→
  wpAny (model X.prog X.w) X.A (call f us) (EP X pins σ Q) X.xe s
def Kk (X:Cx)(r:V→Hp→(Bool→Hp→Prop)→Prop):Prop:=
 ∀(pins:List (Addr×Obj))(s:Ky)(σ:St)(H:Hp)(x:V)(v:Gt)(Q:Bool→Hp→Prop),Inv X pins σ H s→aK x v→r x H Q→
  wpAny (model X.prog X.w) X.A (truthy v) (TP X pins σ Q) X.xe s
def tOp (r:R2)(ta tb:TE):TE:=fun σ H Q=>ta σ H fun x H1=>tb σ H1 fun y H2=>r x y H2 Q
def tUn (r:V→Hp→VK→Prop)(ta:TE):TE:=fun σ H Q=>ta σ H fun x H1=>r x H1 Q
def rI (C:Int→Int→Prop)(g:Int→Int→V):R2:=fun x y H Q=>∃i j,x=.int i∧y=.int j∧C i j∧Q (g i j) H
def rI0 (g:Int→Int→V):R2:=fun x y H Q=>∃i j,x=.int i∧y=.int j∧Q (g i j) H
def rU (g:Int→V):V→Hp→VK→Prop:=fun x H Q=>∃i,x=.int i∧Q (g i) H
section
variable {X:Cx}{a b c:Expr}{ta tb tc:TE}{pos:Pos}
theorem yO (ha:PE X a ta)(hb:PE X b tb){pins:List (Addr×Obj)}{s:Ky}{σ:St}{H:Hp}{R:V→V→Hp→Prop}(I:Inv X pins σ H s)
  (h:ta σ H fun x H1=>tb σ H1 fun y H2=>R x y H2){Q:Gt→Ky→Prop}{f:Gt→Gt→Sem Gt}
  (hf:∀v u s2 x y H2,Inv X pins σ H2 s2→aK x v→aK y u→R x y H2→wpAny (model X.prog X.w) X.A (f v u) Q X.xe s2):
  wpAny (model X.prog X.w) X.A (eval a X.env) (fun v s₁=>wpAny (model X.prog X.w) X.A (eval b X.env) (fun u s₂=>wpAny (model X.prog X.w) X.A (f v u) Q X.xe s₂) X.xe s₁) X.xe s:=by
 refine thn (ha pins s σ H _ I h) fun v s1 ⟨x,H1,I1,r1,q1⟩=>?_
 refine thn (hb pins s1 σ H1 _ I1 q1) fun u s2 ⟨y,H2,I2,r2,q2⟩=>?_
 exact hf v u s2 x y H2 I2 r1 r2 q2
theorem HK {op:Operator}{r:R2}(ho:OpR X (binaryOp op) r)(ha:PE X a ta)(hb:PE X b tb):PE X (.BinOp a op b pos) (tOp r ta tb):=by
 intro pins s σ H Q I h
 exact wpAny_BinOp (yO ha hb I h fun v u s2 x y H2 I2 rx ry q=>ho pins s2 σ H2 x y v u Q I2 rx ry q)
theorem Gb {op:UnaryOp}{r:V→Hp→VK→Prop}(ho:UnR X (unaryOp op) r)(ha:PE X a ta):PE X (.UnaryOp op a pos) (tUn r ta):=by
 intro pins s σ H Q I h
 exact UnaryOp_ (thn (ha pins s σ H _ I h) fun v s1 ⟨x,H1,I1,r1,q1⟩=>ho pins s1 σ H1 x v Q I1 r1 q1)
theorem opI {f:Gt→Gt→Sem Gt}{C:Int→Int→Prop}{g:Int→Int→Int}
  (rule:∀(i j:Int)(t u:Tok)(s:Ky)(Q:Gt→Ky→Prop)(E:Gt→Ky→Prop),C i j→Q (.int (g i j) s.toks) {s with toks:=s.toks+1}→wpAny (model X.prog X.w) X.A (f (.int i t) (.int j u)) Q E s):
  OpR X f (rI C fun i j=>.int (g i j)):=by
 intro pins s σ H x y v u Q I rx ry h
 obtain⟨i,j,rfl,rfl,hc,q⟩:=h
 obtain⟨t,rfl⟩:=rx
 obtain⟨t',rfl⟩:=ry
 exact rule i j t t' s _ _ hc ⟨.int (g i j),H,I.tok _,⟨_,rfl⟩,q⟩
theorem ER {f:Gt→Gt→Sem Gt}{g:Int→Int→Int}
  (rule:∀(i j:Int)(t u:Tok)(s:Ky)(Q:Gt→Ky→Prop)(E:Gt→Ky→Prop),Q (.int (g i j) s.toks) {s with toks:=s.toks+1}→wpAny (model X.prog X.w) X.A (f (.int i t) (.int j u)) Q E s):
  OpR X f (rI0 fun i j=>.int (g i j)):=by
 intro pins s σ H x y v u Q I rx ry h
 obtain⟨i,j,rfl,rfl,q⟩:=h
 obtain⟨t,rfl⟩:=rx
 obtain⟨t',rfl⟩:=ry
 exact rule i j t t' s _ _ ⟨.int (g i j),H,I.tok _,⟨_,rfl⟩,q⟩
theorem tQ {f:Gt→Gt→Sem Gt}{g:Int→Int→Bool}
  (rule:∀(i j:Int)(t u:Tok)(s:Ky)(Q:Gt→Ky→Prop)(E:Gt→Ky→Prop),Q (.bool (g i j)) s→wpAny (model X.prog X.w) X.A (f (.int i t) (.int j u)) Q E s):
  OpR X f (rI0 fun i j=>.bl (g i j)):=by
 intro pins s σ H x y v u Q I rx ry h
 obtain⟨i,j,rfl,rfl,q⟩:=h
 obtain⟨t,rfl⟩:=rx
 obtain⟨t',rfl⟩:=ry
 exact rule i j t t' s _ _ ⟨.bl (g i j),H,I,rfl,q⟩
def DS (i j:Int):Prop:=0≤j∧j≤1000000∧i.natAbs<2^64
theorem Dl:OpR X (binaryOp .Add) (rI0 fun i j=>.int (i+j)):=ER fun _ _ _ _ _ _ _ q=>add_int q
theorem BU:OpR X (binaryOp .Sub) (rI0 fun i j=>.int (i- j)):=ER fun _ _ _ _ _ _ _ q=>sub_int q
theorem BA:OpR X (binaryOp .Mod) (rI (fun _ j=>0<j) fun i j=>.int (i%j)):=opI fun i j _ _ _ _ _ hc q=>by
 have h1:(0:Int)<j:=hc
 exact mod_int' (by omega) (by rw[Int.fmod_eq_emod_of_nonneg i (by omega)];exact q)
theorem EG:OpR X (binaryOp .Pow) (rI DS fun i j=>.int (i^j.toNat)):=opI fun _ _ _ _ _ _ _ hc q=>pow_int_small hc.1 hc.2.1 hc.2.2 q
theorem Cp:OpR X (binaryOp .LShift) (rI DS fun i j=>.int (i*2^j.toNat)):=opI fun _ _ _ _ _ _ _ hc q=>lshift_int_small hc.1 hc.2.1 hc.2.2 q
theorem unI {f:Gt→Sem Gt}{g:Int→Int}
  (rule:∀(i:Int)(t:Tok)(s:Ky)(Q:Gt→Ky→Prop)(E:Gt→Ky→Prop),Q (.int (g i) s.toks) {s with toks:=s.toks+1}→wpAny (model X.prog X.w) X.A (f (.int i t)) Q E s):
  UnR X f (rU fun i=>.int (g i)):=by
 intro pins s σ H x v Q I rx h
 obtain⟨i,rfl,q⟩:=h
 obtain⟨t,rfl⟩:=rx
 exact rule i t s _ _ ⟨.int (g i),H,I.tok _,⟨_,rfl⟩,q⟩
theorem CU:UnR X (unaryOp .USub) (rU fun i=>.int (-i)):=unI fun _ _ _ _ _ q=>neg_int q
end
def DQ:V→V→Bool
 |.non,.non=>true|.non,.int _=>true|.int _,.non=>true|.non,.bl _=>true|.bl _,.non=>true|.non,.str _=>true|.str _,.non=>true
 |.int _,.int _=>true|.bl _,.bl _=>true|.str _,.str _=>true|.byt _,.byt _=>true
 |.int _,.str _=>true|.str _,.int _=>true|.bl _,.str _=>true|.str _,.bl _=>true
 |_,_=>false
def rEq:R2:=fun x y H Q=>DQ x y=true∧Q (.bl (decide (x=y))) H
def rNe:R2:=fun x y H Q=>DQ x y=true∧Q (.bl (!decide (x=y))) H
theorem sV {i j:Int}:decide (V.int i=V.int j)=(i==j):=by
 rw[Oy]
 simp
theorem wB {i j:Bool}:decide (V.bl i=V.bl j)=(i==j):=by
 rw[Oy]
 simp
theorem sH {i j:Str}:decide (V.str i=V.str j)=(i==j):=by
 rw[Oy]
 simp
theorem sL {i j:Array UInt8}:decide (V.byt i=V.byt j)=(i.toList==j.toList):=by
 rw[Oy]
 cases i
 cases j
 simp
section
variable {X:Cx}{a b c:Expr}{ta tb tc:TE}{pos:Pos}
theorem bi {pins:List (Addr×Obj)}{σ:St}{H:Hp}{s:Ky}{Q:VK}{k k':Bool}(I:Inv X pins σ H s)(q:Q (.bl k) H)(e:k=k'):EP X pins σ Q (.bool k') s:=by
 subst e
 exact⟨.bl k,H,I,rfl,q⟩
theorem HJ:OpR X (compareOp .Eq) rEq:=by
 intro pins s σ H x y v u Q I rx ry h
 obtain⟨hs,q⟩:=h
 cases x with
 |non=>
  cases rx
  cases y with
  |non=>cases ry;exact PySem.EqNone.eq_none_none (bi I q (by simp))
  |bl j=>cases ry;exact PySem.EqNone.eq_none_bool (bi I q (by simp))
  |int j=>obtain⟨t',rfl⟩:=ry;exact PySem.EqNone.eq_none_int (bi I q (by simp))
  |str j=>obtain⟨t',rfl⟩:=ry;exact PySem.EqNone.eq_none_str (bi I q (by simp))
  |_=>exact absurd (show false=true from hs) KN
 |bl i=>
  cases rx
  cases y with
  |non=>cases ry;exact PySem.EqNone.eq_bool_none (bi I q (by simp))
  |bl j=>cases ry;exact eq_bool (bi I q wB)
  |str j=>obtain⟨t',rfl⟩:=ry;exact UV (bi I q (by simp))
  |_=>exact absurd (show false=true from hs) KN
 |int i=>
  obtain⟨t,rfl⟩:=rx
  cases y with
  |non=>cases ry;exact PySem.EqNone.eq_int_none (bi I q (by simp))
  |int j=>obtain⟨t',rfl⟩:=ry;exact eq_int (bi I q sV)
  |str j=>obtain⟨t',rfl⟩:=ry;exact UU (bi I q (by simp))
  |_=>exact absurd (show false=true from hs) KN
 |str i=>
  obtain⟨t,rfl⟩:=rx
  cases y with
  |non=>cases ry;exact PySem.EqNone.eq_str_none (bi I q (by simp))
  |bl j=>cases ry;exact UT (bi I q (by simp))
  |int j=>obtain⟨t',rfl⟩:=ry;exact US (bi I q (by simp))
  |str j=>obtain⟨t',rfl⟩:=ry;exact eq_str (bi I q sH)
  |_=>exact absurd (show false=true from hs) KN
 |byt i=>
  obtain⟨t,rfl⟩:=rx
  cases y with
  |byt j=>obtain⟨t',rfl⟩:=ry;exact W.eq_bytes (bi I q sL)
  |_=>exact absurd (show false=true from hs) KN
 |_=>cases y<;>exact absurd (show false=true from hs) KN
theorem FA:OpR X (compareOp .NotEq) rNe:=by
 intro pins s σ H x y v u Q I rx ry h
 obtain⟨hs,q⟩:=h
 cases x with
 |non=>
  cases rx
  cases y with
  |non=>cases ry;exact PySem.EqNone.ne_none_none (bi I q (by simp))
  |bl j=>cases ry;exact PySem.EqNone.ne_none_bool (bi I q (by simp))
  |int j=>obtain⟨t',rfl⟩:=ry;exact PySem.EqNone.ne_none_int (bi I q (by simp))
  |str j=>obtain⟨t',rfl⟩:=ry;exact PySem.EqNone.ne_none_str (bi I q (by simp))
  |_=>exact absurd (show false=true from hs) KN
 |bl i=>
  cases rx
  cases y with
  |non=>cases ry;exact PySem.EqNone.ne_bool_none (bi I q (by simp))
  |bl j=>cases ry;exact ne_bool (bi I q (congrArg not wB))
  |str j=>obtain⟨t',rfl⟩:=ry;exact UR (bi I q (by simp))
  |_=>exact absurd (show false=true from hs) KN
 |int i=>
  obtain⟨t,rfl⟩:=rx
  cases y with
  |non=>cases ry;exact PySem.EqNone.ne_int_none (bi I q (by simp))
  |int j=>obtain⟨t',rfl⟩:=ry;exact ne_int (bi I q (congrArg not sV))
  |str j=>obtain⟨t',rfl⟩:=ry;exact UQ (bi I q (by simp))
  |_=>exact absurd (show false=true from hs) KN
 |str i=>
  obtain⟨t,rfl⟩:=rx
  cases y with
  |non=>cases ry;exact PySem.EqNone.ne_str_none (bi I q (by simp))
  |bl j=>cases ry;exact UP (bi I q (by simp))
  |int j=>obtain⟨t',rfl⟩:=ry;exact UO (bi I q (by simp))
  |str j=>obtain⟨t',rfl⟩:=ry;exact ne_str (bi I q (congrArg not sH))
  |_=>exact absurd (show false=true from hs) KN
 |byt i=>
  obtain⟨t,rfl⟩:=rx
  cases y with
  |byt j=>obtain⟨t',rfl⟩:=ry;exact W.ne_bytes (bi I q (congrArg not sL))
  |_=>exact absurd (show false=true from hs) KN
 |_=>cases y<;>exact absurd (show false=true from hs) KN
theorem FR:OpR X (compareOp .Lt) (rI0 fun i j=>.bl (decide (i<j))):=tQ fun _ _ _ _ _ _ _ q=>lt_int q
theorem FD:OpR X (compareOp .LtE) (rI0 fun i j=>.bl (decide (i≤j))):=tQ fun _ _ _ _ _ _ _ q=>le_int q
theorem FW:OpR X (compareOp .Gt) (rI0 fun i j=>.bl (decide (j<i))):=tQ fun _ _ _ _ _ _ _ q=>gt_int q
theorem FQ:OpR X (compareOp .GtE) (rI0 fun i j=>.bl (decide (j≤i))):=tQ fun _ _ _ _ _ _ _ q=>ge_int q
theorem vX:OpR X (compareOp .In) (fun x y H Q=>∃i j,x=.str i∧y=.str j∧Q (.bl (!(Qu j i 0 j.length 1).isEmpty)) H):=by
 intro pins s σ H x y v u Q I rx ry h
 obtain⟨i,j,rfl,rfl,q⟩:=h
 obtain⟨t,rfl⟩:=rx
 obtain⟨t',rfl⟩:=ry
 exact in_str (bi I q rfl)
theorem Bh:OpR X (compareOp .IsNot) (fun x y H Q=>y=.non∧Q (.bl (!decide (x=.non))) H):=by
 intro pins s σ H x y v u Q I rx ry h
 obtain⟨rfl,q⟩:=h
 cases ry
 refine isnot_none_gen (bi I q ?_)
 cases x<;>first
  |(cases rx;rfl)
  |(obtain⟨t,rfl⟩:=rx;rfl)
theorem OpR.or {f:Gt→Gt→Sem Gt}{r r':R2}(h:OpR X f r)(h':OpR X f r'):OpR X f (fun x y H Q=>r x y H Q∨r' x y H Q):=by
 intro pins s σ H x y v u Q I rx ry q
 rcases q with q|q
 ·exact h pins s σ H x y v u Q I rx ry q
 ·exact h' pins s σ H x y v u Q I rx ry q
theorem mh (b:Expr){op:Tv}(h:op≠.In:=by decide)(h2:op≠.NotIn:=by decide):behindInMarks op b=false:=by
 have e1:(op==CmpOp.In)=false:=by cases op<;>first|rfl|exact absurd rfl h
 have e2:(op==CmpOp.NotIn)=false:=by cases op<;>first|rfl|exact absurd rfl h2
 cases b<;>simp[behindInMarks,e1,e2]
theorem Al {op:Tv}{r:R2}(ho:OpR X (compareOp op) r)(ha:PE X a ta)(hb:PE X b tb)(hm:behindInMarks op b=false):PE X (.Compare a [op] [b] pos) (tOp r ta tb):=by
 intro pins s σ H Q I h
 exact wpAny_Compare1 (yO ha hb I h fun v u s2 x y H2 I2 rx ry q=>ho pins s2 σ H2 x y v u Q I2 rx ry q) hm
def Dq (K:tx)(x:V)(H:Hp)(k:Bool):Prop:=
 match x with
 |.non=>k=false
 |.bl b=>k=b
 |.int i=>k=(i !=0)
 |.str y=>y.length≤sizeLine∧k=((y.length:Int) !=0)
 |.byt y=>y.size≤sizeLine∧k=((y.size:Int) !=0)
 |.ref p=>(∃xs,SqL K H p xs∧k= !xs.isEmpty)∨(∃xs,SqT K H p xs∧k= !xs.isEmpty)∨∃kvs,H p=some (.dK kvs)∧k= !kvs.isEmpty
 |_=>False
theorem ul {κ:Type}{kvs:List (κ×V)}{vs:List (κ×Gt)}(r:KV kvs vs):(!vs.isEmpty)= !kvs.isEmpty:=by
 cases r<;>rfl
theorem md {xs:List V}{its:List Gt}(r:aO xs its):(!its.toArray.isEmpty)= !xs.isEmpty:=by
 cases r<;>simp
theorem iL:(sizeLine:Nat)<2^63:=by rw[Mt];decide
theorem ES:Kk X (fun x H Q=>∃k,Dq X.K x H k∧Q k H):=by
 intro pins s σ H x v Q I rx h
 obtain⟨k,e,q⟩:=h
 have hl:=iL
 have hs:sizeLine=16777216:=Mt
 cases x with
 |non=>
  cases rx
  have e':k=false:=e
  subst e'
  exact truthy_none ⟨H,I,q⟩
 |bl b=>
  cases rx
  have e':k=b:=e
  subst e'
  exact Nl ⟨H,I,q⟩
 |int i=>
  obtain⟨t,rfl⟩:=rx
  have e':k=(i !=0):=e
  subst e'
  exact PySem.P.truthy_int ⟨H,I,q⟩
 |str y=>
  obtain⟨t,rfl⟩:=rx
  obtain⟨hy,e'⟩:y.length≤sizeLine∧k=((y.length:Int) !=0):=e
  subst e'
  exact PySem.P.truthy_str (by omega) ⟨H,I.tok _,q⟩
 |byt y=>
  obtain⟨t,rfl⟩:=rx
  obtain⟨hy,e'⟩:y.size≤sizeLine∧k=((y.size:Int) !=0):=e
  subst e'
  exact W.truthy_bytes (by omega) ⟨H,I.tok _,q⟩
 |ref p=>
  cases rx
  have e':(∃xs,SqL X.K H p xs∧k= !xs.isEmpty)∨(∃xs,SqT X.K H p xs∧k= !xs.isEmpty)∨∃kvs,H p=some (.dK kvs)∧k= !kvs.isEmpty:=e
  rcases e' with⟨xs,hx,e'⟩|⟨xs,hx,e'⟩|⟨kvs,hx,e'⟩
  ·subst e'
   obtain⟨its,r,pl,hz⟩:=I.list hx
   have hlen:=r.length
   exact wpAny_truthy_list pl.isList (by simp only[KH];omega) ⟨H,I.tok _,by rw[md r];exact q⟩
  ·subst e'
   obtain⟨its,r,pl,hz⟩:=I.tuple hx
   have hlen:=r.length
   exact truthy_tuple pl (by simp only[KH];omega) ⟨H,I.tok _,by rw[md r];exact q⟩
  ·subst e'
   obtain⟨hz,hS,vs,r,m⟩:kvs.length≤sizeLine∧(p==sysModules)=false∧∃vs,KV kvs vs∧s.heap.DictOf (bP X.prog X.w) p vs:=I.hok p _ hx
   have hlen:kvs.length=vs.length:=Paired.length r
   exact wpAny_truthy_dict hS m (by omega) ⟨H,I.tok _,by rw[ul r];exact q⟩
 |_=>exact(show False from e).elim
theorem ui:OpR X (binaryOp .Add) (fun x y H Q=>∃i j,x=.str i∧y=.str j∧i.length+j.length≤sizeLine∧Q (.str (i++j)) H):=by
 intro pins s σ H x y v u Q I rx ry h
 obtain⟨i,j,rfl,rfl,hz,q⟩:=h
 obtain⟨t,rfl⟩:=rx
 obtain⟨t',rfl⟩:=ry
 exact add_str (fun t' tk=>⟨.str (i++j),H,I.tok _,⟨_,rfl⟩,q⟩) hz
theorem eN {x:V}{us:List Gt}(r:aO [x] us):∃u,us=[u]∧aK x u:=by
 cases r with
 |cons r1 r2=>cases r2;exact⟨_,rfl,r1⟩
theorem pq {x y:V}{us:List Gt}(r:aO [x,y] us):∃u w',us=[u,w']∧aK x u∧aK y w':=by
 cases r with
 |cons r1 r2=>
  cases r2 with
  |cons r3 r4=>cases r4;exact⟨_,_,rfl,r1,r3⟩
theorem wK (hc:X.calm=true):bC X (.builtin "min") (fun xs H Q=>∃i j,xs=[.int i,.int j]∧Q (.int (if j<i then j else i)) H):=by
 intro pins s σ H xs us Q I r h
 obtain⟨i,j,rfl,q⟩:=h
 obtain⟨u,w',rfl,⟨t,rfl⟩,⟨t',rfl⟩⟩:=pq r
 refine min_two_ints (I.ok.hd hc) fun h' tk k=>⟨_,H,I.kept k,?_,q⟩
 by_cases hj:j<i
 ·rw[if_pos hj,if_pos hj];exact⟨_,rfl⟩
 ·rw[if_neg hj,if_neg hj];exact⟨_,rfl⟩
theorem qk:bC X (.type "str") (fun xs H Q=>∃i,xs=[.int i]∧i.natAbs.log2<1920∧Q (.str (toString i)) H):=by
 intro pins s σ H xs us Q I r h
 obtain⟨i,rfl,hz,q⟩:=h
 obtain⟨u,rfl,t,rfl⟩:=eN r
 exact PySem.P.str_of_int hz ⟨.str _,H,I.tok _,⟨_,rfl⟩,q⟩
def Ji (K:tx)(x:V)(H:Hp)(n:Nat):Prop:=
 match x with
 |.str y=>y.length≤sizeLine∧n=y.length
 |.byt y=>y.size≤sizeLine∧n=y.size
 |.ref p=>(∃xs,SqL K H p xs∧n=xs.length)∨∃xs,SqT K H p xs∧n=xs.length
 |_=>False
theorem lQ:bC X (.builtin "len") (fun xs H Q=>∃x n,xs=[x]∧Ji X.K x H n∧Q (.int n) H):=by
 intro pins s σ H xs us Q I r h
 obtain⟨x,n,rfl,e,q⟩:=h
 obtain⟨u,rfl,rx⟩:=eN r
 have hl:=iL
 have hs:sizeLine=16777216:=Mt
 cases x with
 |str y=>
  obtain⟨t,rfl⟩:=rx
  obtain⟨hy,e'⟩:y.length≤sizeLine∧n=y.length:=e
  subst e'
  exact len_str (by omega) ⟨.int _,H,I.tok _,⟨_,rfl⟩,q⟩
 |byt y=>
  obtain⟨t,rfl⟩:=rx
  obtain⟨hy,e'⟩:y.size≤sizeLine∧n=y.size:=e
  subst e'
  exact W.len_bytes (by omega) ⟨.int _,H,I.tok _,⟨_,rfl⟩,q⟩
 |ref p=>
  cases rx
  have e':(∃xs,SqL X.K H p xs∧n=xs.length)∨∃xs,SqT X.K H p xs∧n=xs.length:=e
  rcases e' with⟨xs,hx,e'⟩|⟨xs,hx,e'⟩
  ·subst e'
   obtain⟨its,r',pl,hz⟩:=I.list hx
   have hlen:=r'.length
   exact Calls.call_len_list pl.isList (by simp only[KH];omega) ⟨.int xs.length,H,I.tok _,⟨_,by simp only[KH];rw[hlen]⟩,q⟩
  ·subst e'
   obtain⟨its,r',pl,hz⟩:=I.tuple hx
   have hlen:=r'.length
   exact len_tuple pl (by simp only[KH];omega) ⟨.int xs.length,H,I.tok _,⟨_,by simp only[KH];rw[hlen]⟩,q⟩
 |_=>exact(show False from e).elim
end
structure lK (h:Heap)(x dx C:Addr)(mA:Str→Option Gt):Prop where
 obj:h.get? x=some (OV C dx)
 ns:h.Ns1 dx mA
 ne:dx≠x
theorem wD {h:Heap}{dx:Addr}{mA:Str→Option Gt}(n:h.Ns1 dx mA):∃od,h.get? dx=some od∧∀name,TK name od=some (mA name):=by
 obtain⟨o,es,ep,ho,hd,hk,_,hm⟩:=n
 refine⟨o,ho,fun name=>?_⟩
 have e:=hm name
 unfold nsFind findBy at e
 rw[←Array.find?_toList]at e
 unfold TK
 rw[hd]
 dsimp only
 split
 ·rename_i y q
  rw[q]at e
  exact congrArg some e
 ·rename_i q
  rw[q]at e
  have a:es.toList.any (·.refKey)=false:=by
   rw[List.any_eq_false]
   intro y hy
   obtain⟨z,t,hkey⟩:=hk y (Array.mem_toList_iff.mp hy)
   simp[DictEntry.refKey,hkey]
  have a':¬es.toList.any (·.refKey)=true:=by rw[a];exact KN
  rw[if_neg a']
  exact congrArg some e
theorem lK.look {h:Heap}{x dx C:Addr}{mA:Str→Option Gt}(I:lK h x dx C mA):∃od,W.InstAt h x (OV C dx) C (some od)∧∀name,TK name od=some (mA name):=
 let ⟨od,ho,hl⟩:=wD I.ns
 ⟨od,⟨I.obj,rfl,rfl,ho⟩,hl⟩
section
variable {prog:KS}{w:LI}{A:Lj}{E:Gt→Ky→Prop}{s:Ky}{K:tx}{x dx C f:Addr}{mA:Str→Option Gt}{name:Str}{v:Gt}
theorem Ap {expr:Bool}{Q:Gt→Ky→Prop}(X:K.In s.heap)(I:lK s.heap x dx C mA)(hg:PQ K C name=true)(hh:Pg K C=true)
  (ha:Lr K (.ref C) name=some none)(hv:mA name=some v)(hv':W.handedIn v=true)(h:Q v {s with toks:=s.toks+1}):
  wpAny (model prog w) A (getAttr (.ref x) name expr) Q E s:=by
 obtain⟨od,J,hl⟩:=I.look
 exact W.get_value X J (Pe hg).1 (W.findObj_own hh ha rfl (by rw[hl,hv])) hv' h
theorem xL {pl:Sem Bool}{Q:Gt×List Gt→Ky→Prop}(X:K.In s.heap)(I:lK s.heap x dx C mA)(hg:PQ K C name=true)
  (hf:Lr K (.ref C) name=some (some (.ref f)))(ht:OO K (.ref f)=true)(hv:mA name=none)(h:Q (.ref f,[.ref x]) s):
  wpAny (model prog w) A (getMethod (.ref x) name pl) Q E s:=by
 obtain⟨od,J,hl⟩:=I.look
 exact W.method_fn X J (Pe hg).1 (Pe hg).2 hf (beq_iff_eq.mp ht) (by show(TK name od).map (·.isSome)=some false;rw[hl,hv];rfl) h
theorem Bi {ns:List Str}{Q:Unit→Ky→Prop}(X:K.In s.heap)(I:lK s.heap x dx C mA)
  (hs:Lr K (.ref C) "__setattr__"=some (some (.builtin "object.__setattr__")))(hp:Rw K C=true)(ht:UH K C name=some none)(hh:Pg K C=true)
  (hw:Qn mA ns)(hsz:ns.length≤sizeLine)
  (h:∀h',lK h' x dx C (fun y=>if y=name then some v else mA y)→MK dx s.heap h'→Q () {s with heap:=h',toks:=s.toks+2}):
  wpAny (model prog w) A (setAttr (.ref x) name v) Q E s:=by
 obtain⟨od,J,hl⟩:=I.look
 refine W.set_plain X J hs (W.osa_open (s:={s with toks:=s.toks+1}) (r:=none) X J hp ht fun b=>?_)
 obtain⟨cd,hc,hd'⟩:=W.any_some hh
 have hx:s.heap.get? x=some ⟨.ref C,some dx,.plain,#[]⟩:=I.obj
 refine cW (If (cW (cW (Sg hx (cW (W.Looks.here (s:={s with toks:=s.toks+1}) (W.looks_clsIn X hc) ?_))))))
 rw[hd']
 refine If (a:=some dx) (cW (If (cW ?_)))
 refine Tl (s:={s with toks:=s.toks+1}) I.ns fun h' hn2 hs2=>?_
 obtain⟨oD,esD,epD,hoD,hdD,hcD⟩:=hn2.count (QN name v hw)
 refine cW (Rt hoD (by rw[hdD];exact Ru (KR hcD (by rw[LO];omega))) ?_)
 exact If (h _ ⟨(hs2.2 _ (Lg I.ne)).trans I.obj,hn2,I.ne⟩ hs2)
theorem xf {R:Rj→Ky→Prop}{vs:List Gt}{kw:List (Str×Gt)}(X:K.In s.heap)(hm:SN K C=true)
  (hi:Lr K (.ref C) "__init__"=some (some (.ref f)))(hf:W.typeIn K (.ref f)=some (.type "function"))
  (h:codeAny (model prog w) (A.under (.builtin "type.__call__" ⟨.ref C::vs,kw⟩)) (.call (.ref f) ⟨.ref (s.heap.objs.size+1)::vs,kw⟩) (W.InitBack (s.heap.objs.size+1) R)
   {s with heap:=(s.heap.push NN).push (OV C s.heap.objs.size)}):
  codeAny (model prog w) A (.call (.ref C) ⟨vs,kw⟩) R s:=by
 obtain⟨hh,g,d,t,os⟩:=s
 exact W.make_core (W.makes_of X hm) (W.looks_findIn X hi) (fun self=>W.bind_fn X self hf) (.inl rfl) h
end
def dQ (f:Str)(v:V):List (Str×V)→List (Str×V)
 |[]=>[(f,v)]
 |(g,x)::r=>if g=f then(g,v)::r else(g,x)::dQ f v r
theorem iH (f g:Str)(v:V):∀fs:List (Str×V),(dQ f v fs).lookup g=if g=f then some v else fs.lookup g
 |[]=>by
  show My g [(f,v)]=_
  by_cases h:g=f
  ·have hb:(g==f)=true:=beq_iff_eq.mpr h
   simp only[My,hb,if_pos h]
  ·have hb:(g==f)=false:=beq_eq_false_iff_ne.mpr h
   simp only[My,hb,if_neg h]
 |(k,x)::r=>by
  have ih:=iH f g v r
  rw[show dQ f v ((k,x)::r)=(if k=f then(k,v)::r else(k,x)::dQ f v r)from rfl]
  by_cases hk:k=f
  ·rw[if_pos hk]
   by_cases h:g=k
   ·have hb:(g==k)=true:=beq_iff_eq.mpr h
    simp only[My,hb,if_pos (h.trans hk)]
   ·have hb:(g==k)=false:=beq_eq_false_iff_ne.mpr h
    simp only[My,hb,if_neg (fun e:g=f=>h (e.trans hk.symm))]
  ·rw[if_neg hk]
   by_cases h:g=k
   ·have hb:(g==k)=true:=beq_iff_eq.mpr h
    simp only[My,hb,if_neg (fun e:g=f=>hk (h.symm.trans e))]
   ·have hb:(g==k)=false:=beq_eq_false_iff_ne.mpr h
    simp only[My,hb]
    exact ih
theorem kh (f:Str)(v:V):∀fs:List (Str×V),f∈(dQ f v fs).map (·.1)∧∀g,g∈fs.map (·.1)→g∈(dQ f v fs).map (·.1)
 |[]=>⟨by simp[dQ],fun g h=>by simp at h⟩
 |(k,x)::r=>by
  obtain⟨i1,i2⟩:=kh f v r
  rw[show dQ f v ((k,x)::r)=(if k=f then(k,v)::r else(k,x)::dQ f v r)from rfl]
  by_cases hk:k=f
  ·rw[if_pos hk]
   subst hk
   exact⟨by simp,fun g h=>by simpa using h⟩
  ·rw[if_neg hk]
   refine⟨?_,fun g h=>?_⟩
   ·rw[Lm]
    exact KQ _ i1
   ·rw[Lm]at h⊢
    rcases KY.mp h with e|e
    ·exact KY.mpr (.inl e)
    ·exact KQ _ (i2 g e)
theorem lu (f:Str)(v:V):∀fs:List (Str×V),(dQ f v fs).length≤fs.length+1
 |[]=>by simp[dQ]
 |(k,x)::r=>by
  have ih:=lu f v r
  rw[show dQ f v ((k,x)::r)=(if k=f then(k,v)::r else(k,x)::dQ f v r)from rfl]
  by_cases hk:k=f
  ·rw[if_pos hk,LO,LO];omega
  ·rw[if_neg hk,LO,LO];omega
theorem cF.some_of {v:V}{o:Option Gt}(r:cF (some v) o):∃u,o=some u∧aK v u:=by
 cases o with
 |none=>exact(show False from r).elim
 |some u=>exact⟨u,rfl,r⟩
theorem cF.none_of {o:Option Gt}(r:cF none o):o=none:=by
 cases o with
 |none=>rfl
 |some u=>exact(show False from r).elim
theorem vQ {v:V}{u:Gt}(r:aK v u):W.handedIn u=true:=by
 cases v with
 |non=>cases (show u=Ml from r);rfl
 |bl b=>cases (show u=MJ b from r);rfl
 |int i=>obtain⟨t,e⟩:=(show ∃t,u=OL i t from r);cases e;rfl
 |str x=>obtain⟨t,e⟩:=(show ∃t,u=Oc x t from r);cases e;rfl
 |byt b=>obtain⟨t,e⟩:=(show ∃t,u=UJ b t from r);cases e;rfl
 |flt b=>obtain⟨t,e⟩:=(show ∃t,u=Sn b t from r);cases e;rfl
 |ref a=>cases (show u=KJ a from r);rfl
 |ty n=>cases (show u=Po n from r);rfl
section
variable {P:KS}{w:LI}{H H':Hp}{h h':Heap}{a C dx:Addr}{fs fs':List (Str×V)}
theorem ja (hok:HOk P w H h)(e:H a=some (.ins C dx fs)):∃mA,lK h a dx C mA∧(∀f,cF (fs.lookup f) (mA f))∧Qn mA (fs.map (·.1))∧fs.length≤1000∧H dx=some (.own a):=by
 obtain⟨d,z,ne,ob,mA,n,r,q⟩:=(show aT P w H h a (.ins C dx fs)from hok a _ e)
 exact⟨mA,⟨ob,n,ne⟩,r,q,z,d⟩
end
structure Cls (K:tx)(C:Addr):Prop where
 pg:PQ K C MP=true
 hd:Pg K C=true
 po:Rw K C=true
 sa:Lr K (.ref C) "__setattr__"=some (some (.builtin "object.__setattr__"))
theorem Cls.get {K:tx}{C:Addr}(c:Cls K C)(f:Str):PQ K C f=true:=c.pg
def dM (K:tx)(C:Addr)(f:Str):Prop:=Lr K (.ref C) f=some none
theorem dM.taker {K:tx}{C:Addr}{f:Str}(n:dM K C f):UH K C f=some none:=by
 unfold UH
 rw[show Lr K (.ref C) f=some none from n]
 rfl
structure gz (K:tx)(C:Addr)(m:Str)(f:Addr):Prop where
 at_:Lr K (.ref C) m=some (some (.ref f))
 fn:OO K (.ref f)=true
 kp:Oh K (.ref f)=true
section
variable {X:Cx}{pins:List (Addr×Obj)}{σ:St}{H:Hp}{s:Ky}{a C dx:Addr}{fs:List (Str×V)}{f:Str}{v:V}{A:Lj}{E:Gt→Ky→Prop}
theorem mr {b:Bool}{Q:Gt→Ky→Prop}(I:Inv X pins σ H s)(e:H a=some (.ins C dx fs))(c:Cls X.K C)(n:dM X.K C f)(l:fs.lookup f=some v)
  (h:∀u s',Inv X pins σ H s'→aK v u→Q u s'):wpAny (model X.prog X.w) A (getAttr (.ref a) f b) Q E s:=by
 obtain⟨mA,O,r,_,_,_⟩:=ja I.hok e
 obtain⟨u,hu,ru⟩:=cF.some_of (v:=v) (o:=mA f) (by rw[←l];exact r f)
 exact Ap I.kIn O (c.get f) c.hd n hu (vQ ru) (h u _ (I.tok _) ru)
theorem mM {m:Str}{g:Addr}{pl:Sem Bool}{Q:Gt×List Gt→Ky→Prop}(I:Inv X pins σ H s)(e:H a=some (.ins C dx fs))(c:Cls X.K C)(k:gz X.K C m g)(l:fs.lookup m=none)
  (h:Q (.ref g,[.ref a]) s):wpAny (model X.prog X.w) A (getMethod (.ref a) m pl) Q E s:=by
 obtain⟨mA,O,r,_,_,_⟩:=ja I.hok e
 have hn:mA m=none:=cF.none_of (by rw[←l];exact r m)
 exact xL I.kIn O (c.get m) k.at_ k.fn hn h
theorem tU {y:V}{u:Gt}{Q:Unit→Ky→Prop}(I:Inv X pins σ H s)(e:H a=some (.ins C dx fs))(c:Cls X.K C)(n:dM X.K C f)(hl:fs.length<1000)(ry:aK y u)
  (h:∀s',Inv X pins σ (upd H a (.ins C dx (dQ f y fs))) s'→Q () s'):wpAny (model X.prog X.w) A (setAttr (.ref a) f u) Q E s:=by
 obtain⟨mA,O,r,wi,_,ho⟩:=ja I.hok e
 have hz:(fs.map (·.1)).length≤sizeLine:=by rw[Kz,Mt];omega
 refine Bi I.kIn O c.sa c.po n.taker c.hd wi hz fun h' O' sb=>h _ ?_
 have hd:∃o,h'.get? dx=some o:=let ⟨o,_,_,e',_⟩:=O'.ns;⟨o,e'⟩
 refine I.write (x:=a) (e:=dx) (by rw[e];exact MF) (.inr ho) (fun b q hb z=>(sb.2 b hb).trans z) hd ?_
 refine⟨by rw[ao O.ne];exact ho,?_,O.ne,O'.obj,_,O'.ns,fun g=>?_,fun g hg=>?_⟩
 ·have:=lu f y fs;omega
 ·show cF ((dQ f y fs).lookup g) (if g=f then some u else mA g)
  rw[iH]
  by_cases q:g=f
  ·rw[if_pos q,if_pos q];exact ry
  ·rw[if_neg q,if_neg q];exact r g
 ·by_cases q:g=f
  ·rw[q];exact(kh f y fs).1
  ·refine(kh f y fs).2 g (wi g fun z=>hg ?_)
   show(if g=f then some u else mA g)=none
   rw[if_neg q];exact z
theorem Inv.made (I:Inv X pins σ H s):Inv X pins σ (upd (upd H s.heap.objs.size (.own (s.heap.objs.size+1))) (s.heap.objs.size+1) (.ins C s.heap.objs.size []))
  {s with heap:=(s.heap.push NN).push (OV C s.heap.objs.size)}:=by
 have e1:(s.heap.push NN).get? s.heap.objs.size=some NN:=KG s.heap rfl
 have e2:((s.heap.push NN).push (OV C s.heap.objs.size)).get? (s.heap.objs.size+1)=some (OV C s.heap.objs.size):=by
  have:=KG (s.heap.push NN) (o:=OV C s.heap.objs.size) rfl
  rwa [MY]at this
 have e3:(s.heap.push NN).Ns s.heap.objs.size (fun _=>none):=⟨NN,#[],_,e1,rfl,(fun e he=>absurd he (by simp)),fun _=>rfl⟩
 have I1:=I.laid (a:=s.heap.objs.size) (o:=.own (s.heap.objs.size+1)) (h':=s.heap.push NN) (t':=s.toks) (fun b u q=>gV _ q) (KA _) ⟨_,e1⟩
 refine I1.laid (a:=s.heap.objs.size+1) (o:=.ins C s.heap.objs.size []) (t':=s.toks) (fun b u q=>gV _ q) (PB (MY _ _)) ?_
 have ne:s.heap.objs.size≠s.heap.objs.size+1:=KZ (Ol _)
 refine⟨by rw[ao ne,ai],Ly _,ne,e2,fun _=>none,(RX e3).at fun o q=>gV _ q,fun _=>MF,fun y hy=>absurd rfl hy⟩
theorem AF {prog:KS}{w:LI}{env:Env}{e:Expr}{f:Str}{pos:Pos}{s:Ky}{Q:Gt→Ky→Prop}(hb:attributeBase e f env (eval e env)=eval e env)
  (h:wpAny (model prog w) A (eval e env) (fun o s₁=>wpAny (model prog w) A (getAttr o f true) Q E s₁) E s):wpAny (model prog w) A (eval (.Attribute e f pos) env) Q E s:=
 Attribute_any_ h (by rw[arm_eval_Attribute,hb])
end
def fj (K:tx)(ta:TE)(f:Str):TE:=fun σ H Q=>ta σ H fun x H1=>∃a C dx fs v,x=.ref a∧H1 a=some (.ins C dx fs)∧Cls K C∧dM K C f∧fs.lookup f=some v∧Q v H1
def mW (K:tx)(ta tv:TE)(f:Str):TS:=fun D σ H=>tv σ H fun y H1=>ta σ H1 fun x H2=>∃a C dx fs,x=.ref a∧H2 a=some (.ins C dx fs)∧Cls K C∧dM K C f∧fs.length<1000∧
 D.nx σ (upd H2 a (.ins C dx (dQ f y fs)))
section
variable {X:Cx}{o e value:Expr}{f:Str}{pos pos' tpos:Pos}{ta tv:TE}
theorem BL (he:PE X e ta)(hb:attributeBase e f X.env (eval e X.env)=eval e X.env):PE X (.Attribute e f pos) (fj X.K ta f):=by
 intro pins s σ H Q I h
 refine AF hb (thn (he pins s σ H _ I h) fun u s1 ⟨x,H1,I1,rx,a,C,dx,fs,v,ex,ea,c,n,l,q⟩=>?_)
 subst ex
 obtain rfl:u=KJ a:=rx
 exact mr I1 ea c n l fun u' s2 I2 ru=>⟨v,H1,I2,ru,q⟩
theorem EQ (ha:PE X o ta)(hv:PE X value tv)(hs:swapsWith value (some (.Attribute o f pos')) pos.line X.env=pure false):PS X (.Assign [.Attribute o f pos'] value pos) (mW X.K ta tv f):=by
 intro pins s σ H D I h
 refine Ra (thn (hv pins s σ H _ I h) fun u s1 ⟨y,H1,I1,ry,q⟩=>thn (ha pins s1 σ H1 _ I1 q) fun ov s2 ⟨x,H2,I2,rx,a,C,dx,fs,ex,ea,c,n,l,q2⟩=>?_) hs
 subst ex
 obtain rfl:ov=KJ a:=rx
 exact tU I2 ea c n l ry fun s3 I3=>⟨σ,_,I3,q2⟩
end
section
variable {X:Cx}{pins:List (Addr×Obj)}{σ:St}{H:Hp}{s:Ky}{A:Lj}{E:Gt→Ky→Prop}{Q:Gt→Ky→Prop}{c:Gt}{b:Bool}
inductive fQ (K:tx)(H:Hp):V→Gt→Prop where
 |non:fQ K H .non (.type "NoneType")
 |bl (x:Bool):fQ K H (.bl x) (.type "bool")
 |int (i:Int):fQ K H (.int i) (.type "int")
 |str (x:Str):fQ K H (.str x) (.type "str")
 |flt (x:UInt64):fQ K H (.flt x) (.type "float")
 |lst {a:Addr} {xs:List V} (e:H a=some (.lst xs)):fQ K H (.ref a) (.type "list")
 |frz {a:Addr} {o:Obj} {xs:List V} (e:H a=some (.frz o (.lst xs))):fQ K H (.ref a) (.type "list")
 |tup {a:Addr} {xs:List V} (e:H a=some (.tup xs)):fQ K H (.ref a) (.type "tuple")
 |dK {a:Addr} {kvs:List (Key×V)} (e:H a=some (.dK kvs)):fQ K H (.ref a) (.type "dict")
 |dT {a:Addr} {kvs:List (List Key×V)} (e:H a=some (.dT kvs)):fQ K H (.ref a) (.type "dict")
 |ins {a C dx:Addr} {fs:List (Str×V)} (e:H a=some (.ins C dx fs)) (cl:Cls K C) (ha:Lr K (.ref C) "__class__"=some (some (.builtin "object.__class__")))
  (hn:W.specialIn K (.builtin "object.__class__") "__get__"=some (some (.builtin "getset_descriptor.__get__"))) (htk:W.takesIn K (.builtin "object.__class__")=some true)
  (hm:Ot K C (.type "object")=some true):fQ K H (.ref a) (.ref C)
theorem wG {x:V}{u t:Gt}(I:Inv X pins σ H s)(rx:aK x u)(ty:fQ X.K H x t)(e:W.kitOne X.K t c=some b)(h:∀tk,Q (.bool b) {s with toks:=tk}):
  wpAny (model X.prog X.w) A (call (.builtin "isinstance") [u,c]) Q E s:=by
 cases ty with
 |non=>cases (show u=Ml from rx);exact NX W.kitx_none I.kIn MF e (fun z=>nomatch z) h
 |bl y=>cases (show u=MJ y from rx);exact NX W.kitx_bool I.kIn MF e (fun z=>nomatch z) h
 |int i=>obtain⟨t,q⟩:=(show ∃t,u=OL i t from rx);cases q;exact NX W.kitx_int I.kIn MF e (fun z=>nomatch z) h
 |str y=>obtain⟨t,q⟩:=(show ∃t,u=Oc y t from rx);cases q;exact NX W.kitx_str I.kIn MF e (fun z=>nomatch z) h
 |flt y=>obtain⟨t,q⟩:=(show ∃t,u=Sn y t from rx);cases q;exact NX W.kitx_float I.kIn MF e (fun z=>nomatch z) h
 | @lst a xs ea=>
   cases (show u=KJ a from rx)
   obtain⟨_,_,n,_,h1⟩:=(show aT X.prog X.w H s.heap a (.lst xs)from I.hok a _ ea)
   exact NX W.kitx_list I.kIn ⟨_,h1,rfl⟩ e (fun z=>nomatch z) h
 | @frz a ob xs ea=>
   cases (show u=KJ a from rx)
   obtain⟨_,_,_,n,_,h1⟩:=(show aT X.prog X.w H s.heap a (.frz ob (.lst xs))from I.hok a _ ea)
   exact NX W.kitx_list I.kIn ⟨_,h1,rfl⟩ e (fun z=>nomatch z) h
 | @tup a xs ea=>
   cases (show u=KJ a from rx)
   obtain⟨_,_,_,p⟩:=(show aT X.prog X.w H s.heap a (.tup xs)from I.hok a _ ea)
   obtain⟨o,h1,h2,_⟩:=p
   exact NX W.kitx_tuple I.kIn ⟨o,h1,h2⟩ e (fun z=>nomatch z) h
 | @dK a kvs ea=>
   cases (show u=KJ a from rx)
   obtain⟨_,_,vs,_,p⟩:=(show aT X.prog X.w H s.heap a (.dK kvs)from I.hok a _ ea)
   obtain⟨o,es,ep,h1,h2,_⟩:=p
   exact NX W.kitx_dict I.kIn ⟨o,h1,h2.1⟩ e (fun z=>nomatch z) h
 | @dT a kvs ea=>
   cases (show u=KJ a from rx)
   obtain⟨_,_,xs,_,o,es,ep,h1,h2,_⟩:=(show aT X.prog X.w H s.heap a (.dT kvs)from I.hok a _ ea)
   exact NX W.kitx_dict I.kIn ⟨o,h1,h2.1⟩ e (fun z=>nomatch z) h
 | @ins a C dx fs ea cl ha hn htk hm=>
   cases (show u=KJ a from rx)
   obtain⟨mA,O,_⟩:=ja I.hok ea
   obtain⟨od,J,_⟩:=O.look
   exact NX (W.kitx_own (cl.get _) cl.hd ha hn htk hm) I.kIn J e (fun z=>nomatch z) h
end
structure bc (k:Nat)(A:Lj):Prop where
 hd:A.handled=none
 dp:A.depth+3*k+5<recursionLimit
 un:A.units+16*k+200<cLine
theorem bc.mono {j k:Nat}{A:Lj}(r:bc k A)(h:j≤k):bc j A:=⟨r.hd,by have:=r.dp;omega,by have:=r.un;omega⟩
theorem bc.deeper {k:Nat}{A:Lj}(r:bc (k+1) A)(env:Env):bc k (A.deeper env):=
 ⟨r.hd,by have:=r.dp;show A.depth+1+3*k+5<_;omega,by have:=r.un;show A.units+3+16*k+200<_;omega⟩
theorem uZ {A:Lj}{C:Addr}{us:List Gt}{kw:List (Str×Gt)}:(A.under (.builtin "type.__call__" ⟨.ref C::us,kw⟩)).depth=A.depth+1:=by
 first|rfl|simp[RG,Code.weight,Code.isCreation,Code.isGuard,Code.isCaller,Code.frames,RY,guardIds]
theorem uG {A:Lj}{C:Addr}{us:List Gt}{kw:List (Str×Gt)}:(A.under (.builtin "type.__call__" ⟨.ref C::us,kw⟩)).units=A.units+1:=by
 first|rfl|simp[RG,Code.cUnits,Code.frames,RY]
theorem bc.make {k:Nat}{A:Lj}(r:bc (k+1) A)(C:Addr)(us:List Gt)(kw:List (Str×Gt)):bc k (A.under (.builtin "type.__call__" ⟨.ref C::us,kw⟩)):=
 ⟨r.hd,by have:=r.dp;rw[uZ];omega,by have:=r.un;rw[uG];omega⟩
theorem bc.depth {k:Nat}{A:Lj}(r:bc k A):A.depth<recursionLimit:=by have:=r.dp;omega
def am:TA:=fun _ H Q=>Q [] H
def ag (ta:TE)(tr:TA):TA:=fun σ H Q=>ta σ H fun x H1=>tr σ H1 fun xs H2=>Q (x::xs) H2
section
variable {X:Cx}{e:Expr}{es:List Expr}{te:TE}{t:TA}{pos:Pos}
theorem BW:PA X [] am:=fun _ _ _ _ H Q I h=>Ql ⟨[],H,I,.nil,h⟩
theorem AW (ha:PE X e te)(hr:PA X es t)(hs:starEach (e::es) X.env=(false,eval e X.env)::starEach es X.env:=by rfl):PA X (e::es) (ag te t):=by
 intro pos pins s σ H Q I h
 rw[hs]
 show wpAny _ _ (spliced ((false,eval e X.env)::backTo pos (starEach es X.env))) _ _ s
 refine Qb (thn (ha pins s σ H _ I h) fun u s1 ⟨x,H1,I1,r1,q1⟩=>?_)
 exact thn (hr pos pins s1 σ H1 _ I1 q1) fun us s2 ⟨xs,H2,I2,r2,q2⟩=>⟨x::xs,H2,I2,.cons r1 r2,q2⟩
def bz (t:TA):TE:=fun σ H Q=>t σ H fun xs H1=>xs.length≤sizeLine∧∀p,H1 p=none→Q (.ref p) (upd H1 p (.tup xs))
def dX (t:TA):TE:=fun σ H Q=>t σ H fun xs H1=>xs.length≤sizeLine∧∀p,H1 p=none→Q (.ref p) (upd H1 p (.lst xs))
theorem CQ {x1}(h:PA X es t):PE X (.Tuple es x1 pos) (bz t):=by
 intro pins s σ H Q I hq
 refine wpAny_Tuple_spliced (thn (h pos pins s σ H _ I hq) fun us s1 ⟨xs,H1,I1,r,z,q⟩=>⟨by rw[←r.length];exact z,?_⟩)
 have hf:H1 s1.heap.objs.size=none:=I1.hok.fresh (KA _)
 refine⟨.ref s1.heap.objs.size,upd H1 s1.heap.objs.size (.tup xs),I1.laid (t':=s1.toks) (fun b u e=>gV _ e) (KA _) ?_,rfl,q _ hf⟩
 exact⟨z,us,r,⟨_,KG _ rfl,rfl,_,rfl⟩⟩
theorem EJ (h:PA X es t):PE X (.List es pos) (dX t):=by
 intro pins s σ H Q I hq
 refine wpAny_List_spliced (thn (h pos pins s σ H _ I hq) fun us s1 ⟨xs,H1,I1,r,z,q⟩=>⟨by rw[←r.length];exact z,?_⟩)
 have hf:H1 s1.heap.objs.size=none:=I1.hok.fresh (KA _)
 refine⟨.ref s1.heap.objs.size,upd H1 s1.heap.objs.size (.lst xs),I1.laid (t':=s1.toks) (fun b u e=>gV _ e) (KA _) ?_,rfl,q _ hf⟩
 exact⟨z,us,0,r,KG _ rfl⟩
end
abbrev Sp:=List V→Hp→VK→XK→Prop
abbrev CXT:=List Env→Hp→Ky→XK→Gt→Ky→Prop
structure iI (P:KS)(w:LI)(K:tx)(mg:Str→Option Gt)(base:Heap)(A:Lj)(outer:List Env)(s:Ky)(H:Hp):Prop where
 frames:A.frames=some outer
 mod:Mod K mg base
 bs:∀b o,base.get? b=some o→s.heap.get? b=some o∧H b=none
 bsz:base.objs.size≤s.heap.objs.size
 funs:s.heap.FunFrames base outer
 frf:∀b∈frs outer,H b=none
 hok:HOk P w H s.heap
 bare:Py s.gens
def CE (outer:List Env)(P:KS)(w:LI)(H:Hp)(s:Ky)(Q:VK)(u:Gt)(s':Ky):Prop:=
 ∃v H',s'.os=s.os∧Py s'.gens∧Un (frs outer) [] H H' s.heap s'.heap∧HOk P w H' s'.heap∧aK v u∧Q v H'
def CR (CX:CXT)(outer:List Env)(P:KS)(w:LI)(H:Hp)(s:Ky)(Q:VK)(E:XK)(r:Rj)(s':Ky):Prop:=
 match r with
 |.ok (.ret u)=>CE outer P w H s Q u s'
 |.ok _=>False
 |.error e=>CX outer H s E e s'
structure aL (P:KS)(w:LI)(K:tx)(mg:Str→Option Gt)(base:Heap)(CX:CXT)(k:Nat)(f:Addr)(fd:KP)(ps:List Str)(sp:Sp):Prop where
 len:∀vs H Q E,sp vs H Q E→vs.length=ps.length
 run:∀(A:Lj)(outer:List Env)(s:Ky)(H:Hp)(args:Args)(us:List Gt)(vs:List V)(Q:VK)(E:XK),bc k A→iI P w K mg base A outer s H→SV s fd args (ps.zip us)→aO vs us→sp vs H Q E→
  codeAny (model P w) A (.call (.ref f) args) (CR CX outer P w H s Q E) s
theorem iI.make {P:KS}{w:LI}{K:tx}{mg:Str→Option Gt}{base:Heap}{A:Lj}{outer:List Env}{s:Ky}{H:Hp}(e:iI P w K mg base A outer s H)(C:Addr)(us:List Gt)(kw:List (Str×Gt)):
 iI P w K mg base (A.under (.builtin "type.__call__" ⟨.ref C::us,kw⟩)) outer s H:=⟨by first|exact e.frames|(simpa[RG,Code.envs,RY,pushEnvs]using e.frames),e.mod,e.bs,e.bsz,e.funs,e.frf,e.hok,e.bare⟩
section
variable {X:Cx}{pins:List (Addr×Obj)}{σ:St}{H:Hp}{s s':Ky}
theorem Inv.env0 (I:Inv X pins σ H s):iI X.prog X.w X.K X.mg X.base X.A X.stack s H:=
 ⟨I.ok.frames,I.ok.mod,I.bs,KR I.ok.bsz I.sz,I.stack,I.stkFree,I.hok,I.bare⟩
theorem Inv.after {Q:VK}{u:Gt}(I:Inv X pins σ H s)(h:CE X.stack X.prog X.w H s Q u s'):EP X pins σ Q u s':=by
 obtain⟨v,H',os,bare,un,hok,r,q⟩:=h
 obtain⟨hh,g,d,t,os'⟩:=s'
 obtain rfl:os'=s.os:=os
 exact⟨v,H',I.call (h':=hh) (g':=g) (d':=d) (t':=t) (ch:=[]) un hok bare (fun b z=>absurd z (by simp)),r,q⟩
end
def br (K:tx)(fd:KP)(ps:List Str)(ds:List Gt):Prop:=
 ∀(s:Ky)(us:List Gt),K.In s.heap→(us++ds).length=ps.length→SV s fd ⟨us,[]⟩ (ps.zip (us++ds))
theorem br.all {K:tx}{fd:KP}{ps:List Str}(h:∀us:List Gt,us.length=ps.length→bindArgs fd ⟨us,[]⟩=pure (ps.zip us)):br K fd ps []:=fun s us _ hl=>by
 rw[LW]at hl⊢
 exact .of_eq (h us hl)
section
variable {X:Cx}{CX:CXT}{k:Nat}{f C:Addr}{fd:KP}{ps:List Str}{sp:Sp}{dvs:List V}{ds:List Gt}{E:XK}{x m:Str}{p pos apos:Pos}{e o:Expr}{es:List Expr}{ta:TE}{t:TA}
structure Mk (K:tx)(C f:Addr):Prop where
 makes:SN K C=true
 init:Lr K (.ref C) "__init__"=some (some (.ref f))
 fn:OO K (.ref f)=true
 kp:Oh K (.ref C)=true
end
def PK (X:Cx)(kws:List Keyword)(t:TA):Prop:=
 ∀(pos:Pos)(pins:List (Addr×Obj))(s:Ky)(σ:St)(H:Hp)(Q:List V→Hp→Prop),Inv X pins σ H s→t σ H Q→wpAny (model X.prog X.w) X.A (evalAll ((backToKw pos (keywordEach kws X.env)).map (·.2))) (AP X pins σ Q) X.xe s
structure aA (N P:List Str)(sc:Scope):Prop where
 kind:sc.kind=.function
 co:sc.isCoroutine=false
 gen:sc.isGenerator=false
 nd:N.Nodup
 pre:N.take P.length=P
 par:∀x∈P,sc.names.lookup x=some .local∨sc.names.lookup x=some .cell
 nofree:∀y∈sc.names,y.2≠.free
theorem oi {kindOf:Str→Option Nj}{x:Str}:∀{binds:List (Str×Gt)}{m:Str→Option Gt},(∀v,(x,v)∉binds)→bindL kindOf binds m x=m x
 |[],_,_=>rfl
 |(n,v)::r,m,h=>by
  unfold bindL
  rw[oi fun w hw=>h w (KQ _ hw)]
  split
  ·have:x≠n:=by rintro rfl;exact h v Lv
   simp[this]
  ·rfl
theorem og {kindOf:Str→Option Nj}{x:Str}:∀{binds:List (Str×Gt)}{m:Str→Option Gt},(∀v,(x,v)∉binds)→bindC kindOf binds m x=m x
 |[],_,_=>rfl
 |(n,v)::r,m,h=>by
  unfold bindC
  rw[og fun w hw=>h w (KQ _ hw)]
  split
  ·rfl
  ·have:x≠n:=by rintro rfl;exact h v Lv
   simp[this]
theorem ow {kindOf:Str→Option Nj}{x:Str}{v:Gt}:∀{P:List Str}{vs:List Gt}{i:Nat}{m:Str→Option Gt},P.Nodup→P[i]? =some x→vs[i]? =some v→kindOf x=some .local→
  bindL kindOf (P.zip vs) m x=some v
 |[],_,_,_,_,h,_,_=>by simp at h
 |_::_,[],_,_,_,_,h,_=>by simp at h
 |p::P,w::vs,0,m,nd,h1,h2,hk=>by
  simp at h1 h2;subst h1;subst h2
  show bindL kindOf ((p,w)::P.zip vs) m p=_
  unfold bindL
  rw[oi fun v hv=>(MD.mp nd).1 (MC hv).1,if_pos hk]
  simp
 |p::P,w::vs,i+1,m,nd,h1,h2,hk=>by
  show bindL kindOf ((p,w)::P.zip vs) m x=_
  unfold bindL
  exact ow (i:=i) (MD.mp nd).2 (by simpa using h1) (by simpa using h2) hk
theorem om {kindOf:Str→Option Nj}{x:Str}{v:Gt}:∀{P:List Str}{vs:List Gt}{i:Nat}{m:Str→Option Gt},P.Nodup→P[i]? =some x→vs[i]? =some v→kindOf x≠some .local→
  bindC kindOf (P.zip vs) m x=some v
 |[],_,_,_,_,h,_,_=>by simp at h
 |_::_,[],_,_,_,_,h,_=>by simp at h
 |p::P,w::vs,0,m,nd,h1,h2,hk=>by
  simp at h1 h2;subst h1;subst h2
  show bindC kindOf ((p,w)::P.zip vs) m p=_
  unfold bindC
  rw[og fun v hv=>(MD.mp nd).1 (MC hv).1,if_neg hk]
  simp
 |p::P,w::vs,i+1,m,nd,h1,h2,hk=>by
  show bindC kindOf ((p,w)::P.zip vs) m x=_
  unfold bindC
  exact om (i:=i) (MD.mp nd).2 (by simpa using h1) (by simpa using h2) hk
def start (N:List Str)(vs:List V):St:=vs.map some++Rq (N.length- vs.length) none
def cw (CX:CXT)(P:KS)(w:LI)(K:tx)(mg:Str→Option Gt)(base:Heap)(N:List Str)(qual:Str)(scope:Scope)(f:Addr)(cd:Gt)(A:Lj)(outer:List Env)(s:Ky)(H:Hp)(E:XK):Cx where
 prog:=P
 w:=w
 K:=K
 mg:=mg
 base:=base
 A:=A.deeper (envOfC qual scope s.heap.objs.size f cd)
 N:=N
 s₀:=s
 H₀:=H
 env:=envOfC qual scope s.heap.objs.size f cd
 outer:=outer
 stack:=envOfC qual scope s.heap.objs.size f cd::outer
 ex:=[]
 calm:=true
 fn:=fun _=>true
 pn:=[]
 xe:=fun e s'=>wpAny (model P w) (A.deeper (envOfC qual scope s.heap.objs.size f cd)) (leaving (envOfC qual scope s.heap.objs.size f cd) e) (fun _ s''=>CX outer H s E e s'') (fun e' s''=>CX outer H s E e' s'') s'
theorem qZ {sc:Scope}{n:Nat}{x:Str}(h:sc.names.lookup x=some .cell):∃c,(cellsFrom n sc.names []).lookup x=some c:=by
 have q:=Pn sc.names n [] (.inl h)
 exact Lu.mp q
theorem kj {CX:CXT}{P:KS}{w:LI}{K:tx}{mg:Str→Option Gt}{base:Heap}{N ps:List Str}{qual:Str}{scope:Scope}{f:Addr}{cd:Gt}{A:Lj}{outer:List Env}{s s1:Ky}{H:Hp}{E:XK}{us:List Gt}{vs:List V}
  (S:aA N ps scope)(hd:A.handled=none)(e0:iI P w K mg base A outer s H)(hl:vs.length=ps.length)(r:aO vs us)
  (x:InCallC s s.heap.objs.size (bindL (envOfC qual scope s.heap.objs.size f cd).kindOf (ps.zip us) fun _=>none) (cellsFrom (s.heap.objs.size+1) scope.names []) (bindC (envOfC qual scope s.heap.objs.size f cd).kindOf (ps.zip us) fun _=>none) s1):
  Inv (cw CX P w K mg base N qual scope f cd A outer s H E) [] (start N vs) H s1:=by
 have hpl:ps.length≤N.length:=by have:=congrArg PX S.pre;rw[Lf]at this;omega
 obtain⟨h1,tk,rfl,hk⟩:=x.done
 have noA:∀b:Addr,b∉(cw CX P w K mg base N qual scope f cd A outer s H E).ex:=fun b z=>absurd (show b∈([]:List Addr)from z) (by simp)
 refine⟨⟨e0.mod,S.kind,rfl,rfl,KA _,fun y z c h1 h2=>?_,fun y hy=>?_,fun y c _ h=>?_,fun _=>hd,RQ e0.frames,.inr ⟨rfl,rfl⟩,fun b z=>absurd z (noA b),e0.bs,e0.bsz,fun b _ _=>noA b,fun b z=>absurd z (noA b),e0.funs,e0.frf⟩,
  rfl,e0.bare,Un.kept hk,⟨_,x.toInCall.ns,fun i y v h1 h2 h3=>?_⟩,fun y c h=>⟨_,x.cell y c h⟩,e0.hok.fresh (KA _),fun y c h=>?_,fun p hp=>absurd (show p∈([]:List (Addr×Obj))from hp) (by simp),e0.hok.kept hk,?_⟩
 ·exact name_of_addr x.apart (Mw h1) (Mw h2)
 ·have hy:scope.names.lookup y=some .cell∨scope.names.lookup y=some .free:=hy
  rcases hy with hy|hy
  ·exact qZ hy
  ·exact absurd rfl (S.nofree _ (Mw hy))
 ·exact Mq (x.above y c (Mw h))
 ·have hi:i<vs.length:=by
   unfold start at h2
   by_cases hi:i<vs.length
   ·exact hi
   ·rw[LU (by simpa using hi)]at h2
    rw[RI]at h2
    split at h2<;>cases h2
  have ha:vs[i]?=some v:=by
   unfold start at h2
   rw[LN (by simpa using hi),La]at h2
   cases e:vs[i]? with
   |none=>rw[e]at h2;cases h2
   |some a=>rw[e]at h2;cases h2;rfl
  obtain⟨u,hu,rv⟩:=r.get ha
  have hp:ps[i]?=some y:=by
   rw[←S.pre,RC (by omega)];exact h1
  have ndP:ps.Nodup:=by rw[←S.pre];exact S.nd.sublist (Th _ _)
  refine⟨u,rv,?_⟩
  rcases S.par y (KM hp)with k|k
  ·exact .inl ⟨k,ow ndP hp hu k⟩
  ·obtain⟨c,e⟩:=qZ (n:=s.heap.objs.size+1) k
   refine .inr ⟨.inl k,c,e,?_⟩
   have q:=x.cell y c e
   rw[om ndP hp hu (by show scope.names.lookup y≠_;rw[k];decide)]at q
   exact q
 ·exact e0.hok.fresh (Mq (x.above y c (Mw h)))
 ·unfold start
  show _=N.length
  rw[KI,Kz,Pt]
  omega
theorem zB {CX:CXT}{P:KS}{w:LI}{K:tx}{mg:Str→Option Gt}{base:Heap}{k:Nat}{f:Addr}{name qual:Str}{params:Arguments}{body:List Stmt}{scope:Scope}{dV kV doc pm cdv ct oc:Gt}{an od:Option Addr}
  {osl:Array (Option Gt)}{N ps:List Str}{sp:Sp}(lk:K.lookup f=some ⟨oc,od,.func (NL name qual params body scope dV kV doc pm an cdv ct),osl⟩)(hcd:TL K cdv qual=true)(S:aA N ps scope)
  (len:∀vs H Q E,sp vs H Q E→vs.length=ps.length)
  (hbody:∀(A:Lj)(outer:List Env)(s:Ky)(H:Hp)(vs:List V)(Q:VK)(E:XK),bc k (A.deeper (envOfC qual scope s.heap.objs.size f cdv))→sp vs H Q E→
   ∃t,PSs (cw CX P w K mg base N qual scope f cdv A outer s H E) body t∧t {nx:=fun _ H'=>Q .non H',rt:=Q} (start N vs) H):
  aL P w K mg base CX (k+1) f (NL name qual params body scope dV kV doc pm an cdv ct) ps sp:=by
 refine⟨len,fun A outer s H args us vs Q E hr e0 hb r hsp=>?_⟩
 have hl:=len _ _ _ _ hsp
 have KX:K.In s.heap:=e0.mod.kin.keeps fun b o e=>(e0.bs b o e).1
 have lim:s.heap.NoLimit:=e0.mod.nolimit.keeps fun b o e=>(e0.bs b o e).1
 have hkind:∀y∈ps.zip us,scope.names.lookup y.1=some .local∨(scope.names.lookup y.1=some .cell∧((cellsFrom (s.heap.objs.size+1) scope.names []).lookup y.1).isSome=true):=fun⟨n,v⟩ hy=>by
  rcases S.par n (MC hy).1 with q|q
  ·exact .inl q
  ·exact .inr ⟨q,Pn _ _ _ (.inl q)⟩
 refine Oo hr.depth (KX _ _ lk) rfl S.co S.gen rfl (SO KX hcd) (hb _ _ _ _ ?_)
 refine OR S.kind hkind fun env he s1 x=>?_
 subst he
 refine⟨lim.keeps x.toInCall.keep,Ri ?_⟩
 obtain⟨t,ht,hq⟩:=hbody A outer s H vs Q E (hr.deeper _) hsp
 have I:Inv (cw CX P w K mg base N qual scope f cdv A outer s H E) [] (start N vs) H s1:=kj S hr.hd e0 hl r x
 refine Le (ht [] s1 (start N vs) H _ I hq) (fun fl s' hs=>?_) fun e s' hs=>hs
 have fin:∀{σ':St}{H':Hp}{v:V}{u:Gt},Inv (cw CX P w K mg base N qual scope f cdv A outer s H E) [] σ' H' s'→aK v u→Q v H'→CE outer P w H s Q u s':=
  fun{σ' H' v u} J rv q=>⟨v,H',J.os,J.bare,J.base,J.hok,rv,q⟩
 cases fl with
 |ret u=>
  obtain⟨v,σ',H',J,rv,q⟩:=hs
  exact fin J rv q
 |next=>
  obtain⟨σ',H',J,q⟩:=hs
  exact fin (v:=V.non) (u:=Ml) J rfl q
 |brk=>
  obtain⟨_,_,_,q⟩:=hs
  exact Ll q
 |cont=>
  obtain⟨_,_,_,q⟩:=hs
  exact Ll q
section
variable {X:Cx}{x:Str}{p pos:Pos}{e:Expr}{es:List Expr}{t:TA}{id T:String}{r:List V→Hp→VK→Prop}
def tCB (r:List V→Hp→VK→Prop)(t:TA):TE:=fun σ H Q=>t σ H fun vs H1=>r vs H1 Q
theorem yy (hc:bC X (.builtin id) r)(hg:Gl X x)(hm:X.mg x=none)(hv:bootBuiltins x=some (.builtin id))(ha:PA X (e::es) t)(hn:x≠"__name__":=by decide)(hdb:(x==("__debug__":Str))=false:=by decide)
  (he:starEach (e::es) X.env=(false,eval e X.env)::starEach es X.env:=by rfl)(hpl:(backTo pos (starEach es X.env)).any (·.1)=false:=by rfl):PE X (.Call (.Name x p) (e::es) [] pos) (tCB r t):=by
 intro pins s σ H Q I h
 refine LF (eJ I hg hm hv ?_ hn hdb)
 exact PyProof.Rows.callWith_builtin1 (thn (ha pos pins s σ H _ I h) fun us s1 ⟨vs,H1,I1,r1,q1⟩=>hc pins s1 σ H1 vs us Q I1 r1 q1) he hpl
theorem vj (hc:bC X (.type T) r)(hg:Gl X x)(hm:X.mg x=none)(hv:bootBuiltins x=some (.type T))(ha:PA X (e::es) t)(hn:x≠"__name__":=by decide)(hdb:(x==("__debug__":Str))=false:=by decide)
  (he:starEach (e::es) X.env=(false,eval e X.env)::starEach es X.env:=by rfl)(hpl:(backTo pos (starEach es X.env)).any (·.1)=false:=by rfl):PE X (.Call (.Name x p) (e::es) [] pos) (tCB r t):=by
 intro pins s σ H Q I h
 refine LF (eJ I hg hm hv ?_ hn hdb)
 exact LK (thn (ha pos pins s σ H _ I h) fun us s1 ⟨vs,H1,I1,r1,q1⟩=>hc pins s1 σ H1 vs us Q I1 r1 q1) he hpl
end
end L2
namespace HT
open PySem PyProof.Rows
section
open PySem.SeqAt
open PySem.AutoSeq1 (wpAny_loadPart')
open PySem.MeetsSeq PySem.MeetsSeq2 PySem.MeetsSeq3
end
section
variable {prog:KS}{w:LI}{A:Lj}{E:Gt→Ky→Prop}{s:Ky}
theorem Ay {t b:Addr}{vs ws:List Gt}{Q:Gt→Ky→Prop}(ht:QK s.heap t vs.toArray)(hb:QK s.heap b ws.toArray)(hv:vs≠[])
  (h1:ws=[]→Q (.ref t) s)(h2:ws≠[]→Q (.ref s.heap.objs.size) {s with heap:=s.heap.push {cls:=.type "tuple",data:=.seq (vs++ws).toArray}})
  (hsz:vs.length+ws.length≤sizeLine):wpAny (model prog w) A (binaryOp .Add (.ref t) (.ref b)) Q E s:=by
 obtain⟨⟨cls,dd,data,sl⟩,ho,hc,n,hd⟩:=id ht
 obtain⟨⟨cls2,dd2,data2,sl2⟩,ho2,hc2,n2,hd2⟩:=id hb
 simp only at hc hd hc2 hd2
 subst hc hd hc2 hd2
 have e:vs.toArray++ws.toArray=(vs++ws).toArray:=by simp
 by_cases hw:ws=[]
 ·exact Tq ⟨_,ho,rfl⟩ ⟨_,ho2,rfl⟩ Rv SK OS ON (OE _ _)
   (tuple_addW1 t b vs.toArray ws.toArray n n2 dd dd2 sl sl2 (by simpa using hv) (by simp[hw])) ⟨ho,ho2,h1 hw⟩
 ·refine Tq ⟨_,ho,rfl⟩ ⟨_,ho2,rfl⟩ Rv SK OS ON (OE _ _)
   (tuple_addW2 t b vs.toArray ws.toArray n n2 dd dd2 sl sl2 (by simpa using hv) (by simpa using hw) (by rw[KH,KH];exact hsz)) ⟨ho,ho2,?_⟩
  rw[e]
  exact h2 hw
def sIx (n d:Nat):Option Int→Nat
 |none=>d
 |some v=>if v<0 then(v+(n:Int)).toNat else min v.toNat n
theorem qI (n d:Nat):sIx n d none=d:=rfl
theorem la (n d k:Nat):sIx n d (some (k:Int))=min k n:=by
 show(if (k:Int)<0 then((k:Int)+(n:Int)).toNat else min (k:Int).toNat n)=min k n
 rw[if_neg (by omega),MB]
theorem Ef (n d:Nat)(hd:d≤n)(o:Option Int):sIx n d o≤n:=by
 cases o with
 |none=>exact hd
 |some v=>
  show(if v<0 then(v+(n:Int)).toNat else min v.toNat n)≤n
  by_cases hv:v<0
  ·rw[if_pos hv];omega
  ·rw[if_neg hv];exact QL _ _
theorem rS (v:Int)(n d:Nat):(if v<0 then max (v+(n:Int)) 0 else min v (n:Int))=((sIx n d (some v):Nat):Int):=by
 show(if v<0 then max (v+(n:Int)) 0 else min v (n:Int))=(((if v<0 then(v+(n:Int)).toNat else min v.toNat n):Nat):Int)
 by_cases hv:v<0
 ·simp only[if_pos hv];omega
 ·simp only[if_neg hv];omega
theorem uQ (lo hi:Option Int)(n:Nat):Og lo hi 1 (n:Int)=(((sIx n 0 lo:Nat):Int),((sIx n n hi:Nat):Int)):=by
 have h1:¬((1:Int)<0):=by omega
 unfold Og
 simp only[h1,if_false]
 refine Uv ?_ ?_
 ·cases lo with
  |none=>rfl
  |some v=>exact rS v n 0
 ·cases hi with
  |none=>rfl
  |some v=>exact rS v n n
theorem ut (i j:Nat):Nv (i:Int) (j:Int) 1=j- i:=by
 unfold Nv
 have h1:(1:Int)>0:=by omega
 simp only[h1,if_true,Int.ediv_one]
 split<;>omega
theorem mD {v:Gt}{o:Option Int}{Q:Option Int→Ky→Prop}(p:Rl v o)(h:Q o s):wpAny (model prog w) A (UX v) Q E s:=by
 cases p with
 |none=>exact slicePart_none h
 |int i t=>exact slicePart_int h
theorem ib {sl:Addr}{vl vu:Gt}{lo hi:Option Int}{n:Nat}{Q:Int×Int×Nat→Ky→Prop}(hs:s.heap.IsSliceOf sl vl vu .none)(pl:Rl vl lo)(pu:Rl vu hi)
  (h:Q (((sIx n 0 lo:Nat):Int),1,sIx n n hi- sIx n 0 lo) s):wpAny (model prog w) A (PU (.ref sl) (pure (n:Int))) Q E s:=by
 obtain⟨os,hos,hcs,hds⟩:=id hs
 unfold PU UY
 refine cW (cW (Lp hos hds (x:=vl) rfl (cW (Lp hos hds (x:=vu) rfl (cW (Lp hos hds (x:=.none) rfl (If ?_)))))))
 refine cW (slicePart_none ?_)
 show wpAny _ _ (if ((1:Int)==0)=true then _ else _) _ _ s
 rw[if_neg (by decide)]
 refine cW (mD pl (cW (mD pu (cW (If ?_)))))
 show wpAny _ _ (match Og lo hi 1 (n:Int)with|(lo,hi)=>pure (lo,(1:Int),Nv lo hi 1)) _ _ s
 rw[uQ lo hi n]
 show wpAny _ _ (pure (((sIx n 0 lo:Nat):Int),(1:Int),Nv ((sIx n 0 lo:Nat):Int) ((sIx n n hi:Nat):Int) 1)) _ _ s
 rw[ut]
 exact If h
theorem zc (xs:Array Gt)(i k:Nat):((PC k).filterMap fun(m:Nat)=>xs[((i:Int)+(m:Int)*1).toNat]?).toArray=((xs.toList.drop i).take k).toArray:=by
 have e:(fun(m:Nat)=>xs[((i:Int)+(m:Int)*1).toNat]?)=fun m=>xs[i+m]?:=by
  funext m
  have:((i:Int)+(m:Int)*1).toNat=i+m:=by omega
  rw[this]
 rw[e]
 have:=pick_run xs i k
 rw[List.filterMap_map]at this
 have e2:((fun x=>xs[x]?)∘fun x=>i+x)=fun m=>xs[i+m]?:=rfl
 rw[e2]at this
 rw[this]
theorem lq {t sl:Addr}{items:Array Gt}{vl vu:Gt}{lo hi:Option Int}{Q:Gt→Ky→Prop}(ht:QK s.heap t items)(hs:s.heap.IsSliceOf sl vl vu .none)(pl:Rl vl lo)(pu:Rl vu hi)
  (hw:¬(sIx items.size 0 lo=0∧sIx items.size items.size hi=items.size))
  (h:Q (.ref s.heap.objs.size) {s with heap:=s.heap.push {cls:=.type "tuple",data:=.seq ((items.toList.drop (sIx items.size 0 lo)).take (sIx items.size items.size hi- sIx items.size 0 lo)).toArray}})
  (hsz:items.size≤sizeLine):wpAny (model prog w) A (getItem (.ref t) (.ref sl)) Q E s:=by
 have htake:sizeOk (.seq ((items.toList.drop (sIx items.size 0 lo)).take (sIx items.size items.size hi- sIx items.size 0 lo)).toArray):=by
  show((items.toList.drop (sIx items.size 0 lo)).take (sIx items.size items.size hi- sIx items.size 0 lo)).toArray.size≤sizeLine
  rw[KH,Lf,LV,Mx]
  omega
 have hj:sIx items.size items.size hi≤items.size:=Ef _ _ (KA _) hi
 obtain⟨os,hos,hcs,hds⟩:=id hs
 have hTs:s.TypeIs (.ref sl) "slice":=⟨os,hos,hcs⟩
 unfold getItem
 try with_reducible refine Ms ?_
 first|refine cW (If ?_)|skip
 refine cW (UC ht.typeIs (by decide) ?_)
 refine cW (LA (name:=Mf "__getitem__") ht.typeIs LX
  (LB LX ht.typeIs Ui ?_ (Uu _ _)))
 show wpAny _ _ (PR (.ref t)>>=_) _ _ s
 refine cW (tupleItemsOf_ ht ?_)
 refine cW (OT hTs ?_)
 rw[if_pos (by decide)]
 refine cW (ib hs pl pu ?_)
 have hno:¬((((sIx items.size 0 lo:Nat):Int)==0&&(1:Int)==1&&(sIx items.size items.size hi- sIx items.size 0 lo)==items.size)=true):=by
  intro q
  rw[Lq,Lq]at q
  have q1:((sIx items.size 0 lo:Nat):Int)=0:=TD q.1.1
  have q2:sIx items.size items.size hi- sIx items.size 0 lo=items.size:=TD q.2
  exact hw ⟨by omega,by omega⟩
 show wpAny _ _ (if (((sIx items.size 0 lo:Nat):Int)==0&&(1:Int)==1&&(sIx items.size items.size hi- sIx items.size 0 lo)==items.size)=true then _ else _) _ _ s
 rw[if_neg hno,zc]
 first
  |exact cW (m:=Mv _) (LJ (If ⟨_,rfl,If h⟩) htake)
  |exact cW (m:=Mv _) (LJ (cW (If (If ⟨_,rfl,If h⟩))) htake)
  |exact cW (cW (m:=Mv _) (LJ (If (If ⟨_,rfl,If h⟩)) htake))
  |exact cW (cW (m:=Mv _) (LJ (If ⟨_,rfl,If h⟩) htake))
end
end HT
namespace L2
open PySem PySem.Spec PyProof.Rows
abbrev TO:=St→Hp→(Option Int→Hp→Prop)→Prop
def PO (X:Cx)(e:Option Expr)(t:TO):Prop:=
 ∀(pins:List (Addr×Obj))(s:Ky)(σ:St)(H:Hp)(Q:Option Int→Hp→Prop),Inv X pins σ H s→t σ H Q→
  wpAny (model X.prog X.w) X.A (evalPart e X.env) (fun u s'=>∃o H',Inv X pins σ H' s'∧Rl u o∧Q o H') X.xe s
def gN:TO:=fun _ H Q=>Q none H
def ip (t:TE):TO:=fun σ H Q=>t σ H fun x H1=>∃i,x=.int i∧Q (some i) H1
section
variable {X:Cx}{e:Expr}{te:TE}{lo hi:Option Expr}{tl th:TO}{pos p2:Pos}
theorem AH:PO X none gN:=by
 intro pins s σ H Q I h
 rw[evalPart_none]
 exact If ⟨none,H,I,.none,h⟩
theorem AD (h:PE X e te):PO X (some e) (ip te):=by
 intro pins s σ H Q I hw
 rw[evalPart_some]
 refine thn (h pins s σ H _ I hw) fun u s1 ⟨x,H1,I1,r1,q1⟩=>?_
 obtain⟨i,rfl,q⟩:=q1
 obtain⟨t,rfl⟩:=r1
 exact⟨some i,H1,I1,.int i t,q⟩
def SlR (X:Cx)(r:V→Option Int→Option Int→Hp→VK→Prop):Prop:=
 ∀(pins:List (Addr×Obj))(s:Ky)(σ:St)(H:Hp)(x:V)(v vl vu:Gt)(lo hi:Option Int)(sl:Addr)(Q:VK),Inv X pins σ H s→aK x v→s.heap.IsSliceOf sl vl vu .none→Rl vl lo→Rl vu hi→r x lo hi H Q→
  ∃T id,typeLookup (.type T) "__getitem__"=pure (some (.builtin id))∧s.TypeIs v T∧wpAny (model X.prog X.w) X.A (getItem v (.ref sl)) (EP X pins σ Q) X.xe s
theorem SlR.or {r r':V→Option Int→Option Int→Hp→VK→Prop}(h:SlR X r)(h':SlR X r'):SlR X (fun x lo hi H Q=>r x lo hi H Q∨r' x lo hi H Q):=by
 intro pins s σ H x v vl vu lo hi sl Q I rx hs pl pu q
 rcases q with q|q
 ·exact h pins s σ H x v vl vu lo hi sl Q I rx hs pl pu q
 ·exact h' pins s σ H x v vl vu lo hi sl Q I rx hs pl pu q
def tSl (r:V→Option Int→Option Int→Hp→VK→Prop)(te:TE)(tl th:TO):TE:=fun σ H Q=>te σ H fun x H1=>tl σ H1 fun l H2=>th σ H2 fun u H3=>r x l u H3 Q
theorem zf {r:V→Option Int→Option Int→Hp→VK→Prop}(hr:SlR X r)(he:PE X e te)(hl:PO X lo tl)(hu:PO X hi th):PE X (.Subscript e (.Slice lo hi none p2) pos) (tSl r te tl th):=by
 intro pins s σ H Q I h
 refine Subscript_ (thn (he pins s σ H _ I h) fun v s1 ⟨x,H1,I1,r1,q1⟩=>?_)
 refine wpAny_Slice (thn (hl pins s1 σ H1 _ I1 q1) fun vl s2 ⟨l,H2,I2,pl,q2⟩=>thn (hu pins s2 σ H2 _ I2 q2) fun vu s3 ⟨u,H3,I3,pu,q3⟩=>?_)
 rw[evalPart_none]
 refine If ?_
 have I4:Inv X pins σ H3 {s3 with heap:=s3.heap.push {cls:=.type "slice",data:=.fields #[vl,vu,.none]}}:=I3.kept (t':=s3.toks) fun b ob q=>gV _ q
 obtain⟨T,id,hT,ht,hg⟩:=hr pins {s3 with heap:=s3.heap.push {cls:=.type "slice",data:=.fields #[vl,vu,.none]}} σ H3 x v vl vu l u s3.heap.objs.size Q I4 r1 (Ut ..) pl pu q3
 show wpAny (model X.prog X.w) X.A (subscriptTail e (.Slice lo hi none p2) v (.ref s3.heap.objs.size)) (EP X pins σ Q) X.xe {s3 with heap:=s3.heap.push {cls:=.type "slice",data:=.fields #[vl,vu,.none]}}
 exact tail_any (ops:=[.ref s3.heap.objs.size,v]) ht hT hg (by with_unfolding_all rfl)
def eT (xs:List V)(lo hi:Option Int):List V:=(xs.drop (HT.sIx xs.length 0 lo)).take (HT.sIx xs.length xs.length hi- HT.sIx xs.length 0 lo)
theorem ls (xs:List V)(lo hi:Option Int):(eT xs lo hi).length≤xs.length:=by
 unfold eT
 rw[Lf,LV]
 omega
def Kj (K:tx):V→Option Int→Option Int→Hp→VK→Prop:=fun x lo hi H Q=>∃a xs,x=.ref a∧SqT K H a xs∧
 ¬(HT.sIx xs.length 0 lo=0∧HT.sIx xs.length xs.length hi=xs.length)∧∀p,H p=none→Q (.ref p) (upd H p (.tup (eT xs lo hi)))
theorem DP:SlR X (Kj X.K):=by
 intro pins s σ H x v vl vu lo hi sl Q I rx hs pl pu h
 obtain⟨a,xs,rfl,hx,hw,q⟩:=h
 cases rx
 obtain⟨its,r,ht,hz⟩:=I.tuple hx
 have hlen:its.toArray.size=xs.length:=by rw[KH];exact r.length.symm
 refine⟨"tuple",_,LX.lookup,ht.typeIs,?_⟩
 refine HT.lq ht hs pl pu (by rw[hlen];exact hw) ?_ (by rw[hlen];exact hz)
 rw[hlen]
 refine⟨.ref s.heap.objs.size,_,I.laid (t':=s.toks) (o:=.tup (eT xs lo hi)) (fun b ob q=>gV _ q) (KA _) ?_,rfl,q _ (I.hok.fresh (KA _))⟩
 exact⟨KR (ls xs lo hi) hz,_,(r.drop (HT.sIx xs.length 0 lo)).take (HT.sIx xs.length xs.length hi- HT.sIx xs.length 0 lo),RS _ _⟩
def HV (K:tx):R2:=fun x y H Q=>∃a b xs ys,x=.ref a∧y=.ref b∧SqT K H a xs∧SqT K H b ys∧xs≠[]∧xs.length+ys.length≤sizeLine∧
 (ys=[]→Q (.ref a) H)∧(ys≠[]→∀p,H p=none→Q (.ref p) (upd H p (.tup (xs++ys))))
theorem aO.nil_iff {xs:List V}{us:List Gt}(r:aO xs us):us=[]↔xs=[]:=by
 cases r with
 |nil=>simp
 |cons _ _=>simp
theorem AS:OpR X (binaryOp .Add) (HV X.K):=by
 intro pins s σ H x y v u Q I rx ry h
 obtain⟨a,b,xs,ys,rfl,rfl,ha,hb,hx,hz,q1,q2⟩:=h
 cases rx
 cases ry
 obtain⟨its,r1,p1,_⟩:=I.tuple ha
 obtain⟨its2,r2,p2,_⟩:=I.tuple hb
 refine HT.Ay p1 p2 (fun z=>hx (r1.nil_iff.mp z)) (fun z=>⟨.ref a,H,I,rfl,q1 (r2.nil_iff.mp z)⟩) (fun z=>?_) (by rw[←r1.length,←r2.length];exact hz)
 refine⟨.ref s.heap.objs.size,_,I.laid (t':=s.toks) (o:=.tup (xs++ys)) (fun b ob q=>gV _ q) (KA _) ?_,rfl,q2 (fun w=>z (r2.nil_iff.mpr w)) _ (I.hok.fresh (KA _))⟩
 exact⟨by rw[KI];exact hz,_,r1.append r2,RS _ _⟩
end
def ixN (n:Nat)(i:Int):Option Nat:=if 0≤i then(if i<n then some i.toNat else none)else if-(n:Int)≤i then some (i+n).toNat else none
def atI {α:Type}(xs:List α)(i:Int):Option α:=(ixN xs.length i).bind fun j=>xs[j]?
theorem si {n:Nat}{i:Int}{j:Nat}(h:ixN n i=some j):seqIndex? i n=some j∧j<n∧ -(n:Int)≤i∧i<n:=by
 unfold ixN at h
 by_cases h0:0≤i
 ·rw[if_pos h0]at h
  by_cases h1:i<n
  ·rw[if_pos h1]at h
   have e:i.toNat=j:=KL h
   exact⟨by rw[Uc h0 h1,e],by omega,by omega,h1⟩
  ·rw[if_neg h1]at h;cases h
 ·rw[if_neg h0]at h
  by_cases h1: -(n:Int)≤i
  ·rw[if_pos h1]at h
   have e:(i+n).toNat=j:=KL h
   exact⟨by rw[Tp (by omega) h1,e],by omega,h1,by omega⟩
  ·rw[if_neg h1]at h;cases h
theorem iK {α:Type}{xs:List α}{i:Int}{v:α}(h:atI xs i=some v):∃j,seqIndex? i xs.length=some j∧xs[j]? =some v∧j<xs.length∧ -(xs.length:Int)≤i∧i<xs.length:=by
 unfold atI at h
 cases e:ixN xs.length i with
 |none=>rw[e]at h;cases h
 |some j=>
  rw[e]at h
  obtain⟨h1,h2,h3,h4⟩:=si e
  exact⟨j,h1,h,h2,h3,h4⟩
theorem yK {α:Type}(xs:List α)(v:α):atI (xs++[v]) (-1)=some v:=by
 have hl:(xs++[v]).length=xs.length+1:=by simp
 have e:ixN (xs++[v]).length (-1)=some xs.length:=by
  unfold ixN
  rw[hl,if_neg (by decide),if_pos (by omega)]
  congr 1
  omega
 unfold atI
 rw[e]
 show(xs++[v])[xs.length]?=some v
 simp
def sE (b:Expr):Prop:=∀o i,subscripted b false o i=operate [o,i] (getItem o i)
def IxR (X:Cx)(r:R2):Prop:=
 ∀(value slice:Expr)(pins:List (Addr×Obj))(s:Ky)(σ:St)(H:Hp)(x y:V)(v u:Gt)(Q:VK),Inv X pins σ H s→aK x v→aK y u→r x y H Q→
  subscripted slice false v u=operate [v,u] (getItem v u)→wpAny (model X.prog X.w) X.A (subscriptTail value slice v u) (EP X pins σ Q) X.xe s
def MtR (X:Cx)(id:String)(r:V→List V→Hp→VK→Prop):Prop:=
 ∀(pins:List (Addr×Obj))(s:Ky)(σ:St)(H:Hp)(x:V)(xs:List V)(v:Gt)(us:List Gt)(Q:VK),Inv X pins σ H s→aK x v→aO xs us→r x xs H Q→
  wpAny (model X.prog X.w) X.A (call (.builtin id) (v::us)) (EP X pins σ Q) X.xe s
section
variable {X:Cx}{a b:Expr}{ta tb:TE}{pos:Pos}
theorem IxR.or {r r':R2}(h:IxR X r)(h':IxR X r'):IxR X (fun x y H Q=>r x y H Q∨r' x y H Q):=by
 intro value slice pins s σ H x y v u Q I rx ry q hs
 rcases q with q|q
 ·exact h value slice pins s σ H x y v u Q I rx ry q hs
 ·exact h' value slice pins s σ H x y v u Q I rx ry q hs
theorem Gh {r:R2}(hr:IxR X r)(ha:PE X a ta)(hb:PE X b tb)(hs:sE b):PE X (.Subscript a b pos) (tOp r ta tb):=by
 intro pins s σ H Q I h
 exact Subscript_ (yO ha hb I h fun v u s2 x y H2 I2 rx ry q=>hr a b pins s2 σ H2 x y v u Q I2 rx ry q (hs _ _))
def BX (K:tx):R2:=fun x y H Q=>∃p xs i v,x=.ref p∧y=.int i∧SqL K H p xs∧atI xs i=some v∧Q v H
def DN (K:tx):R2:=fun x y H Q=>∃p xs i v,x=.ref p∧y=.int i∧SqT K H p xs∧atI xs i=some v∧Q v H
def Ce:R2:=fun x y H Q=>∃z i c,x=.str z∧y=.int i∧z.length≤sizeLine∧atI z.cps.toList i=some c∧Q (.str ⟨#[c]⟩) H
theorem Am:IxR X (BX X.K):=by
 intro value slice pins s σ H x y v u Q I rx ry h hs
 obtain⟨p,xs,i,z,rfl,rfl,hq,he,q⟩:=h
 cases rx
 obtain⟨t,rfl⟩:=ry
 obtain⟨its,r,pl,hz⟩:=I.list hq
 obtain⟨j,h1,h2,h3,h4,h5⟩:=iK he
 obtain⟨w,ew,rw'⟩:=r.get h2
 have hl:=r.length
 have hn:=iL
 have fin:EP X pins σ Q w s:=⟨z,H,I,rw',q⟩
 by_cases h0:0≤i
 ·have hj:i.toNat=j:=by
   rw[Uc h0 h5]at h1
   exact KL h1
  exact item_listR pl.isList h0 (by omega) (by rw[hj];simpa using ew) fin hs
 ·have hj:(i+(its.toArray.size:Int)).toNat=j:=by
   rw[Tp (by omega) h4]at h1
   rw[KH,←hl]
   exact KL h1
  exact Tg (x:=w) pl.isList.typeIs slot_list_getitem.lookup
   (wpAny_getItem_list_neg (Q:=fun r s'=>r=w∧EP X pins σ Q r s') pl.isList (by omega) (by rw[KH]<;>omega) (by omega) (by rw[hj];simpa using ew) ⟨rfl,fin⟩) hs
theorem BJ:IxR X (DN X.K):=by
 intro value slice pins s σ H x y v u Q I rx ry h hs
 obtain⟨p,xs,i,z,rfl,rfl,hq,he,q⟩:=h
 cases rx
 obtain⟨t,rfl⟩:=ry
 obtain⟨its,r,pl,hz⟩:=I.tuple hq
 obtain⟨j,h1,h2,h3,h4,h5⟩:=iK he
 obtain⟨w,ew,rw'⟩:=r.get h2
 have hl:=r.length
 have hn:=iL
 have fin:EP X pins σ Q w s:=⟨z,H,I,rw',q⟩
 exact Tg (x:=w) pl.typeIs slot_tuple_getitem.lookup
  (getItem_tuple (j:=j) (Q:=fun r s'=>r=w∧EP X pins σ Q r s') pl (by omega) (by omega) (by rw[KH,←hl];exact h1) (by simpa using ew) ⟨rfl,fin⟩) hs
theorem CC:IxR X Ce:=by
 intro value slice pins s σ H x y v u Q I rx ry h hs
 obtain⟨z,i,c,rfl,rfl,hz,he,q⟩:=h
 obtain⟨t,rfl⟩:=rx
 obtain⟨t',rfl⟩:=ry
 obtain⟨j,h1,h2,h3,h4,h5⟩:=iK he
 have hl:z.cps.toList.length=z.length:=by simp[QD]
 rw[hl]at h1 h4 h5
 have hn:=iL
 exact tail_any (UF s z t) slot_str_getitem.lookup (getItem_str (c:=c) (by
  have e1:decide (i< -(2^63:Int))=false:=decide_eq_false (by omega)
  have e2:decide (i≥2^63)=false:=decide_eq_false (by omega)
  rw[e1,e2,Uz]) (by rw[h1];simpa using h2) ⟨.str ⟨#[c]⟩,H,I.tok _,⟨_,rfl⟩,q⟩) hs
def rIx (K:tx):R2:=fun x y H Q=>BX K x y H Q∨DN K x y H Q∨Ce x y H Q
theorem Ew:IxR X (rIx X.K):=Am.or (BJ.or CC)
theorem uw (its:List Gt)(n j:Nat)(u:Gt):MA (·.setIfInBounds j u) {cls:=.type "list",data:=.seq its.toArray n}={cls:=.type "list",data:=.seq (its.set j u).toArray n}:=by
 simp[MA]
theorem Inv.lst {pins:List (Addr×Obj)}{σ:St}{H:Hp}{s:Ky}{p:Addr}{xs:List V}(I:Inv X pins σ H s)(h:H p=some (.lst xs)):
  ∃(its:List Gt)(n:Nat),aO xs its∧s.heap.get? p=some {cls:=.type "list",data:=.seq its.toArray n}∧xs.length≤sizeLine:=by
 obtain⟨z,its,n,r,e⟩:=I.hok p _ h
 exact⟨its,n,r,e,z⟩
theorem Inv.lstUpd {pins:List (Addr×Obj)}{σ:St}{H:Hp}{s:Ky}{p:Addr}{xs ys:List V}{its its':List Gt}{n n':Nat}{f:Obj→Obj}(I:Inv X pins σ H s)(h:H p=some (.lst xs))
  (ho:s.heap.get? p=some {cls:=.type "list",data:=.seq its.toArray n})(hf:f {cls:=.type "list",data:=.seq its.toArray n}={cls:=.type "list",data:=.seq its'.toArray n'})(r:aO ys its')(hz:ys.length≤sizeLine)(t:Nat):
  Inv X pins σ (upd H p (.lst ys)) {s with heap:=s.heap.update p f,toks:=t}:=by
 have e:(s.heap.update p f).get? p=some {cls:=.type "list",data:=.seq its'.toArray n'}:=by
  rw[Ls f ho (by rw[hf]<;>rfl),hf]
 refine I.write (x:=p) (e:=p) (by rw[h];trivial) (.inl rfl) (fun b u hb q=>(LG _ _ (Lg hb)).trans q) ⟨_,e⟩ ?_
 exact⟨hz,its',n',r,e⟩
def zv:V→V→V→Hp→(Hp→Prop)→Prop:=fun o i v H Q=>∃p xs k j,o=.ref p∧i=.int k∧H p=some (.lst xs)∧ixN xs.length k=some j∧Q (upd H p (.lst (xs.set j v)))
theorem xO:uH X zv:=by
 intro pins s σ H o i v ov iv u Q I ro ri rv h
 obtain⟨p,xs,k,j,rfl,rfl,hp,hj,q⟩:=h
 cases ro
 obtain⟨t,rfl⟩:=ri
 obtain⟨its,n,r,ho,hz⟩:=I.lst hp
 obtain⟨h1,h2,h3,h4⟩:=si hj
 have hl:=r.length
 have hn:=iL
 have I':Inv X pins σ (upd H p (.lst (xs.set j v))) {s with heap:=s.heap.update p (MA (·.setIfInBounds j u))}:=
  I.lstUpd hp ho (uw its n j u) (r.set rv j) (by rw[List.length_set];exact hz) s.toks
 by_cases h0:0≤k
 ·have hk:k.toNat=j:=by
   rw[Uc h0 h4]at h1
   exact KL h1
  exact W.ki_setAt ho h0 (by omega) (by rw[KH,←hl];exact h4) (by rw[hk];exact⟨_,I',q⟩)
 ·have hk:(k+(its.toArray.size:Int)).toNat=j:=by
   rw[Tp (by omega) h3]at h1
   rw[KH,←hl]
   exact KL h1
  exact W.ki_setBack ho (by omega) (by rw[KH,←hl];exact h3) (by omega) (by rw[hk];exact⟨_,I',q⟩)
theorem qH (lo hi:Option Int)(n:Nat):(sliceBounds lo hi none n).1=((HT.sIx n 0 lo:Nat):Int)∧(sliceBounds lo hi none n).2.1=((HT.sIx n n hi:Nat):Int)∧(sliceBounds lo hi none n).2.2=1:=by
 refine⟨?_,?_,rfl⟩
 ·cases lo with
  |none=>simp[sliceBounds,HT.sIx]
  |some i=>
   simp only[sliceBounds,HT.sIx,SY,show(1:Int)>0 by decide,if_true]
   by_cases h:i<0
   ·simp only[h,if_true]<;>omega
   ·simp only[h,if_false]<;>omega
 ·cases hi with
  |none=>simp[sliceBounds,HT.sIx]
  |some i=>
   simp only[sliceBounds,HT.sIx,SY,show(1:Int)>0 by decide,if_true]
   by_cases h:i<0
   ·simp only[h,if_true]<;>omega
   ·simp only[h,if_false]<;>omega
theorem oZ (its:List Gt)(lo hi:Option Int):slicePick its.toArray lo hi none=((its.drop (HT.sIx its.length 0 lo)).take (HT.sIx its.length its.length hi- HT.sIx its.length 0 lo)).toArray:=by
 obtain⟨h1,h2,h3⟩:=qH lo hi its.toArray.size
 unfold slicePick
 rw[h1,h2,h3]
 simp only[sliceRange_one,pick_run,KH]<;>rfl
def Dj (K:tx):V→Option Int→Option Int→Hp→VK→Prop:=fun x lo hi H Q=>∃a xs,x=.ref a∧SqL K H a xs∧∀p,H p=none→Q (.ref p) (upd H p (.lst (eT xs lo hi)))
theorem Bj:SlR X (Dj X.K):=by
 intro pins s σ H x v vl vu lo hi sl Q I rx hs pl pu h
 obtain⟨a,xs,rfl,hx,q⟩:=h
 cases rx
 obtain⟨its,r,ht,hz⟩:=I.list hx
 have hlen:=r.length
 refine⟨"list",_,slot_list_getitem.lookup,ht.isList.typeIs,?_⟩
 refine wpAny_getItem_list_slice ht.isList hs pl pu .none (by simp) ?_ (by rw[KH]<;>omega)
 rw[oZ,←hlen]
 refine⟨.ref s.heap.objs.size,_,I.laid (t':=s.toks) (o:=.lst (eT xs lo hi)) (fun b ob q=>gV _ q) (KA _) ?_,rfl,q _ (I.hok.fresh (KA _))⟩
 exact⟨KR (ls xs lo hi) hz,_,0,(r.drop (HT.sIx xs.length 0 lo)).take (HT.sIx xs.length xs.length hi- HT.sIx xs.length 0 lo),KG _ rfl⟩
theorem bC.or {f:Gt}{r r':List V→Hp→VK→Prop}(h:bC X f r)(h':bC X f r'):bC X f (fun xs H Q=>r xs H Q∨r' xs H Q):=by
 intro pins s σ H xs us Q I rs q
 rcases q with q|q
 ·exact h pins s σ H xs us Q I rs q
 ·exact h' pins s σ H xs us Q I rs q
theorem rj:bC X (.type "list") (fun xs H Q=>∃p ys,xs=[.ref p]∧(SqL X.K H p ys∨SqT X.K H p ys)∧∀l,H l=none→Q (.ref l) (upd H l (.lst ys))):=by
 intro pins s σ H xs us Q I r h
 obtain⟨p,ys,rfl,hq,q⟩:=h
 obtain⟨u,rfl,rx⟩:=eN r
 cases rx
 have fin:∀(its:List Gt),aO ys its→ys.length≤sizeLine→∀(h':Heap)(c':Nat),(∀b o',s.heap.get? b=some o'→h'.get? b=some o')→
   h'.get? s.heap.objs.size=some {cls:=.type "list",dict:=none,data:=.seq its.toArray c',slots:=#[]}→EP X pins σ Q (.ref s.heap.objs.size) {s with heap:=h'}:=fun its r' hz h' c' kp e=>
  ⟨.ref s.heap.objs.size,_,I.laid (t':=s.toks) kp (KA _) (show aT X.prog X.w _ h' _ (.lst ys)from⟨hz,its,c',r',e⟩),rfl,q _ (I.hok.fresh (KA _))⟩
 rcases hq with hq|hq
 ·obtain⟨its,r',pl,hz⟩:=I.list hq
  have hlen:=r'.length
  obtain⟨o,ho,hc,n,hd⟩:=pl.isList
  exact call_list_seq p (.inl rfl) ho hc hd (fun h' c' kp e=>fin its r' hz h' c' kp e) (by simp only[KH]<;>omega)
 ·obtain⟨its,r',pl,hz⟩:=I.tuple hq
  have hlen:=r'.length
  obtain⟨o,ho,hc,n,hd⟩:=pl
  exact call_list_seq p (.inr rfl) ho hc hd (fun h' c' kp e=>fin its r' hz h' c' kp e) (by simp only[KH]<;>omega)
theorem oV:bC X (.type "tuple") (fun xs H Q=>∃p ys,xs=[.ref p]∧((SqL X.K H p ys∧∀l,H l=none→Q (.ref l) (upd H l (.tup ys)))∨(SqT X.K H p ys∧Q (.ref p) H))):=by
 intro pins s σ H xs us Q I r h
 obtain⟨p,ys,rfl,h⟩:=h
 obtain⟨u,rfl,rx⟩:=eN r
 cases rx
 rcases h with⟨hq,q⟩|⟨hq,q⟩
 ·obtain⟨its,r',pl,hz⟩:=I.list hq
  have hlen:=r'.length
  refine call_tuple_list pl.isList (fun h' kp=>?_) (by simp only[KH]<;>omega)
  have I1:Inv X pins σ H {s with heap:=h'}:=I.kept (t':=s.toks) kp
  have I2:Inv X pins σ (upd H h'.objs.size (.tup ys)) {s with heap:=h'.push {cls:=.type "tuple",data:=.seq its.toArray}}:=
   I1.laid (t':=s.toks) (fun b o e=>gV _ e) (KA _) (show aT X.prog X.w _ _ _ (.tup ys)from⟨hz,its,r',RS _ _⟩)
  exact⟨.ref h'.objs.size,_,I2,rfl,q _ (I1.hok.fresh (KA _))⟩
 ·obtain⟨its,r',pl,hz⟩:=I.tuple hq
  exact call_tuple_same pl ⟨.ref p,H,I,rfl,q⟩
def tyV (K:tx)(T:String)(x:V)(H:Hp):Prop:=match x with
 |.str _=>T="str"
 |.int _=>T="int"
 |.ref p=>(T="list"∧∃xs,SqL K H p xs)∨(T="tuple"∧∃o,K.lookup p=some o∧o.cls=.type "tuple"∧o.dict=none)∨
  (T="dict"∧((∃kvs,H p=some (.dK kvs))∨∃kvs,H p=some (.dT kvs)))∨(T="set"∧∃S n,H p=some (.set S n))
 |_=>False
theorem vK {pins:List (Addr×Obj)}{σ:St}{H:Hp}{s:Ky}{T:String}{x:V}{v:Gt}(I:Inv X pins σ H s)(r:aK x v)(ty:tyV X.K T x H):
  s.TypeIs v T∧∀a,v=.ref a→∃ob,s.heap.get? a=some ob∧ob.dict=none:=by
 cases x with
 |str z=>
  obtain⟨t,rfl⟩:=r
  cases (show T="str" from ty)
  exact⟨UF s z t,fun _ e=>nomatch e⟩
 |int i=>
  obtain⟨t,rfl⟩:=r
  cases (show T="int" from ty)
  exact⟨typeIs_int s i t,fun _ e=>nomatch e⟩
 |ref p=>
  cases r
  rcases ty with⟨rfl,xs,hq⟩|⟨rfl,o,hk,hc,hd⟩|⟨rfl,hk⟩|⟨rfl,S,n,hk⟩
  ·obtain⟨its,_,pl,_⟩:=I.list hq
   refine⟨pl.isList.typeIs,fun a e=>?_⟩
   cases e
   obtain⟨o,n,e,c,hd,_⟩:=pl
   exact⟨o,e,hd⟩
  ·refine⟨⟨o,I.kIn p o hk,hc⟩,fun a e=>?_⟩
   cases e
   exact⟨o,I.kIn _ o hk,hd⟩
  ·have z:∃o,s.heap.get? p=some o∧o.ExactDict:=by
    rcases hk with⟨kvs,hk⟩|⟨kvs,hk⟩
    ·obtain⟨_,_,_,_,o,_,_,e,ex,_⟩:=I.hok p _ hk
     exact⟨o,e,ex⟩
    ·obtain⟨_,_,_,_,o,_,_,e,ex,_⟩:=I.hok p _ hk
     exact⟨o,e,ex⟩
   obtain⟨o,e,ex⟩:=z
   refine⟨⟨o,e,ex.1⟩,fun a e2=>?_⟩
   cases e2
   exact⟨o,e,ex.2.1⟩
  ·obtain⟨o,_,_,_,e,ex,_⟩:=I.hok p _ hk
   refine⟨⟨o,e,ex.1⟩,fun a e2=>?_⟩
   cases e2
   exact⟨o,e,ex.2.1⟩
 |_=>exact Ll ty
def yx (K:tx)(T:String)(r:V→List V→Hp→VK→Prop)(to:TE):TE:=fun σ H Q=>to σ H fun x H1=>tyV K T x H1∧r x [] H1 Q
def tBM (K:tx)(T:String)(r:V→List V→Hp→VK→Prop)(to:TE)(t:TA):TE:=fun σ H Q=>to σ H fun x H1=>tyV K T x H1∧t σ H1 fun xs H2=>r x xs H2 Q
variable {o e:Expr}{es:List Expr}{to:TE}{t:TA}{name:Str}{apos cpos:Pos}{T id:String}{r:V→List V→Hp→VK→Prop}
theorem CV (pa:Rb T)(slot:Slot T name id)(hty:typeOf (.builtin id)=pure (.type "method_descriptor"))(hm:MtR X id r)(ho:PE X o to)
  (hbase:attributeBase o name X.env (eval o X.env)=eval o X.env:=by rfl)(hline:(apos.endLine==cpos.line)=true:=by rfl):PE X (.Call (.Attribute o name apos) [] [] cpos) (yx X.K T r to):=by
 intro pins s σ H Q I h
 refine wpAny_Call_method0_late hbase hline (thn (ho pins s σ H _ I h) fun v s1 ⟨x,H1,I1,r1,ty,q1⟩=>?_)
 obtain⟨h1,h2⟩:=vK I1 r1 ty
 exact⟨T,id,pa,slot,hty,h1,h2,RF rfl (PySem.evalArgs_none (hm pins s1 σ H1 x [] v [] Q I1 r1 .nil q1))⟩
theorem EY (pa:Rb T)(slot:Slot T name id)(hty:typeOf (.builtin id)=pure (.type "method_descriptor"))(hm:MtR X id r)(ho:PE X o to)(ha:PA X (e::es) t)
  (hbase:attributeBase o name X.env (eval o X.env)=eval o X.env:=by rfl)
  (hfew:((backTo cpos (starEach (e::es) X.env)).all (fun x=> !x.1)&&(backToKw cpos (keywordEach [] X.env)).all (fun x=>x.1.isSome)
   &&decide ((e::es).length+([]:List Keyword).length+(if ([]:List Keyword).isEmpty then 0 else 1)<30))=true:=by rfl)
  (hline:(apos.endLine==cpos.line)=true:=by rfl)(hs:starEach (e::es) X.env=(false,eval e X.env)::starEach es X.env:=by rfl)(hplain:(backTo cpos (starEach es X.env)).any (·.1)=false:=by rfl):
  PE X (.Call (.Attribute o name apos) (e::es) [] cpos) (tBM X.K T r to t):=by
 intro pins s σ H Q I h
 refine wpAny_Call_method_late hbase hfew hline rfl (thn (ho pins s σ H _ I h) fun v s1 ⟨x,H1,I1,r1,ty,q1⟩=>?_)
 obtain⟨h1,h2⟩:=vK I1 r1 ty
 refine⟨T,id,pa,slot,hty,h1,h2,?_⟩
 have hA:=ha cpos pins s1 σ H1 _ I1 q1
 rw[hs]at hA⊢
 refine RF (by show(false||(backTo cpos (starEach es X.env)).any (·.1))=false;rw[hplain]<;>rfl) (Calls.evalArgs_plain ?_)
 exact thn hA fun us s2 ⟨vs,H2,I2,r2,q2⟩=>hm pins s2 σ H2 x vs v us Q I2 r1 r2 q2
end
def MtM (X:Cx)(id:String)(r:V→List V→Hp→VK→Prop):Prop:=
 ∀(pins:List (Addr×Obj))(s:Ky)(σ:St)(H:Hp)(x:V)(xs:List V)(v:Gt)(us:List Gt)(Q:VK),Inv X pins σ H s→aK x v→aO xs us→r x xs H Q→
  wpAny (model X.prog X.w) X.A (call (.builtin id) (v::us)) (EP X pins σ Q) X.xe s
theorem aO.one:∀{x:V}{us:List Gt},aO [x] us→∃u,us=[u]∧aK x u
 |_,_,.cons r .nil=>⟨_,rfl,r⟩
theorem aO.two:∀{x y:V}{us:List Gt},aO [x,y] us→∃u v,us=[u,v]∧aK x u∧aK y v
 |_,_,_,.cons r (.cons q .nil)=>⟨_,_,rfl,r,q⟩
theorem aO.reverse {xs:List V}{us:List Gt}(h:aO xs us):aO xs.reverse us.reverse:=by
 induction h with
 |nil=>exact .nil
 |cons r t ih=>rw[NZ,NZ];exact aO.append ih (.cons r .nil)
section
variable {X:Cx}{pins:List (Addr×Obj)}{σ:St}{H:Hp}{s:Ky}{l b:Addr}{xs ys zs:List V}
theorem Inv.lset {its its':List Gt}{n:Nat}{f:Array Gt→Array Gt}{t':Nat}(I:Inv X pins σ H s)(hH:H l=some (.lst xs))
  (e:s.heap.get? l=some {cls:=.type "list",data:=.seq its.toArray n})(hf:f its.toArray=its'.toArray)(hv:aO ys its')(hz:ys.length≤sizeLine):
  Inv X pins σ (upd H l (.lst ys)) {s with heap:=s.heap.update l (MA f),toks:=t'}:=by
 have q:=PySem.IsL.update e f
 rw[hf]at q
 refine I.write (x:=l) (e:=l) (by rw[hH];exact trivial) (.inl rfl) (fun b' u hb hu=>(LG s.heap (MA f) (Lg hb)).trans hu) ⟨_,q⟩ ?_
 exact⟨hz,its',_,hv,q⟩
theorem Inv.lnew {its:List Gt}{t':Nat}(I:Inv X pins σ H s)(hv:aO ys its)(hz:ys.length≤sizeLine):
  Inv X pins σ (upd H s.heap.objs.size (.lst ys)) {s with heap:=s.heap.push {cls:=.type "list",data:=.seq its.toArray},toks:=t'}:=
 I.laid (fun _ _ q=>gV _ q) (KA _) ⟨hz,its,0,hv,KG _ rfl⟩
theorem Inv.fresh (I:Inv X pins σ H s):H s.heap.objs.size=none:=I.hok.fresh (KA _)
theorem Inv.lstM (I:Inv X pins σ H s)(hH:H l=some (.lst xs)):xs.length≤sizeLine∧∃(its:List Gt)(n:Nat),aO xs its∧xs.length=its.length∧s.heap.get? l=some {cls:=.type "list",data:=.seq its.toArray n}:=by
 obtain⟨z,its,n,r,e⟩:=I.hok l _ hH
 exact⟨z,its,n,r,r.length,e⟩
end
section
variable {X:Cx}
def df:V→List V→Hp→VK→Prop:=fun x vs H Q=>∃l xs y,x=.ref l∧vs=[y]∧H l=some (.lst xs)∧xs.length<sizeLine∧Q .non (upd H l (.lst (xs++[y])))
theorem cp:MtM X "list.append" df:=by
 intro pins s σ H x vs v us Q I rx rv h
 obtain⟨l,xs,y,rfl,rfl,hH,hz,q⟩:=h
 cases rx
 obtain⟨u,rfl,ru⟩:=rv.one
 obtain⟨z,its,n,r,hl,e⟩:=I.lstM hH
 refine UG Lo ⟨_,e,rfl⟩ F.entry_list_append (F.args_list_append_2 _ _) (PySem.list_append l its.toArray n u (by rw[KH];omega)) ⟨e,?_⟩
 refine⟨.non,_,I.lset (its':=its++[u]) hH e (by simp) (r.append (.cons ru .nil)) ?_,rfl,q⟩
 rw[KI,Se]
 omega
def Dd:R2:=fun x y H Q=>∃l b xs zs,x=.ref l∧y=.ref b∧H l=some (.lst xs)∧H b=some (.lst zs)∧xs.length+zs.length≤sizeLine∧∀p,H p=none→Q (.ref p) (upd H p (.lst (xs++zs)))
theorem DG:OpR X (binaryOp .Add) Dd:=by
 intro pins s σ H x y v u Q I rx ry h
 obtain⟨l,b,xs,zs,rfl,rfl,hH,hB,hz,q⟩:=h
 cases rx
 cases ry
 obtain⟨z,its,n,r,hl,e⟩:=I.lstM hH
 obtain⟨z2,its2,n2,r2,hl2,e2⟩:=I.lstM hB
 refine PySem.P.add_list e e2 ?_ (by rw[KH,KH];omega)
 have ea:its.toArray++its2.toArray=(its++its2).toArray:=by simp
 rw[ea]
 exact⟨.ref _,_,I.lnew (t':=s.toks) (r.append r2) (by rw[KI];omega),rfl,q _ I.fresh⟩
end
section
variable {prog:KS}{w:LI}{A:Lj}{E:Gt→Ky→Prop}{s:Ky}
set_option maxRecDepth 100000 in
end
section
variable {κ:Type}[DecidableEq κ]
def bh (kvs:List (κ×V))(k:κ):Option V:=(kvs.find? fun kv=>decide (kv.1=k)).map (·.2)
def bx (kvs:List (κ×V))(k:κ)(v:V):List (κ×V):=
 if (kvs.any fun kv=>decide (kv.1=k))=true then kvs.map (fun kv=>if kv.1=k then(kv.1,v)else kv)else kvs++[(k,v)]
theorem cO {p:κ×V}{r:List (κ×V)}{k:κ}(e:p.1=k):bh (p::r) k=some p.2:=by simp[bh,NQ,e]
theorem cQ {p:κ×V}{r:List (κ×V)}{k:κ}(e:¬p.1=k):bh (p::r) k=bh r k:=by simp[bh,NQ,e]
theorem gX (k:κ):∀kvs:List (κ×V),(kvs.any fun kv=>decide (kv.1=k))=(bh kvs k).isSome
 |[]=>rfl
 |p::r=>by
  rw[RL]
  by_cases e:p.1=k
  ·simp only[cO e,decide_eq_true e,Bool.true_or,Option.isSome_some]
  ·rw[cQ e,decide_eq_false e,Bool.false_or];exact gX k r
theorem qy (k j:κ)(y:V):∀kvs:List (κ×V),bh (kvs.map fun kv=>if kv.1=k then(kv.1,y)else kv) j=(bh kvs j).map fun x=>if j=k then y else x
 |[]=>rfl
 |p::r=>by
  have ih:=qy k j y r
  rw[Lm]
  by_cases h:p.1=k
  ·rw[if_pos h]
   by_cases e:p.1=j
   ·rw[cO (p:=(p.1,y)) e,cO e,NM,if_pos (e.symm.trans h)]
   ·rw[cQ (p:=(p.1,y)) e,cQ e,ih]
  ·rw[if_neg h]
   by_cases e:p.1=j
   ·rw[cO (p:=p) e,cO e,NM,if_neg (fun z=>h (e.trans z))]
   ·rw[cQ (p:=p) e,cQ e,ih]
theorem oA (k j:κ)(y:V):∀kvs:List (κ×V),bh kvs k=none→bh (kvs++[(k,y)]) j=if j=k then some y else bh kvs j
 |[],_=>by
  by_cases e:k=j
  ·rw[if_pos e.symm];exact cO (p:=(k,y)) e
  ·rw[if_neg (fun z=>e z.symm)];exact cQ (p:=(k,y)) e
 |p::r,hn=>by
  rw[List.cons_append]
  have hk:¬p.1=k:=fun z=>by rw[cO z]at hn;cases hn
  rw[cQ hk]at hn
  have ih:=oA k j y r hn
  by_cases e:p.1=j
  ·rw[cO e,cO e,if_neg (fun z=>hk (e.trans z))]
  ·rw[cQ e,cQ e,ih]
theorem fV (kvs:List (κ×V))(k j:κ)(y:V):bh (bx kvs k y) j=if j=k then some y else bh kvs j:=by
 unfold bx
 by_cases a:(kvs.any fun kv=>decide (kv.1=k))=true
 ·rw[if_pos a,qy]
  rw[gX]at a
  by_cases e:j=k
  ·obtain⟨x,hx⟩:=Lu.mp a
   rw[if_pos e,e,hx,NM,if_pos rfl]
  ·rw[if_neg e]
   cases bh kvs j with
   |none=>rfl
   |some x=>rw[NM,if_neg e]
 ·rw[if_neg a]
  refine oA k j y kvs ?_
  rw[gX]at a
  cases q:bh kvs k with
  |none=>rfl
  |some x=>rw[q]at a;exact(a rfl).elim
theorem eK (kvs:List (κ×V))(k:κ)(v:V):(bx kvs k v).length≤kvs.length+1:=by
 unfold bx
 split
 ·rw[Kz];omega
 ·rw[KI,LO,TZ];omega
theorem qR {kvs:List (κ×V)}{k:κ}(v:V)(h:bh kvs k=none):bx kvs k v=kvs++[(k,v)]:=by
 unfold bx
 rw[gX,h]
 exact if_neg (by decide)
theorem cF.isSome_eq {o:Option V}{u:Option Gt}(r:cF o u):o.isSome=u.isSome:=by
 cases o with
 |none=>cases u with
  |none=>rfl
  |some _=>exact(show False from r).elim
 |some _=>cases u with
  |none=>exact(show False from r).elim
  |some _=>rfl
theorem cF.getD {o:Option V}{u:Option Gt}{d:V}{d':Gt}(r:cF o u)(rd:aK d d'):aK (o.getD d) (u.getD d'):=by
 cases o with
 |none=>cases u with
  |none=>exact rd
  |some _=>exact(show False from r).elim
 |some _=>cases u with
  |none=>exact(show False from r).elim
  |some _=>exact r
theorem KV.val {kvs:List (κ×V)}{vs:List (κ×Gt)}(r:KV kvs vs)(k:κ):cF (bh kvs k) (valueAt vs k):=by
 unfold KV at r
 induction r with
 |nil=>exact MF
 | @cons p q ps qs h t ih=>
   obtain⟨h1,h2⟩:=h
   by_cases e:p.1=k
   ·have e':q.1=k:=h1.symm.trans e
    have b:valueAt (q::qs) k=some q.2:=by simp[valueAt,NQ,e']
    rw[cO e,b];exact h2
   ·have e':¬q.1=k:=fun z=>e (h1.trans z)
    have b:valueAt (q::qs) k=valueAt qs k:=by simp[valueAt,NQ,e']
    rw[cQ e,b];exact ih
theorem KV.any {kvs:List (κ×V)}{vs:List (κ×Gt)}(r:KV kvs vs)(k:κ):(kvs.any fun kv=>decide (kv.1=k))=vs.any fun kv=>decide (kv.1=k):=by
 unfold KV at r
 induction r with
 |nil=>rfl
 |cons h t ih=>rw[RL,RL,ih,h.1]
theorem KV.repl {kvs:List (κ×V)}{vs:List (κ×Gt)}(r:KV kvs vs)(k:κ){y:V}{u:Gt}(ry:aK y u):
  KV (kvs.map fun kv=>if kv.1=k then(kv.1,y)else kv) (vs.map fun kv=>if kv.1=k then(kv.1,u)else kv):=by
 unfold KV at r⊢
 induction r with
 |nil=>exact .nil
 | @cons p q ps qs h t ih=>
   rw[Lm,Lm]
   refine .cons ?_ ih
   obtain⟨h1,h2⟩:=h
   by_cases e:p.1=k
   ·rw[if_pos e,if_pos (h1.symm.trans e)];exact⟨h1,ry⟩
   ·rw[if_neg e,if_neg (fun z=>e (h1.trans z))];exact⟨h1,h2⟩
theorem KV.put {kvs:List (κ×V)}{vs:List (κ×Gt)}(r:KV kvs vs)(k:κ){y:V}{u:Gt}(ry:aK y u):KV (bx kvs k y) (stored vs k u):=by
 unfold bx stored
 rw[r.any k]
 by_cases e:(vs.any fun kv=>decide (kv.1=k))=true
 ·rw[if_pos e,if_pos e];exact r.repl k ry
 ·rw[if_neg e,if_neg e];exact Paired.snoc r ⟨rfl,ry⟩
theorem KV.length {kvs:List (κ×V)}{vs:List (κ×Gt)}(r:KV kvs vs):kvs.length=vs.length:=Paired.length r
end
theorem iD {P:KS}{w:LI}{k:Key}{u:Gt}(r:aK (kV k) u):(bP P w).is k u=true:=by
 cases k with
 |inl i=>obtain⟨t,e⟩:=(show ∃t,u=OL i t from r);subst e;exact rO P w i t
 |inr x=>obtain⟨t,e⟩:=(show ∃t,u=Oc x t from r);subst e;exact rB P w x t
theorem mF {a b:Key}(e:kV a=kV b):a=b:=by
 cases a with
 |inl i=>cases b with
  |inl j=>have e':V.int i=V.int j:=e;injection e' with e';rw[e']
  |inr y=>exact nomatch (show V.int i=V.str y from e)
 |inr x=>cases b with
  |inl j=>exact nomatch (show V.str x=V.int j from e)
  |inr y=>have e':V.str x=V.str y:=e;injection e' with e';rw[e']
theorem iW:∀{a b:List Key},a.map kV=b.map kV→a=b
 |[],[],_=>rfl
 |[],_::_,e=>by simp at e
 |_::_,[],e=>by simp at e
 |x::xs,y::ys,e=>by
  rw[Lm,Lm]at e
  injection e with e1 e2
  rw[mF e1,iW e2]
theorem oE {P:KS}{w:LI}:∀{ks:List Key}{us:List Gt},aO (ks.map kV) us→ItemsAre (bP P w) ks us
 |[],_,r=>by rw[Qw]at r;cases r;exact .nil
 |k::ks,_,r=>by
  rw[Lm]at r
  cases r with
  |cons h t=>exact .cons (iD h) (oE t)
abbrev KT (H:Hp):List (List Key×V)→List (List Key×Addr×Gt)→Prop:=Paired fun p q=>p.1=q.1∧H q.2.1=some (.tup (p.1.map kV))∧aK p.2 q.2.2
theorem KT.val {H:Hp}{kvs:List (List Key×V)}{xs:List (List Key×Addr×Gt)}(r:KT H kvs xs)(k:List Key):cF (bh kvs k) ((atKey xs k).map (·.2)):=by
 induction r with
 |nil=>exact MF
 | @cons p q ps qs h t ih=>
   obtain⟨h1,_,h2⟩:=h
   by_cases e:p.1=k
   ·have e':q.1=k:=h1.symm.trans e
    have b:atKey (q::qs) k=some q.2:=by simp[atKey,NQ,e']
    rw[cO e,b];exact h2
   ·have e':¬q.1=k:=fun z=>e (h1.trans z)
    have b:atKey (q::qs) k=atKey qs k:=by simp[atKey,NQ,e']
    rw[cQ e,b];exact ih
theorem KT.repl {H:Hp}{kvs:List (List Key×V)}{xs:List (List Key×Addr×Gt)}(r:KT H kvs xs)(k:List Key){y:V}{u:Gt}(ry:aK y u):
  KT H (kvs.map fun kv=>if kv.1=k then(kv.1,y)else kv) (xs.map (putAt k u)):=by
 induction r with
 |nil=>exact .nil
 | @cons p q ps qs h t ih=>
   rw[Lm,Lm]
   refine .cons ?_ ih
   obtain⟨h1,h2,h3⟩:=h
   unfold putAt
   by_cases e:p.1=k
   ·rw[if_pos e,if_pos (h1.symm.trans e)];exact⟨h1,h2,ry⟩
   ·rw[if_neg e,if_neg (fun z=>e (h1.trans z))];exact⟨h1,h2,h3⟩
theorem KT.put {H:Hp}{kvs:List (List Key×V)}{xs:List (List Key×Addr×Gt)}(r:KT H kvs xs)(k:List Key){b:Addr}{y:V}{u:Gt}(hb:H b=some (.tup (k.map kV)))(ry:aK y u):
  KT H (bx kvs k y) (storedH xs k b u):=by
 have e:(kvs.any fun kv=>decide (kv.1=k))=(atKey xs k).isSome:=by
  rw[gX,(r.val k).isSome_eq,Qh]
 unfold bx storedH
 rw[e]
 by_cases q:(atKey xs k).isSome=true
 ·rw[if_pos q,if_pos q];exact r.repl k ry
 ·rw[if_neg q,if_neg q];exact Paired.snoc r ⟨rfl,hb,ry⟩
theorem KT.keeps {H H':Hp}{kvs:List (List Key×V)}{xs:List (List Key×Addr×Gt)}(r:KT H kvs xs)(ht:∀b ys,H b=some (.tup ys)→H' b=some (.tup ys)):KT H' kvs xs:=
 Paired.mapP r fun _ _ z=>⟨z.1,ht _ _ z.2.1,z.2.2⟩
section
variable {P:KS}{w:LI}{H:Hp}{h:Heap}{a:Addr}
theorem zP {u:HO}(ok:HOk P w H h)(e:Rd H a u):aT P w H h a u:=e.ok ok
theorem iy {kvs:List (Key×V)}(ok:HOk P w H h)(e:Rd H a (.dK kvs)):kvs.length≤sizeLine∧(a==sysModules)=false∧∃vs,KV kvs vs∧h.DictOf (bP P w) a vs:=
 show aT P w H h a (.dK kvs)from zP ok e
theorem zL {kvs:List (Key×V)}(ok:HOk P w H h)(e:H a=some (.dK kvs)):kvs.length≤sizeLine∧(a==sysModules)=false∧∃vs,KV kvs vs∧h.DictOf (bP P w) a vs:=iy ok (.inl e)
theorem gc {ks:List Key}(ok:HOk P w H h)(e:H a=some (.tup (ks.map kV))):(tupleKind (bP P w)).is h ks a:=by
 obtain⟨_,its,r,o,h1,h2,n,h3⟩:=(show aT P w H h a (.tup (ks.map kV))from ok a _ e)
 exact⟨o,its.toArray,n,h1,h2,h3,by simpa using oE r⟩
theorem jq {kvs:List (List Key×V)}(ok:HOk P w H h)(e:Rd H a (.dT kvs)):kvs.length≤sizeLine∧(a==sysModules)=false∧
  ∃xs,KT H kvs xs∧h.DictOfH (tupleKind (bP P w)) a xs:=by
 obtain⟨z,y,xs,r,o,es,ep,h1,h2,h3,h4,h5⟩:=(show aT P w H h a (.dT kvs)from zP ok e)
 refine⟨z,y,xs,r,o,es,ep,h1,h2,h3,h4,fun x hx=>?_,h5⟩
 have all:∀{l:List (List Key×V)}{m:List (List Key×Addr×Gt)},KT H l m→∀x∈m,(tupleKind (bP P w)).is h x.1 x.2.1:=by
  intro l m q
  induction q with
  |nil=>intro x hx;exact nomatch hx
  | @cons p q ps qs hq t ih=>
    intro x hx
    rcases KY.mp hx with e|hx
    ·subst e
     exact gc ok (by rw[←hq.1];exact hq.2.1)
    ·exact ih x hx
 exact all r x hx
theorem tE {kvs:List (List Key×V)}(ok:HOk P w H h)(e:H a=some (.dT kvs)):kvs.length≤sizeLine∧(a==sysModules)=false∧
 ∃xs,KT H kvs xs∧h.DictOfH (tupleKind (bP P w)) a xs:=jq ok (.inl e)
end
def cB (H:Hp)(a:Addr)(y:V)(r:Option V):Prop:=
 (∃kvs k,Rd H a (.dK kvs)∧y=kV k∧r=bh kvs k)∨∃kvs k b,Rd H a (.dT kvs)∧y=.ref b∧H b=some (.tup (k.map kV))∧r=bh kvs k
def jj (H:Hp)(a:Addr)(y v:V)(H':Hp):Prop:=
 (∃kvs k,H a=some (.dK kvs)∧y=kV k∧kvs.length<sizeLine∧H'=upd H a (.dK (bx kvs k v)))∨
 ∃kvs k b,H a=some (.dT kvs)∧y=.ref b∧H b=some (.tup (k.map kV))∧kvs.length<sizeLine∧H'=upd H a (.dT (bx kvs k v))
theorem cB.k {H:Hp}{a:Addr}{kvs:List (Key×V)}{k:Key}(e:H a=some (.dK kvs)):cB H a (kV k) (bh kvs k):=.inl ⟨kvs,k,.inl e,rfl,rfl⟩
theorem cB.t {H:Hp}{a b:Addr}{kvs:List (List Key×V)}{k:List Key}(e:H a=some (.dT kvs))(eb:H b=some (.tup (k.map kV))):cB H a (.ref b) (bh kvs k):=.inr ⟨kvs,k,b,.inl e,rfl,eb,rfl⟩
theorem jj.k {H:Hp}{a:Addr}{kvs:List (Key×V)}{k:Key}{v:V}(e:H a=some (.dK kvs))(hl:kvs.length<sizeLine):jj H a (kV k) v (upd H a (.dK (bx kvs k v))):=.inl ⟨kvs,k,e,rfl,hl,rfl⟩
theorem jj.t {H:Hp}{a b:Addr}{kvs:List (List Key×V)}{k:List Key}{v:V}(e:H a=some (.dT kvs))(eb:H b=some (.tup (k.map kV)))(hl:kvs.length<sizeLine):
 jj H a (.ref b) v (upd H a (.dT (bx kvs k v))):=.inr ⟨kvs,k,b,e,rfl,eb,hl,rfl⟩
section
variable {X:Cx}{pins:List (Addr×Obj)}{σ:St}{H:Hp}{s:Ky}{a:Addr}{y v:V}{u r:Gt}{o:Option V}{A:Lj}{E:Gt→Ky→Prop}
theorem Inv.big (I:Inv X pins σ H s):sysModules<s.heap.objs.size:=by
 have h:mainGlobals<s.heap.objs.size:=(I.mod.glob.keeps I.bk).lt
 exact Nat.lt_trans (by decide) h
theorem vM {Q:Gt→Ky→Prop}(hu:A.units+1<cLine)(I:Inv X pins σ H s)(g:cB H a y (some v))(ry:aK y u)(h:∀w' s',Inv X pins σ H s'→aK v w'→Q w' s'):
  wpAny (model X.prog X.w) A (getItem (.ref a) u) Q E s:=by
 rcases g with⟨kvs,k,e,ey,l⟩|⟨kvs,k,b,e,ey,eb,l⟩
 ·subst ey
  obtain⟨z,hd,vs,rel,dd⟩:=iy I.hok e
  obtain⟨w',hw,rw'⟩:=cF.some_of (v:=v) (o:=valueAt vs k) (by rw[l];exact rel.val k)
  exact wpAny_getItem_of (iD ry) dd.mapOf hw (h w' _ (I.tok _) rw')
 ·subst ey
  cases (show u=KJ b from ry)
  obtain⟨z,hd,xs,rel,dd⟩:=jq I.hok e
  obtain⟨w',hw,rw'⟩:=cF.some_of (v:=v) (o:=(atKey xs k).map (·.2)) (by rw[l];exact rel.val k)
  obtain⟨p,hp,hp2⟩:=RB.mp hw
  refine wpAny_getItem_heap (Nd hu) (gc I.hok eb) dd hp ?_
  rw[hp2]
  exact h w' _ (I.tok _) rw'
theorem Ko {Q:Gt→Ky→Prop}(hu:A.units+1<cLine)(I:Inv X pins σ H s)(g:cB H a y o)(ry:aK y u)(h:∀s',Inv X pins σ H s'→Q (.bool o.isSome) s'):
  wpAny (model X.prog X.w) A (compareOp .In u (.ref a)) Q E s:=by
 rcases g with⟨kvs,k,e,ey,l⟩|⟨kvs,k,b,e,ey,eb,l⟩
 ·subst ey
  obtain⟨z,hd,vs,rel,dd⟩:=iy I.hok e
  refine wpAny_in_of (iD ry) hd dd.mapOf ?_
  rw[←(rel.val k).isSome_eq,←l]
  exact h _ (I.tok _)
 ·subst ey
  cases (show u=KJ b from ry)
  obtain⟨z,hd,xs,rel,dd⟩:=jq I.hok e
  refine wpAny_in_heap (Nd hu) (gc I.hok eb) hd dd ?_
  have q:=(rel.val k).isSome_eq
  rw[Qh]at q
  rw[←q,←l]
  exact h _ (I.tok _)
theorem Bs {Q:Gt→Ky→Prop}(hu:A.units+1<cLine)(I:Inv X pins σ H s)(g:cB H a y o)(ry:aK y u)(h:∀s',Inv X pins σ H s'→Q (.bool (!o.isSome)) s'):
  wpAny (model X.prog X.w) A (compareOp .NotIn u (.ref a)) Q E s:=by
 rcases g with⟨kvs,k,e,ey,l⟩|⟨kvs,k,b,e,ey,eb,l⟩
 ·subst ey
  obtain⟨z,hd,vs,rel,dd⟩:=iy I.hok e
  refine wpAny_notIn_of (iD ry) hd dd.mapOf ?_
  rw[←(rel.val k).isSome_eq,←l]
  exact h _ (I.tok _)
 ·subst ey
  cases (show u=KJ b from ry)
  obtain⟨z,hd,xs,rel,dd⟩:=jq I.hok e
  refine wpAny_notIn_heap (Nd hu) (gc I.hok eb) hd dd ?_
  have q:=(rel.val k).isSome_eq
  rw[Qh]at q
  rw[←q,←l]
  exact h _ (I.tok _)
theorem kY {h':Heap}{t':Nat}{ob:HO}(I:Inv X pins σ H s)(mu:Mut (H a))(hs:MK a s.heap h')(he:∃q,h'.get? a=some q)(new:aT X.prog X.w (upd H a ob) h' a ob):
  Inv X pins σ (upd H a ob) {s with heap:=h',toks:=t'}:=
 I.write (x:=a) (e:=a) mu (.inl rfl) (fun b q hb z=>(hs.2 b hb).trans z) he new
theorem vU {P:KS}{w:LI}{H':Hp}{h':Heap}{kvs:List (Key×V)}{vs:List (Key×Gt)}(z:kvs.length≤sizeLine)(hd:(a==sysModules)=false)(rel:KV kvs vs)(dd:h'.DictOf (bP P w) a vs):
 aT P w H' h' a (.dK kvs):=⟨z,hd,vs,rel,dd⟩
theorem vC {H':Hp}{Q:Unit→Ky→Prop}(hu:A.units+1<cLine)(I:Inv X pins σ H s)(g:jj H a y v H')(ry:aK y u)(rv:aK v r)(h:∀s',Inv X pins σ H' s'→Q () s'):
  wpAny (model X.prog X.w) A (setItem (.ref a) u r) Q E s:=by
 rcases g with⟨kvs,k,e,ey,l,eH⟩|⟨kvs,k,b,e,ey,eb,l,eH⟩
 ·subst ey eH
  obtain⟨z,hd,vs,rel,dd⟩:=zL I.hok e
  have hz:vs.length≤sizeLine:=by rw[←rel.length];exact z
  have hl:(bx kvs k v).length≤sizeLine:=by have:=eK kvs k v;omega
  refine wpAny_setItem_pairs (hsz:=hz) (iD ry) dd fun h' dd' hs=>h _ ?_
  have he:∃q,h'.get? a=some q:=let ⟨q,_,_,hq,_⟩:=dd';⟨q,hq⟩
  exact kY I (by rw[e];exact MF) hs he (vU hl hd (rel.put k rv) dd')
 ·subst ey eH
  cases (show u=KJ b from ry)
  obtain⟨z,hd,xs,rel,dd⟩:=tE I.hok e
  have hz:xs.length≤sizeLine:=by rw[←Paired.length rel];exact z
  have hl:(bx kvs k v).length≤sizeLine:=by have:=eK kvs k v;omega
  refine wpAny_setItem_heap (hsz:=hz) (Nd hu) (gc I.hok eb) dd fun h' dd' hs=>h _ ?_
  obtain⟨q,es,ep,hq,h2,h3,h4,_,h5⟩:=dd'
  refine kY I (by rw[e];exact MF) hs ⟨q,hq⟩ ⟨hl,hd,_,(rel.put k eb rv).keeps fun c ys ec=>?_,q,es,ep,hq,h2,h3,h4,h5⟩
  rw[ao (aW ec e (fun z=>nomatch z))]
  exact ec
end
section
variable {X:Cx}{pins:List (Addr×Obj)}{σ:St}{H:Hp}{s:Ky}{a:Addr}{kvs:List (Key×V)}{k:Key}{u:Gt}{A:Lj}{E:Gt→Ky→Prop}
theorem FF {Q:Gt→Ky→Prop}(I:Inv X pins σ H s)(e:Rd H a (.dK kvs))(h:∀t s',Inv X pins σ H s'→Q (.int kvs.length t) s'):wpAny (model X.prog X.w) A (call (.builtin "len") [.ref a]) Q E s:=by
 obtain⟨z,hd,vs,rel,dd⟩:=iy I.hok e
 refine call_len_dict hd dd (by rw[←rel.length];rw[Mt]at z;omega) ?_
 rw[←rel.length]
 exact h _ _ (I.tok _)
end
theorem rH {X:Cx}{pins:List (Addr×Obj)}{σ:St}{H:Hp}{s:Ky}{a:Addr}{y:V}{o:Option V}(I:Inv X pins σ H s)(g:cB H a y o):s.TypeIs (.ref a) "dict":=by
 rcases g with⟨kvs,k,e,_,_⟩|⟨kvs,k,b,e,_,_,_⟩
 ·obtain⟨_,_,vs,_,dd⟩:=iy I.hok e
  exact dd.typeIs
 ·obtain⟨_,_,xs,_,dd⟩:=jq I.hok e
  exact dd.typeIs
theorem zj {P:KS}{w:LI}{H:Hp}(h:Heap)(hb:sysModules<h.objs.size):aT P w H (h.push {cls:=.type "dict",data:=.dict #[]}) h.objs.size (.dK []):=
 ⟨Ly _,beq_eq_false_iff_ne.mpr (Lg (KZ hb)),[],.nil,Heap.DictOf.new h⟩
theorem xn {P:KS}{w:LI}{H:Hp}(h:Heap)(hb:sysModules<h.objs.size):aT P w H (h.push {cls:=.type "dict",data:=.dict #[]}) h.objs.size (.dT []):=
 ⟨Ly _,beq_eq_false_iff_ne.mpr (Lg (KZ hb)),[],.nil,_,#[],0,KG _ rfl,⟨rfl,rfl,rfl⟩,rfl,rfl,List.nodup_nil⟩
def wl:TE:=fun _ H Q=>∀p,H p=none→Q (.ref p) (upd H p (.dK []))
def wc:TE:=fun _ H Q=>∀p,H p=none→Q (.ref p) (upd H p (.dT []))
section
variable {X:Cx}{pos:Pos}
theorem yT:PE X (.Dict [] [] pos) wl:=fun pins s σ H Q I h=>
 wpAny_Dict_empty ⟨.ref s.heap.objs.size,_,I.laid (a:=s.heap.objs.size) (o:=.dK []) (t':=s.toks) (fun _ _ q=>gV _ q) (KA _) (zj s.heap I.big),rfl,h _ (I.hok.fresh (KA _))⟩
theorem zg:PE X (.Dict [] [] pos) wc:=fun pins s σ H Q I h=>
 wpAny_Dict_empty ⟨.ref s.heap.objs.size,_,I.laid (a:=s.heap.objs.size) (o:=.dT []) (t':=s.toks) (fun _ _ q=>gV _ q) (KA _) (xn s.heap I.big),rfl,h _ (I.hok.fresh (KA _))⟩
end
section
variable {X:Cx}{pins:List (Addr×Obj)}{σ:St}{H:Hp}{s:Ky}{a:Addr}{y d:V}{u r:Gt}{o:Option V}{A:Lj}{E:Gt→Ky→Prop}
theorem CW {Q:Gt→Ky→Prop}(hu:A.units+1<cLine)(I:Inv X pins σ H s)(g:cB H a y o)(ry:aK y u)(rd:aK d r)(h:∀w' s',Inv X pins σ H s'→aK (o.getD d) w'→Q w' s'):
  wpAny (model X.prog X.w) A (call (.builtin "dict.get") [.ref a,u,r]) Q E s:=by
 rcases g with⟨kvs,k,e,ey,l⟩|⟨kvs,k,b,e,ey,eb,l⟩
 ·subst ey
  obtain⟨z,hd,vs,rel,dd⟩:=iy I.hok e
  refine Qa OW dd.typeIs Ro (Re _ _ _) (meets_dict_get_default (bP X.prog X.w) a (iD ry) hd r) ⟨_,dd.mapOf,h _ _ (I.tok _) ?_⟩
  rw[l]
  exact(rel.val k).getD rd
 ·subst ey
  cases (show u=KJ b from ry)
  obtain⟨z,hd,xs,rel,dd⟩:=jq I.hok e
  refine Qa OW dd.typeIs Ro (Re _ _ _) (meetsH_dict_get_default (tupleKind (bP X.prog X.w)) a b hd r) ⟨Nd hu,k,xs,gc I.hok eb,dd,h _ _ (I.tok _) ?_⟩
  rw[l]
  exact(rel.val k).getD rd
end
end L2
namespace Att
open PySem PySem.W PySem.Calls PyProof.Rows
theorem ints_of_wellAll {P:Params}{h:Heap}:∀(ns:List Int)(vs:List Gt),WellAll P h vs (ns.map WData.int)→Uj vs ns:=by
 intro ns
 induction ns with
 |nil=>
  intro vs w
  rw[Qw]at w
  cases w
  exact .nil
 |cons n ns ih=>
  intro vs w
  rw[Lm]at w
  cases w with
  |cons a b=>
   cases a
   exact .cons _ _ (ih _ b)
theorem script_of {l:OpenLaw}{n:Nat}(hn:l.most=some n){P:Params}{h:Heap}{args:List WData}{vals:List Gt}
  (hpre:l.row.toRowW.claim.pre args=true)(hwl:WellAll P h vals args):
  ∃a vs ns,vals=[KJ a]∧args=[WData.list (ns.map WData.int)]∧h.get? a=some {cls:=.type "list",data:=.seq vs.toArray}∧Uj vs ns∧ns.length≤n:=by
 have hsh:WShape.hasAll [] args [.list .int]=true:=(pre_splitW hpre).1
 have hc:l.pre.holds [] {args:=args}=true:=(pre_splitW hpre).2
 obtain⟨d,r,rfl,h1,h2⟩:=hasAllW_cons hsh
 obtain rfl:=hasAllW_nil h2
 obtain⟨xs,rfl,h3⟩:=hasW_list h1
 obtain⟨ns,rfl⟩:=items_int h3
 have hlen:ns.length≤n:=by
  unfold OpenLaw.pre at hc
  have h4:(WTm.not (.lt (.lit (.int (n:Int))) (.len (.arg 0)))).holds [] {args:=[.list (ns.map .int)]}=true:=by
   have h4:=(holds_andW hc).1
   rw[hn]at h4
   exact h4
  have h5:=condW_of h4 (w_not (w_lt w_lit (w_len_list (w_arg rfl))))
  rw[Kz]at h5
  refine Nat.le_of_not_lt fun q=>?_
  have q':(n:Int)<((ns.length:Nat):Int):=by omega
  first
   |(rw[decide_eq_true q']at h5;exact absurd h5 (by decide))
   |(simp at h5;omega)
 cases hwl with
 |cons w1 w2=>
  cases w2
  cases w1 with
  |list ho hall=>exact⟨_,_,ns,rfl,rfl,ho,ints_of_wellAll ns _ hall,hlen⟩
theorem post_true (l:OpenLaw)(args:List WData):l.row.toRowW.claim.post args (.bool true) args=true:=
 postW_of (r:=l.row.toRowW) (X:=(true==true))
  (show WShape.has [] (.bool true) .bool=true by first|rfl|decide|simp[WShape.has,WShape.arms,WShape.armsAll])
  (show(WTm.eq .res (.lit (.bool true))).value [] {args:=args,res:=some (.bool true),after:=args}=some (.bool (true==true))from w_eq_bool (w_res rfl) w_lit) rfl
theorem attach_call {l:OpenLaw}{n:Nat}{q:KS}{loose:List Str}{XP:(Str→Option Gt)→Heap→Prop}{YP:LI→Heap→Prop}{d:DefRec}
  (hn:l.most=some n)(hdf:d.params.defaults=[])
  (call:∀(w:LI)(s₀ s₁:Ky)(mg mb:Str→Option Gt)(fa:Addr)(o:Obj)(pm cd doc:Gt)(a:Addr)(vs:List Gt)(ns:List Int),
   Ground q loose [] XP w s₀ mg mb s₁.heap→YP w s₁.heap→
   s₁.heap.get? fa=some o→o.data=.func (docDef d.name d.params d.body d.scope pm cd doc)→s₁.heap.CodeRec cd d.name→mg d.name=some (.ref fa)→
   s₁.heap.get? a=some {cls:=.type "list",data:=.seq vs.toArray}→Uj vs ns→ns.length≤n→s₁.gens=#[]→
   codeAny (model l.prog w) callerA (.call (.ref fa) ⟨[.ref a],[]⟩) (fun r s'=>r=.ok (.ret (.bool true))∧OldK s₁.heap s'.heap∧s'.os=s₁.os∧Py s'.gens) s₁):
  WalkO q loose XP YP l.row.toRowW d [] (fun f vs=>SL f vs):=by
 intro w s₀ s₁ mg mb G Y fa o pm cd doc dV kV ho hd hcd hD hmg hg args vals as hpre hlay hrd hwl hlo
 obtain rfl:dV=.none:=Dflts.none hD hdf
 obtain rfl:kV=.none:=Dflts.noKw hD
 obtain⟨a,vs,ns,rfl,rfl,hobj,hints,hlen⟩:=script_of hn hpre hwl
 refine enter_call (MG (call w s₀ s₁ mg mb fa o pm cd doc a vs ns G Y ho (fd_plain hd) hcd hmg hobj hints hlen hg) fun r s' hq=>?_)
 obtain⟨rfl,h2,h3,h4⟩:=hq
 exact⟨.inl ⟨.bool true,.bool true,[],rfl,fun _=>rfl,.bool true,post_true l _,fun _=>⟨Rg,fun _ hm=>(nomatch hm)⟩⟩,h2,h3,h4⟩
end Att
namespace L2
open PySem PySem.Spec PyProof.Rows
theorem nV:∀{vs:List Gt}{ns:List Int},Uj vs ns→aO (ns.map V.int) vs
 |_,_,.nil=>.nil
 |_,_,.cons n t h=>.cons ⟨t,rfl⟩ (nV h)
def bE (s:Stmt):Arguments:=match s with
 |.FunctionDef _ a _ _ _ _ _ _ _ _=>a
 |_=>{posonlyargs:=[],args:=[],vararg:=none,kwonlyargs:=[],kw_defaults:=[],kwarg:=none,defaults:=[]}
def aM (s:Stmt):List Stmt:=match s with
 |.FunctionDef _ _ b _ _ _ _ _ _ _=>b
 |_=>[]
def ak (s:Stmt):Scope:=match s with
 |.FunctionDef _ _ _ _ _ _ sc _ _ _=>sc
 |_=>{kind:=.function,names:=[],isGenerator:=false,isCoroutine:=false}
abbrev E0:XK:=fun _ _ _=>False
structure Fun (K:tx)(x qual:Str)(st:Stmt)(f:Addr)(fd:KP):Prop where
 ex:∃(oc:Gt)(od:Option Addr)(kV doc pm:Gt)(an:Option Addr)(cdv ct:Gt)(osl:Array (Option Gt)),
  fd=NL x qual (bE st) (aM st) (ak st) .none kV doc pm an cdv ct∧K.lookup f=some ⟨oc,od,.func fd,osl⟩∧TL K cdv qual=true
 kp:Oh K (.ref f)=true
section
variable {P:KS}{w:LI}{K:tx}{mg:Str→Option Gt}{base:Heap}
theorem Fun.binds {x qual:Str}{st:Stmt}{f:Addr}{fd:KP}{ps:List Str}(F:Fun K x qual st f fd)
  (h:∀(kV doc pm:Gt)(an:Option Addr)(cdv ct:Gt)(us:List Gt),us.length=ps.length→bindArgs (NL x qual (bE st) (aM st) (ak st) .none kV doc pm an cdv ct) ⟨us,[]⟩=pure (ps.zip us)):br K fd ps []:=by
 obtain⟨oc,od,kV,doc,pm,an,cdv,ct,osl,rfl,lk,hcd⟩:=F.ex
 exact .all (h kV doc pm an cdv ct)
theorem dz {x qual:Str}{st:Stmt}{f:Addr}{oc:Gt}{od an:Option Addr}{osl:Array (Option Gt)}{kV doc pm cdv ct:Gt}(l:K.lookup f=some ⟨oc,od,.func (NL x qual (bE st) (aM st) (ak st) .none kV doc pm an cdv ct),osl⟩)
 (c:TL K cdv qual=true)(k:Oh K (.ref f)=true):Fun K x qual st f (NL x qual (bE st) (aM st) (ak st) .none kV doc pm an cdv ct):=⟨⟨oc,od,kV,doc,pm,an,cdv,ct,osl,rfl,l,c⟩,k⟩
end
theorem bK {n:Nat}(h:n≤1000):n<sizeLine:=Mh h (by decide)
section
variable {X:Cx}
theorem wI:bC X (.builtin "len") (fun xs H Q=>∃a kvs,xs=[V.ref a]∧H a=some (.dK kvs)∧Q (.int kvs.length) H):=by
 intro pins s σ H xs us Q I r h
 obtain⟨a,kvs,rfl,ha,q⟩:=h
 obtain⟨u,rfl,ru⟩:=eN r
 cases ru
 exact FF I (.inl ha) fun t s' I'=>⟨.int kvs.length,H,I',⟨t,rfl⟩,q⟩
end
theorem lN {A B:Prop}(h:A):if true=true then A else B:=by
 rw[if_pos rfl]
 exact h
def au (H H':Hp):Prop:=∀b o,H b=some o→H' b=some o
theorem au.refl (H:Hp):au H H:=fun _ _ h=>h
theorem au.trans {H H1 H2:Hp}(a:au H H1)(b:au H1 H2):au H H2:=fun c o h=>b c o (a c o h)
theorem au.seq {K:tx}{H H':Hp}{a:Addr}{xs:List V}(e:au H H')(h:SqL K H a xs):SqL K H' a xs:=by
 rcases h with(h|⟨o,h⟩)|h
 ·exact .inl (.inl (e _ _ h))
 ·exact .inl (.inr ⟨o,e _ _ h⟩)
 ·exact .inr h
def dC:List (Str×Nj)→List (Str×Addr)→List (Str×Addr)→List (Str×Addr)
 |[],_,cs=>cs
 |(n,k)::r,cells,cs=>dC r cells (if k==.free then(match cells.lookup n with|some a=>(n,a)::cs|none=>cs)else cs)
theorem qM {scope:Scope}{env:Env}(h:∀y∈scope.names,y.2=.free→(env.cells.lookup y.1).isSome=true):closureFor scope env=pure (dC scope.names env.cells []):=by
 have key:∀(l:List (Str×Nj))(cs:List (Str×Addr)),(∀y∈l,y.2=.free→(env.cells.lookup y.1).isSome=true)→
   (forIn l cs (fun(x:Str×Nj)(cs:List (Str×Addr))=>(if (x.2==Nf)=true then(do let a←cellOf env x.1;pure (Sz ((x.1,a)::cs)))else(pure (Sz cs):Sem _))):Sem (List (Str×Addr)))=pure (dC l env.cells cs):=by
  intro l
  induction l with
  |nil=>intro cs _;rfl
  |cons y r ih=>
   intro cs hy
   obtain⟨n,k⟩:=y
   rw[NP]
   by_cases hk:k=.free
   ·subst hk
    have hs:=hy (n,.free) Lv rfl
    cases e:env.cells.lookup n with
    |none=>rw[e]at hs;cases hs
    |some a=>
     have:=ih ((n,a)::cs) (fun z hz=>hy z (KQ _ hz))
     simp only[dC,beq_self_eq_true,if_true,e,cellOf,RV]
     exact this
   ·have hb:(k==Nf)=false:=by simpa using hk
    have:=ih cs (fun z hz=>hy z (KQ _ hz))
    simp only[dC,hb,Mo,if_false,RV]
    exact this
 have:=key scope.names [] h
 unfold closureFor
 simpa using this
theorem nY:∀{l:List (Str×Nj)}{cells cs:List (Str×Addr)}{x:Str}{c:Addr},(∀x c,cs.lookup x=some c→cells.lookup x=some c)→(dC l cells cs).lookup x=some c→cells.lookup x=some c
 |[],_,_,_,_,h,e=>h _ _ e
 |(n,k)::r,cells,cs,x,c,h,e=>by
  refine nY (l:=r) (fun y d hy=>?_) e
  split at hy
  ·split at hy
   ·rename_i a ha
    by_cases hyn:y=n
    ·subst hyn
     rw[RZ]at hy
     rw[←hy];exact ha
    ·rw[MT]at hy
     have:(y==n)=false:=by simpa using hyn
     rw[this]at hy
     exact h _ _ hy
   ·exact h _ _ hy
  ·exact h _ _ hy
theorem mq:∀{l:List (Str×Nj)}{cells cs:List (Str×Addr)}{x:Str},(cs.lookup x).isSome=true→((dC l cells cs).lookup x).isSome=true
 |[],_,_,_,h=>h
 |(n,k)::r,cells,cs,x,h=>by
  refine mq (l:=r) ?_
  split
  ·split
   ·rw[MT]
    split
    ·rfl
    ·exact h
   ·exact h
  ·exact h
theorem kC:∀{l:List (Str×Nj)}{cells cs:List (Str×Addr)}{x:Str},(x,Nf)∈l→(cells.lookup x).isSome=true→((dC l cells cs).lookup x).isSome=true
 |[],_,_,_,h,_=>by cases h
 |(n,k)::r,cells,cs,x,h,hs=>by
  rcases KY.mp h with e|h
  ·cases e
   refine mq (l:=r) ?_
   simp only[beq_self_eq_true,if_true]
   cases e:cells.lookup n with
   |none=>rw[e]at hs;cases hs
   |some a=>simp only[RZ];rfl
  ·exact kC (l:=r) h hs
theorem lX {x:Str}{k:Nj}:∀{l:List (Str×Nj)},l.lookup x=some k→(x,k)∈l:=fun h=>Mw h
inductive gA (X:Cx)(scope:Scope):List Str→List Nat→Prop where
 |nil:gA X scope [] []
 |cons {y:Str} {i:Nat} {ys:List Str} {is:List Nat} (h1:X.N[i]?=some y) (h2:X.env.kindOf y=some .cell∨X.env.kindOf y=some .free) (h3:scope.names.lookup y=some .free) (h:gA X scope ys is):gA X scope (y::ys) (i::is)
structure eZ (scope:Scope)(x:Str)(ys:List Str):Prop where
 kind:scope.kind=.function
 nocell:∀y∈scope.names,y.2≠.cell
 names:∀y∈scope.names,y.2=.local→scope.names.lookup y.1=some .local
 own:scope.names.lookup x=some .local
 all:∀y∈scope.names,y.2=.free→y.1∈ys
 nd:(x::ys).Nodup
def bo (X:Cx)(scope:Scope)(C:Addr)(N:List Str)(s:Ky)(H:Hp)(fp:List Addr):Cx:=
 {X with N:=N,s₀:=s,H₀:=H,env:=compEnvC scope (dC scope.names X.env.cells []) C X.env,outer:=X.stack,ex:=fp,fn:=fun _=>false,pn:=[],xe:=fun _ _=>False}
def bF (σ:St)(is:List Nat):St:=is.map fun i=>(σ[i]?).getD none
theorem iR {f:Str×Nj→Str×Nj}(hf:∀p,(f p).1=p.1){x:Str}:∀(l:List (Str×Nj)),(l.map f).lookup x=(l.lookup x).map fun k=>(f (x,k)).2
 |[]=>rfl
 |(n,k)::r=>by
  have ih:=iR hf (x:=x) r
  have e:f (n,k)=(n,(f (n,k)).2):=Uv (hf (n,k)) rfl
  rw[Lm,e,MT,MT]
  cases hx:x==n with
  |true=>
   have e':x=n:=by simpa using hx
   subst e';rfl
  |false=>exact ih
theorem jA (scope:Scope)(env:Env)(x:Str):(relabel scope env).names.lookup x=(scope.names.lookup x).map fun k=>if (k==Nf&&env.scope.kind==.function&&env.kindOf x==some .cell)then OG else k:=by
 have hf:∀p:Str×Nj,((fun(n,k)=>if (k==Nf&&env.scope.kind==.function&&env.kindOf n==some .cell)then(n,OG)else(n,k)) p:Str×Nj).1=p.1:=by
  intro p
  obtain⟨n,k⟩:=p
  show(if _ then(n,OG)else(n,k)).1=n
  split<;>rfl
 have:=iR hf (x:=x) scope.names
 show My x (List.map _ scope.names)=_
 rw[this]
 congr 1
 funext k
 show(if _ then(x,OG)else(x,k)).2=_
 split<;>rfl
theorem iU {scope:Scope}{env:Env}{x:Str}{k:Nj}(nc:∀y∈scope.names,y.2≠.cell)(h:(relabel scope env).names.lookup x=some k)(hk:k=.cell∨k=.free):(x,Nf)∈scope.names:=by
 rw[jA]at h
 cases q:scope.names.lookup x with
 |none=>rw[q]at h;cases h
 |some k'=>
  have hm:=lX q
  rw[q]at h
  have h:(if (k'==Nf&&env.scope.kind== .function&&env.kindOf x==some .cell)then OG else k')=k:=KL h
  by_cases hc:k'=.free
  ·subst hc;exact hm
  ·have hb:(k'==Nf)=false:=by simpa using hc
   rw[hb]at h
   have h:k'=k:=h
   subst h
   rcases hk with z|z
   ·exact absurd z (nc _ hm)
   ·exact absurd z hc
theorem qo {scope:Scope}{env:Env}{x:Str}(h:scope.names.lookup x=some .free):(relabel scope env).names.lookup x=some .cell∨(relabel scope env).names.lookup x=some .free:=by
 rw[jA,h]
 show some (if _ then _ else _)=_∨some (if _ then _ else _)=_
 split
 ·exact .inl rfl
 ·exact .inr rfl
theorem oW {scope:Scope}{env:Env}{x:Str}(h:scope.names.lookup x=some .local):(relabel scope env).names.lookup x=some .local:=by
 rw[jA,h];rfl
theorem vB {X:Cx}{scope:Scope}{ys:List Str}{is:List Nat}{m:Str→Option Gt}{h:Heap}{σ:St}(hc:gA X scope ys is)
  (hl:∀(i:Nat)(x:Str)(v:V),X.N[i]? =some x→σ[i]? =some (some v)→Vis X.env.scope x→∃u,aK v u∧Cw X.env h m x u)(nd:True):
  ∀(j:Nat)(y:Str)(v:V),ys[j]? =some y→(bF σ is)[j]? =some (some v)→∃u,aK v u∧scope.names.lookup y=some .free∧∃c,X.env.cells.lookup y=some c∧h.IsCell c (some u):=by
 induction hc with
 |nil=>intro j y v e;simp at e
 | @cons z i zs js h1 h2 h3 hr ih=>
   intro j y v e1 e2
   cases j with
   |zero=>
    simp at e1;subst e1
    have e2:(σ[i]?).getD none=some v:=by simpa[bF]using e2
    have e3:σ[i]? =some (some v):=by
     cases q:σ[i]? with
     |none=>rw[q]at e2;simp at e2
     |some o=>rw[q]at e2;simp at e2;rw[e2]
    have hv:Vis X.env.scope z:=by
     rcases h2 with q|q
     ·exact .inr (.inl q)
     ·exact .inr (.inr q)
    obtain⟨u,r,l⟩:=hl i z v h1 e3 hv
    refine⟨u,r,h3,?_⟩
    rcases l with⟨k,_⟩|⟨_,c,e,ic⟩
    ·rcases h2 with q|q
     ·rw[q]at k;cases k
     ·rw[q]at k;cases k
    ·exact⟨c,e,ic⟩
   |succ j=>
    exact ih j y v (by simpa using e1) (by simpa[bF]using e2)
def zH (is:List Nat)(tc:TT)(te:TE)(σ:St)(D:Addr)(J:It)(H1:Hp)(Q:VK):Prop:=∃W:Nat→Nat→List V→Hp→Prop,(∃m,W 0 m [] (upd H1 D (.lst [])))∧
 ∀i m ys H2,W i m ys H2→(J.stop i H2∧Q (.ref D) H2)∨(J.go i H2∧∀x H3,J.yld i H2 x H3→tc (some x::bF σ is) H3 fun b H4=>if b=true then
  te (some x::bF σ is) H4 fun y H5=>H5 D=some (.lst ys)∧ys.length<sizeLine∧∃m',m'<m∧W (i+1) m' (ys++[y]) (upd H5 D (.lst (ys++[y])))
  else ∃m',m'<m∧W (i+1) m' ys H4)
def fh (is:List Nat)(wi:TI)(tc:TT)(te:TE):TE:=fun σ H Q=>wi σ H fun J H1=>∀D,H1 D=none→zH is tc te σ D J H1 Q
theorem rM (elt target iter c:Expr)(scope:Scope)(pos:Pos)(it acc:Gt)(env:Env):
  compTurn (.ListComp elt [⟨target,iter,[c],0⟩] scope pos) 0 it acc env=(standAt iter.pos >>= fun _=>pyNext it >>= fun r=>match r with
   |none=>pure (.done .next)
   |some v=>letOwnedTupleGo target it v >>= fun _=>assign target env v >>= fun _=>isTrue c env (eval c env) >>= fun ok=>
    (if ok=true then(eval elt env >>= fun x=>call (.builtin "list.append") [acc,x] >>= fun _=>pure ())else pure ()) >>= fun _=>
     again (.compLoop (.ListComp elt [⟨target,iter,[c],0⟩] scope pos) 0 it acc env)):=by
 unfold compTurn
 simp only[NP,OI,RJ,RK,List.getElem?_nil,bind_assoc,RV,bne_self_eq_false,Mo,if_false,if_true]
 congr 1
 funext _
 congr 1
 funext r
 cases r with
 |none=>rfl
 |some v=>
  simp only[bind_assoc,RV,if_true]
  congr 1;funext _
  congr 1;funext _
  congr 1;funext b
  cases b<;>simp
section
variable {prog:KS}{w:LI}{A:Lj}{R:Rj→Ky→Prop}{s:Ky}
theorem jN {elt target iter c:Expr}{scope:Scope}{pos:Pos}{it acc:Gt}{env:Env}(I:Nat→Ky→Prop)
  (turn:∀n s,I n s→wpAny (model prog w) A (pyNext it) (fun r s₁=>match r with
   |none=>R (.ok .next) s₁
   |some v=>wpAny (model prog w) A (letOwnedTupleGo target it v) (fun _ s₁=>wpAny (model prog w) A (assign target env v) (fun _ s₂=>wpAny (model prog w) A (isTrue c env (eval c env)) (fun ok s₂=>if ok=true then wpAny (model prog w) A (eval elt env) (fun x s₃=>
    wpAny (model prog w) A (call (.builtin "list.append") [acc,x]) (fun _ s₄=>∃m,m<n∧I m s₄) (notedBy (model prog w) A env fun e s'=>R (.error e) s') s₃)
    (notedBy (model prog w) A env fun e s'=>R (.error e) s') s₂ else ∃m,m<n∧I m s₂) (notedBy (model prog w) A env fun e s'=>R (.error e) s') s₂) (notedBy (model prog w) A env fun e s'=>R (.error e) s') s₁) (notedBy (model prog w) A env fun e s'=>R (.error e) s') s₁) (notedBy (model prog w) A env fun e s'=>R (.error e) s') s)
  (n:Nat)(h:I n s):
  codeAny (model prog w) A (.compLoop (.ListComp elt [⟨target,iter,[c],0⟩] scope pos) 0 it acc env) R s:=by
 refine codeAny_loop rfl I (fun n s hI=>?_) n h
 show wpAny _ _ ((compTurn (.ListComp elt [⟨target,iter,[c],0⟩] scope pos) 0 it acc env).onRaise (fun x=>do noteFrame x env;theTreesLotGoes x)) _ _ s
 refine wpAny_noted ?_
 rw[rM]
 refine cW (OD (cW (Le (turn n s hI) (fun r s₁ h₁=>?_) fun _ _ h'=>h')))
 cases r with
 |none=>exact If h₁
 |some v=>
  refine cW (Le h₁ (fun _ s₁ h₁=>cW (Le h₁ (fun _ s₂ h₂=>cW (Le h₂ (fun ok s₃ h₃=>?_) fun _ _ h'=>h')) fun _ _ h'=>h')) fun _ _ h'=>h')
  cases ok with
  |true=>
   rw[if_pos rfl]at h₃
   simp only[if_true]
   exact cW (cW (Le h₃ (fun x s₃ h₃=>cW (Le h₃ (fun _ s₄ h₄=>If (If ⟨rfl,h₄⟩)) fun _ _ h'=>h')) fun _ _ h'=>h'))
  |false=>
   rw[if_neg KN]at h₃
   simp only[Mo,if_false]
   exact cW (If (If ⟨rfl,h₃⟩))
theorem jM {elt target iter:Expr}{scope:Scope}{pos:Pos}{it acc:Gt}{env:Env}(I:Nat→Ky→Prop)
  (turn:∀n s,I n s→wpAny (model prog w) A (pyNext it) (fun r s₁=>match r with
   |none=>R (.ok .next) s₁
   |some v=>wpAny (model prog w) A (letOwnedTupleGo target it v) (fun _ s₁=>wpAny (model prog w) A (assign target env v) (fun _ s₂=>wpAny (model prog w) A (eval elt env) (fun x s₃=>
    wpAny (model prog w) A (call (.builtin "list.append") [acc,x]) (fun _ s₄=>∃m,m<n∧I m s₄) (notedBy (model prog w) A env fun e s'=>R (.error e) s') s₃)
    (notedBy (model prog w) A env fun e s'=>R (.error e) s') s₂) (notedBy (model prog w) A env fun e s'=>R (.error e) s') s₁) (notedBy (model prog w) A env fun e s'=>R (.error e) s') s₁) (notedBy (model prog w) A env fun e s'=>R (.error e) s') s)
  (n:Nat)(h:I n s):
  codeAny (model prog w) A (.compLoop (.ListComp elt [⟨target,iter,[],0⟩] scope pos) 0 it acc env) R s:=by
 refine codeAny_loop rfl I (fun n s hI=>?_) n h
 show wpAny _ _ ((compTurn (.ListComp elt [⟨target,iter,[],0⟩] scope pos) 0 it acc env).onRaise (fun x=>do noteFrame x env;theTreesLotGoes x)) _ _ s
 refine wpAny_noted ?_
 rw[compTurn_list1]
 refine cW (OD (cW (Le (turn n s hI) (fun r s₁ h₁=>?_) fun _ _ h'=>h')))
 cases r with
 |none=>exact If h₁
 |some v=>
  exact cW (Le h₁ (fun _ s₁ h₁=>cW (Le h₁ (fun _ s₂ h₂=>cW (cW (Le h₂ (fun x s₃ h₃=>cW (Le h₃
   (fun _ s₄ h₄=>If (If ⟨rfl,h₄⟩)) fun _ _ h'=>h')) fun _ _ h'=>h'))) fun _ _ h'=>h')) fun _ _ h'=>h')
end
def tM (X:Cx)(ifs:List Expr)(tc:TT):Prop:=match ifs with
 |[]=>tc=fun _ H Q=>Q true H
 |[c]=>PT X c tc
 |_=>False
section
variable {X:Cx}
theorem xy {scope:Scope}{ys:List Str}{is:List Nat}(h:gA X scope ys is):is.length=ys.length:=by
 induction h with
 |nil=>rfl
 |cons _ _ _ _ ih=>simp[ih]
theorem oz {scope:Scope}{ys:List Str}{is:List Nat}(h:gA X scope ys is){y:Str}(hy:y∈ys):X.env.kindOf y=some .cell∨X.env.kindOf y=some .free:=by
 induction h with
 |nil=>cases hy
 |cons _ h2 _ _ ih=>
  rcases KY.mp hy with e|e
  ·rw[e];exact h2
  ·exact ih e
theorem oq {elt iter:Expr}{ifs:List Expr}{x:Str}{px pos:Pos}{scope:Scope}{ys:List Str}{is:List Nat}{tc:TT}{te:TE}{pins:List (Addr×Obj)}{σ:St}{H2:Hp}{s2:Ky}{it:Addr}{fp:List Addr}{tn:Nat→Heap→Prop}{J:It}{E:Gt→Ky→Prop}{Q:VK}{RR:Gt→Addr→Rj→Ky→Prop}
  (hc:X.calm=true)(S:eZ scope x ys)(hcap:gA X scope ys is)
  (hif:∀C s H fp,tM (bo X scope C (x::ys) s H fp) ifs tc)(he:∀C s H fp,PE (bo X scope C (x::ys) s H fp) elt te)
  (I2:Inv X pins σ H2 s2)(T:kJ X.prog X.w X.K (.Name x px) J fp it tn)(st2:tn 0 s2.heap)(f2:∀b∈fp,kF X pins H2 b)
  (hW:∀D,H2 D=none→∃W:Nat→Nat→List V→Hp→Prop,(∃m,W 0 m [] (upd H2 D (.lst [])))∧
   ∀i m ys H2,W i m ys H2→(J.stop i H2∧Q (.ref D) H2)∨(J.go i H2∧∀x H3,J.yld i H2 x H3→tc (some x::bF σ is) H3 fun b H4=>if b=true then
    te (some x::bF σ is) H4 fun y H5=>H5 D=some (.lst ys)∧ys.length<sizeLine∧∃m',m'<m∧W (i+1) m' (ys++[y]) (upd H5 D (.lst (ys++[y])))
    else ∃m',m'<m∧W (i+1) m' ys H4))
  (hRR:∀D C H' s',(X.s₀.heap.objs.size≤C∧∀p∈X.pn++pins,p.1≠C)→(∃m,s'.heap.Ns C m)→C≠X.env.locals→H' C=none→Inv X pins σ H' s'→(∀h',MK C s'.heap h'→Inv X pins σ H' {s' with heap:=h'})→Q (.ref D) H'→RR (.ref D) C (.ok .next) s'):
  wpAny (model X.prog X.w) X.A (newList []) (fun acc s₃=>wpAny (model X.prog X.w) X.A (newFunctionEnv scope X.env.globals (dC scope.names X.env.cells []) [] X.env.qual none .none (some X.env)) (fun cenv s₄=>
   codeAny (model X.prog X.w) X.A (.compStart (.ListComp elt [⟨.Name x px,iter,ifs,0⟩] scope pos) 0 (.ref it) acc {cenv with scope:=relabel scope X.env}) (RR acc cenv.locals) s₄) E s₃) E s2:=by
 have hf2:H2 s2.heap.objs.size=none:=I2.fresh
 refine LJ (Qj S.nocell (by intro y hy;simp at hy) (fun h₁ hns₁ hsb₁=>?_) S.kind)
 dsimp only at hns₁ hsb₁⊢
 have I3:Inv X pins σ (upd H2 s2.heap.objs.size (.lst [])) {s2 with heap:=s2.heap.push {cls:=.type "list",data:=.seq ([]:List Gt).toArray}}:=I2.lnew (t':=s2.toks) (ys:=[]) .nil (Ly _)
 obtain⟨W,⟨m0,w0⟩,turn⟩:=hW _ hf2
 generalize hD:s2.heap.objs.size=D at I3 w0 turn hf2⊢
 generalize hs3:({s2 with heap:=s2.heap.push {cls:=.type "list",data:=.seq ([]:List Gt).toArray}}:Ky)=s3 at I3
 have hp3:s2.heap.push {cls:=.type "list",dict:=none,data:=.seq ([]:List Gt).toArray}=s3.heap:=by rw[←hs3]
 rw[hp3]at hns₁ hsb₁⊢
 have tk3:s2.toks=s3.toks:=by rw[←hs3]
 generalize hH3:upd H2 D (.lst [])=H3 at I3 w0
 generalize hC:s3.heap.objs.size=C at hns₁ hsb₁⊢
 have keep2:∀b o,s2.heap.get? b=some o→s3.heap.get? b=some o:=fun b o e=>by rw[←hp3];exact gV _ e
 have keep3:∀b o,s3.heap.get? b=some o→h₁.get? b=some o:=fun b o e=>hsb₁.extBut b o (by rw[←hC];exact KZ (KF e)) (gV _ e)
 have st3:tn 0 s3.heap:=T.keep _ _ _ st2 fun b _ o e=>keep2 b o e
 have st4:tn 0 h₁:=T.keep _ _ _ st3 fun b _ o e=>keep3 b o e
 have fp3:∀b∈fp,H3 b=none∧b<C:=fun b hb=>by
  obtain⟨o,e,_⟩:=T.obj _ _ st2 b hb
  refine⟨?_,by rw[←hC];exact KF (keep2 b o e)⟩
  rw[←hH3,ao (by rw[←hD];exact KZ (KF e))]
  exact(f2 b hb).1
 have hcells:∀{z:Str}{c:Addr},(dC scope.names X.env.cells []).lookup z=some c→X.env.cells.lookup z=some c:=fun h=>nY (fun _ _ q=>by cases q) h
 have hX:(bo X scope C (x::ys) s3 H3 fp).Ok:=by
  refine⟨I3.ok.mod,S.kind,I3.ok.glob,I3.ok.blt,PB hC,fun y z c h1 h2=>I3.ok.inj y z c (hcells h1) (hcells h2),fun y hy=>?_,fun y c h _=>absurd (show false=true from h) KN,I3.ok.hd,I3.ok.frames,.inl rfl,fun b hb=>⟨KZ (fp3 b hb).2,fun y c h=>(f2 b hb).2.2.2.2.1 y c (hcells h)⟩,fun b o e=>I3.bs b o e,KR I3.ok.bsz I3.sz,fun b o e hb=>?_,fun b hb z=>?_,I3.stack,I3.stkFree⟩
  ·have hy:(relabel scope X.env).names.lookup y=some .cell∨(relabel scope X.env).names.lookup y=some .free:=hy
   have hm:(y,Nf)∈scope.names:=by
    rcases hy with q|q
    ·exact iU S.nocell q (.inl rfl)
    ·exact iU S.nocell q (.inr rfl)
   have hs:∃c,X.env.cells.lookup y=some c:=by
    by_cases hk:X.env.kindOf y=some .cell∨X.env.kindOf y=some .free
    ·exact I3.ok.has y hk
    ·exact absurd (oz hcap (S.all _ hm rfl)) hk
   exact Lu.mp (kC hm (Lu.mpr hs))
  ·rcases(f2 b hb).2.2.2.1 with z|z
   ·exact I3.ok.noex b o e z
   ·exact absurd (KU (KF e) (KR I3.ok.bsz z)) (ML _)
  ·rcases KY.mp (I3.stkSub b z)with q|q
   ·exact(f2 b hb).2.1 q
   ·exact(f2 b hb).2.2.1 q
 have I4:Inv (bo X scope C (x::ys) s3 H3 fp) [] (none::bF σ is) H3 {s2 with heap:=h₁,toks:=s2.toks+([]:List (Str×Gt)).length}:=by
  obtain⟨m3,hm3,hl3⟩:=id I3.loc
  refine⟨hX,?_,?_,Un.kept keep3,⟨_,hns₁,fun i y v e1 e2 e3=>?_⟩,fun y c e=>?_,?_,fun y c e=>I3.freeC y c (hcells e),fun p hp=>absurd (show p∈([]:List (Addr×Obj))from hp) (by simp),I3.hok.kept keep3,?_⟩
  ·show s2.os=s3.os
   rw[←hs3]
  ·have:=I2.bare;exact this
  ·cases i with
   |zero=>simp at e2
   |succ j=>
    obtain⟨u,r,hfr,c,ec,ic⟩:=vB hcap hl3 trivial j y v (by have e1':(x::ys)[j+1]? =some y:=e1;simpa using e1') (by simpa using e2)
    have hk:=qo (env:=X.env) hfr
    obtain⟨c',ec'⟩:=Lu.mp (kC (cs:=[]) (lX hfr) (by rw[ec];rfl) (cells:=X.env.cells))
    have:c'=c:=by have:=hcells ec';rw[ec]at this;exact(KL this).symm
    subst this
    obtain⟨o,ho,hd⟩:=ic
    exact⟨u,r,.inr ⟨hk,c',ec',o,keep3 _ _ ho,hd⟩⟩
  ·obtain⟨v,o,ho,hd⟩:=I3.cell y c (hcells e)
   exact⟨v,o,keep3 _ _ ho,hd⟩
  ·have:=I3.hok.fresh (a:=C) (PB hC)
   exact this
  ·have:=xy hcap
   show(none::bF σ is).length=(x::ys).length
   simp[bF,this]
 have lenσ:∀v:Option V,(v::bF σ is).set 0=fun w=>w::bF σ is:=fun v=>rfl
 have hown:(relabel scope X.env).names.lookup x=some .local:=oW S.own
 have loop:codeAny (model X.prog X.w) X.A (.compLoop (.ListComp elt [⟨.Name x px,iter,ifs,0⟩] scope pos) 0 (.ref it) (.ref D) (compEnvC scope (dC scope.names X.env.cells []) C X.env)) (RR (.ref D) C)
   {s2 with heap:=h₁,toks:=s2.toks+([]:List (Str×Gt)).length}:=by
  have fin:∀{H':Hp}{v:Option V}{s':Ky},Inv (bo X scope C (x::ys) s3 H3 fp) [] (v::bF σ is) H' s'→Q (.ref D) H'→RR (.ref D) C (.ok .next) s':=fun{H' v s'} J q=>by
   obtain⟨m',hm',_⟩:=J.loc
   have hCL:C≠X.env.locals:=Lg (by rw[←hC];exact KZ I3.lt)
   have back:∀h',MK C s'.heap h'→Inv X pins σ H' {s' with heap:=h'}:=fun h' hs'=>by
    have os':s'.os=s3.os:=J.os
    refine I3.call' (s':={s' with heap:=h'}) (ch:=fp) os' ⟨fun b o e n hb hx=>?_,fun b o e n hb hx=>?_,fun b o e n hx=>J.base.free b o e n hx,fun b o e hx=>?_,J.base.tups,J.base.frzs,J.base.tbls⟩ (fun b o e=>?_) J.bare fun b hb=>?_
    ·exact hs'.extBut b o (by rw[←hC];exact KZ (KF e)) (J.base.keep b o e n hb hx)
    ·obtain⟨sl,e1⟩:=J.base.slot b o e n hb hx
     exact⟨sl,hs'.extBut b _ (by rw[←hC];exact KZ (KF e)) e1⟩
    ·obtain⟨o',e1⟩:=J.base.there b o e hx
     exact⟨o',hs'.extBut b _ (by rw[←hC];exact KZ (KF e)) e1⟩
    ·refine(J.hok b o e).stay (fun c w' hc q=>(hs'.2 c ?_).trans q) (fun _ q=>q) fun _ _ q=>q
     have fC:H' C=none:=J.free
     rintro rfl
     rcases hc with rfl|hc
     ·rw[fC]at e;cases e
     ·rw[fC]at hc;cases hc
    ·obtain⟨_,a1,_,a2,a3,a4⟩:=f2 b hb
     exact⟨a2,a1,a3,a4⟩
   refine hRR D C H' s' ⟨by rw[←hC];exact I3.sz,fun p hp=>by rw[←hC];exact KZ (KF (I3.pin p hp).1)⟩ ⟨m',hm'⟩ hCL J.free ?_ back q
   have:=back s'.heap (.refl ..)
   exact this
  have stat:∀{H':Hp},(∀b∈fp,H' b=none)→∀b∈fp,kF (bo X scope C (x::ys) s3 H3 fp) [] H' b:=fun hn b hb=>by
   obtain⟨_,a1,a5,a2,a3,a4⟩:=f2 b hb
   refine⟨hn b hb,KZ (fp3 b hb).2,fun z=>?_,.inl hb,fun y c e=>a3 y c (hcells e),fun p hp=>absurd (show p∈([]:List (Addr×Obj))from hp) (by simp)⟩
   rcases KY.mp (I3.stkSub b z)with q|q
   ·exact a1 q
   ·exact a5 q
  have turnAt:∀n s,(∃i v ys' H',Inv (bo X scope C (x::ys) s3 H3 fp) [] (v::bF σ is) H' s∧tn i s.heap∧(∀b∈fp,H' b=none)∧W i n ys' H')→
    wpAny (model X.prog X.w) X.A (pyNext (.ref it)) (fun r s₁=>match r with
     |none=>RR (.ref D) C (.ok .next) s₁
     |some u=>wpAny (model X.prog X.w) X.A (letOwnedTupleGo (.Name x px) (.ref it) u) (fun _ s₁=>wpAny (model X.prog X.w) X.A (assign (.Name x px) (compEnvC scope (dC scope.names X.env.cells []) C X.env) u) (fun _ s₂=>
      ∃(xx:V)(i:Nat)(ys':List V)(H3' H6:Hp)(pl:List (Addr×Obj)),Inv (bo X scope C (x::ys) s3 H3 fp) ([]++pl) (some xx::bF σ is) H6 s₂∧
       (∀s7 v7 H7,Inv (bo X scope C (x::ys) s3 H3 fp) ([]++pl) (v7::bF σ is) H7 s7→Inv (bo X scope C (x::ys) s3 H3 fp) [] (v7::bF σ is) H7 s7∧tn (i+1) s7.heap∧∀b∈fp,H7 b=none)∧
       (tc (some xx::bF σ is) H6 fun b H4=>if b=true then te (some xx::bF σ is) H4 fun y H5=>H5 D=some (.lst ys')∧ys'.length<sizeLine∧∃m',m'<n∧W (i+1) m' (ys'++[y]) (upd H5 D (.lst (ys'++[y])))
        else ∃m',m'<n∧W (i+1) m' ys' H4)) (fun _ _=>False) s₁) (fun _ _=>False) s₁) (fun _ _=>False) s:=by
   rintro n s ⟨i,v,ys',H',J,st,fr,w'⟩
   rcases turn i n ys' H' w' with⟨stop,qn⟩|⟨go,step⟩
   ·refine thn (T.done (bo X scope C (x::ys) s3 H3 fp) rfl rfl rfl hc i [] s _ H' (fun _ _=>False) J (stat fr) st stop) fun r s4 ⟨hr,J4⟩=>?_
    subst hr
    exact fin J4 qn
   ·refine thn (T.item (bo X scope C (x::ys) s3 H3 fp) rfl rfl rfl hc i [] s _ H' (fun _ _=>False) J (stat fr) st go) fun r s4 ⟨u,hr,h4⟩=>?_
    subst hr
    refine thn h4 fun _ s5 ⟨xx,H5,J5,r5,y5,st5,fr5⟩=>?_
    have J5':=J5.pinned (stat fr5) (T.obj _ _ st5)
    refine QY (ie (i:=0) J5' S.nd rfl (.inl hown) r5 (fun s6 J6=>?_) (.inr hown))
    refine⟨xx,i,ys',H5,H5,jR fp s5.heap,J6,fun s7 v7 H7 J7=>⟨J7.unpinned,T.keep _ _ _ st5 fun b hb o e=>(J7.pin (b,o) (LR _ (LR _ (gC hb e)))).1,fun b hb=>?_⟩,step xx H5 y5⟩
    obtain⟨o,e,d⟩:=T.obj _ _ st5 b hb
    exact(J7.pin (b,o) (LR _ (LR _ (gC hb e)))).2.1
  have start0:∃i v ys' H',Inv (bo X scope C (x::ys) s3 H3 fp) [] (v::bF σ is) H' {s2 with heap:=h₁,toks:=s2.toks+([]:List (Str×Gt)).length}∧tn i h₁∧(∀b∈fp,H' b=none)∧W i m0 ys' H':=
   ⟨0,none,[],H3,I4,st4,fun b hb=>(fp3 b hb).1,w0⟩
  have emit:∀(n:Nat)(xx:V)(i:Nat)(ys':List V)(H4:Hp)(pl:List (Addr×Obj))(s₂:Ky),Inv (bo X scope C (x::ys) s3 H3 fp) ([]++pl) (some xx::bF σ is) H4 s₂→
    (∀s7 v7 H7,Inv (bo X scope C (x::ys) s3 H3 fp) ([]++pl) (v7::bF σ is) H7 s7→Inv (bo X scope C (x::ys) s3 H3 fp) [] (v7::bF σ is) H7 s7∧tn (i+1) s7.heap∧∀b∈fp,H7 b=none)→
    (te (some xx::bF σ is) H4 fun y H5=>H5 D=some (.lst ys')∧ys'.length<sizeLine∧∃m',m'<n∧W (i+1) m' (ys'++[y]) (upd H5 D (.lst (ys'++[y]))))→
    wpAny (model X.prog X.w) X.A (eval elt (compEnvC scope (dC scope.names X.env.cells []) C X.env)) (fun y s₃=>wpAny (model X.prog X.w) X.A (call (.builtin "list.append") [.ref D,y]) (fun _ s₄=>
     ∃m,m<n∧∃i v ys' H',Inv (bo X scope C (x::ys) s3 H3 fp) [] (v::bF σ is) H' s₄∧tn i s₄.heap∧(∀b∈fp,H' b=none)∧W i m ys' H') (fun _ _=>False) s₃) (fun _ _=>False) s₂:=by
   intro n xx i ys' H4 pl s₂ J2 back q
   refine thn (he C s3 H3 fp ([]++pl) s₂ _ H4 _ J2 q) fun y s₃ ⟨yv,H5,J3,r3,q1,q2,q3⟩=>?_
   refine thn (cp (X:=bo X scope C (x::ys) s3 H3 fp) ([]++pl) s₃ _ H5 (.ref D) [yv] (.ref D) [y] (fun v H7=>v=.non∧H7=upd H5 D (.lst (ys'++[yv]))) J3 rfl (.cons r3 .nil) ⟨D,ys',yv,rfl,rfl,q1,q2,rfl,rfl⟩) fun _ s₄ ⟨_,H7,J4,_,_,e7⟩=>?_
   subst e7
   obtain⟨m',hm',w'⟩:=q3
   obtain⟨b1,b2,b3⟩:=back s₄ _ _ J4
   exact⟨m',hm',i+1,some xx,ys'++[yv],_,b1,b2,b3,w'⟩
  have ex0:∀{α:Type}{t:Sem α}{Q':α→Ky→Prop}{E':Gt→Ky→Prop}{s:Ky},wpAny (model X.prog X.w) X.A t Q' (fun _ _=>False) s→wpAny (model X.prog X.w) X.A t Q' E' s:=fun h=>Le h (fun _ _ q=>q) fun _ _ q=>q.elim
  cases ifs with
  |nil=>
   have htc:tc=fun _ H Q=>Q true H:=hif C s3 H3 fp
   subst htc
   refine jM (fun n s=>∃i v ys' H',Inv (bo X scope C (x::ys) s3 H3 fp) [] (v::bF σ is) H' s∧tn i s.heap∧(∀b∈fp,H' b=none)∧W i n ys' H') (fun n s hI=>?_) m0 start0
   refine Le (turnAt n s hI) (fun r s₁ h₁=>?_) fun _ _ q=>q.elim
   cases r with
   |none=>exact h₁
   |some u=>
    refine Le h₁ (fun _ s₁ h₁=>Le h₁ (fun _ s₂ h₂=>?_) fun _ _ q=>q.elim) fun _ _ q=>q.elim
    obtain⟨xx,i,ys',_,H6,pl,J2,back,q⟩:=h₂
    dsimp only at q
    rw[if_pos rfl]at q
    exact Le (emit n xx i ys' H6 pl s₂ J2 back q) (fun y s₃ h₃=>ex0 h₃) fun _ _ q=>q.elim
  |cons c r0=>
   cases r0 with
   |cons _ _=>exact(hif C s3 H3 fp).elim
   |nil=>
    have hpt:PT (bo X scope C (x::ys) s3 H3 fp) c tc:=hif C s3 H3 fp
    refine jN (fun n s=>∃i v ys' H',Inv (bo X scope C (x::ys) s3 H3 fp) [] (v::bF σ is) H' s∧tn i s.heap∧(∀b∈fp,H' b=none)∧W i n ys' H') (fun n s hI=>?_) m0 start0
    refine Le (turnAt n s hI) (fun r s₁ h₁=>?_) fun _ _ q=>q.elim
    cases r with
    |none=>exact h₁
    |some u=>
     refine Le h₁ (fun _ s₁ h₁=>Le h₁ (fun _ s₂ h₂=>?_) fun _ _ q=>q.elim) fun _ _ q=>q.elim
     obtain⟨xx,i,ys',_,H6,pl,J2,back,q⟩:=h₂
     refine Le (hpt ([]++pl) s₂ _ H6 _ J2 q) (fun b s₃ h₃=>?_) fun _ _ q=>q.elim
     obtain⟨H4,J4,q4⟩:=h₃
     cases b with
     |true=>
      rw[if_pos rfl]at q4⊢
      exact Le (emit n xx i ys' H4 pl s₃ J4 back q4) (fun y s₃ h₃=>ex0 h₃) fun _ _ q=>q.elim
     |false=>
      rw[if_neg KN]at q4⊢
      obtain⟨m',hm',w'⟩:=q4
      obtain⟨b1,b2,b3⟩:=back s₃ _ _ J4
      exact⟨m',hm',i+1,some xx,ys',_,b1,b2,b3,w'⟩
 exact codeAny_compStart_list loop (T.self X.A 0 _ _ _ st4 loop)
end
section
variable {X:Cx}
theorem sx {scope:Scope}{x:Str}{ys:List Str}{is:List Nat}(ok:X.Ok)(S:eZ scope x ys)(hcap:gA X scope ys is):closureFor scope X.env=pure (dC scope.names X.env.cells []):=
 qM fun y hy hk=>by
  obtain⟨c,e⟩:=ok.has y.1 (oz hcap (S.all y hy hk))
  rw[e];rfl
theorem Bt {elt iter:Expr}{ifs:List Expr}{x:Str}{px pos:Pos}{scope:Scope}{ys:List Str}{is:List Nat}{wi:TI}{tc:TT}{te:TE}
  (hc:X.calm=true)(S:eZ scope x ys)(hcap:gA X scope ys is)(hi:PI X (.Name x px) iter wi)
  (hif:∀C s H fp,tM (bo X scope C (x::ys) s H fp) ifs tc)(he:∀C s H fp,PE (bo X scope C (x::ys) s H fp) elt te)
  (hs:∀x,foldedSetIterable iter X.env x=pure x:=by intro _;rfl):PE X (.ListComp elt [⟨.Name x px,iter,ifs,0⟩] scope pos) (fh is wi tc te):=by
 intro pins s σ H Q I h
 rw[eval_ListComp]
 refine SA (use:=none) rfl hs (sx I.ok S hcap) S.kind S.names (thn (hi pins s σ H _ I h) fun v s1 h1=>thn h1 fun itv s2 h2=>?_)
 obtain⟨it,fp,tn,J,H2,rfl,I2,T,st2,f2,hW⟩:=h2
 refine oq (RR:=fun acc C=>compPost (model X.prog X.w) X.A X.xe none (EP X pins σ Q) acc C) hc S hcap hif he I2 T st2 f2 hW ?_
 intro D C H' s' hlt hns hne hfr I' back q
 obtain⟨m,hm⟩:=hns
 exact⟨m,hm,fun h' hs'=>⟨.ref D,H',back h' hs',rfl,q⟩⟩
theorem sY {elt iter:Expr}{ifs:List Expr}{x y:Str}{px py pos spos:Pos}{scope:Scope}{ys:List Str}{is:List Nat}{wi:TI}{tc:TT}{te:TE}{j:Nat}
  (hN:X.N.Nodup)(hj:X.N[j]?=some y)(hy:Loc X.env.scope y)
  (hc:X.calm=true)(S:eZ scope x ys)(hcap:gA X scope ys is)(hi:PI X (.Name x px) iter wi)
  (hif:∀C s H fp,tM (bo X scope C (x::ys) s H fp) ifs tc)(he:∀C s H fp,PE (bo X scope C (x::ys) s H fp) elt te)
  (hsw:swapsWith (.ListComp elt [⟨.Name x px,iter,ifs,0⟩] scope pos) (some (.Name y py)) spos.line X.env=pure true:=by rfl)
  (hf:X.fn y=true∨X.env.scope.names.lookup y=some .local:=by first|exact .inl rfl|exact .inr rfl|assumption)
  (hs:∀x,foldedSetIterable iter X.env x=pure x:=by intro _;rfl):PS X (.Assign [.Name y py] (.ListComp elt [⟨.Name x px,iter,ifs,0⟩] scope pos) spos) (aC (fh is wi tc te) (aw j)):=by
 intro pins s σ H D I h
 rw[exec_Assign_Name_used _ _ _ _ hsw]
 refine cW (OD (cW ?_))
 show wpAny _ X.A (do let _←comprehension (.ListComp elt [⟨.Name x px,iter,ifs,0⟩] scope pos) scope X.env _ (newList []) false (eval iter X.env) (some (assign (.Name y py) X.env))) _ _ s
 refine cW (Le (SA (use:=some (assign (.Name y py) X.env)) (Q:=fun _ s'=>SP X pins D .next s') rfl hs (sx I.ok S hcap) S.kind S.names
  (thn (hi pins s σ H _ I h) fun v s1 h1=>thn h1 fun itv s2 h2=>?_)) (fun _ s' hq=>If (If hq)) fun _ _ e=>e)
 obtain⟨it,fp,tn,J,H2,rfl,I2,T,st2,f2,hW⟩:=h2
 refine oq (Q:=fun x H1=>aw j x σ H1 D.nx) (RR:=fun acc C=>compPost (model X.prog X.w) X.A X.xe (some (assign (.Name y py) X.env)) (fun _ s'=>SP X pins D .next s') acc C) hc S hcap hif he I2 T st2 f2 hW ?_
 intro Da C H' s' hlt hns hne hfr I' back q
 show wpAny _ X.A (assign (.Name y py) X.env (.ref Da)) _ _ _
 obtain⟨m,hm⟩:=hns
 refine QY (ou I' hN hj hy (v:=.ref Da) rfl (fun s2 I2' ⟨a,hsb,ha⟩=>?_) hf)
 have hCa:C≠a:=by
  rcases ha with e|e
  ·rw[e];exact hne
  ·rintro rfl
   obtain⟨v,o,ho,hd⟩:=I'.cell y C e
   obtain⟨o2,es,ep,ho2,hd2,_⟩:=hm
   rw[ho]at ho2;cases ho2;rw[hd]at hd2;cases hd2
 refine⟨m,hm.sameBut hsb hCa,fun h' hs'=>?_⟩
 have hCn:∀y c,X.env.cells.lookup y=some c→c≠C:=fun z c e q=>by
  subst q
  obtain⟨v,o,ho,hd⟩:=I'.cell z c e
  obtain⟨o2,es,ep,ho2,hd2,_⟩:=hm
  rw[ho]at ho2;cases ho2;rw[hd]at hd2;cases hd2
 have I3:Inv X pins (σ.set j (some (.ref Da))) H' {s2 with heap:=h'}:=by
  refine I2'.step (g':=s2.gens) (d':=s2.drawn) (t':=s2.toks) (ch:=[C]) (fun b hb=>?_) (fun b o _ _ hb e _=>(hs'.2 b (fun z=>hb (by simp[z]))).trans e) (fun b o _ _ hb e _=>⟨o.slots,(hs'.2 b (fun z=>hb (by simp[z]))).trans e⟩) (fun _ _ _ _ n=>n) (fun b o hb e=>⟨o,(hs'.2 b (fun z=>hb (by simp[z]))).trans e⟩)
   (fun _ _ e=>e) (fun _ _ _ e=>e) (fun b ps e=>⟨#[],by rw[e];simp⟩) (fun m' hm'=>hm'.sameBut hs' (Lg hne)) (fun b o e=>?_) I2'.bare
  ·have e:b=C:=by simpa using hb
   subst e
   exact⟨.inr hlt.1,hne,fun z c e=>hCn z c e,hlt.2⟩
  ·refine(I2'.hok b o e).stay (fun c w' hc q=>(hs'.2 c ?_).trans q) (fun _ q=>q) fun _ _ q=>q
   rintro rfl
   rcases hc with rfl|hc
   ·rw[hfr]at e;cases e
   ·rw[hfr]at hc;cases hc
 exact⟨_,H',I3,q⟩
end
def tyN (H:Hp):V→Option String
 |.non=>some "NoneType"
 |.bl _=>some "bool"
 |.int _=>some "int"
 |.str _=>some "str"
 |.ref a=>match H a with
  |some (.lst _)=>some "list"
  |some (.frz _ (.lst _))=>some "list"
  |some (.tup _)=>some "tuple"
  |some (.dK _)=>some "dict"
  |some (.dT _)=>some "dict"
  |_=>none
 |_=>none
theorem Ca {K:tx}{H:Hp}{x:V}{t:String}(h:tyN H x=some t):fQ K H x (.type t):=by
 cases x with
 |non=>cases h;exact .non
 |bl b=>cases h;exact .bl b
 |int i=>cases h;exact .int i
 |str x=>cases h;exact .str x
 |byt _=>cases h
 |flt _=>cases h
 |ty _=>cases h
 |ref a=>
  unfold tyN at h
  dsimp only at h
  split at h
  ·rename_i e;cases h;exact .lst e
  ·rename_i e;cases h;exact .frz e
  ·rename_i e;cases h;exact .tup e
  ·rename_i e;cases h;exact .dK e
  ·rename_i e;cases h;exact .dT e
  ·cases h
def tyL:List String:=["NoneType","bool","int","str","list","tuple","dict"]
theorem Ek {H:Hp}{x:V}{t:String}(h:tyN H x=some t):t∈tyL:=by
 cases x with
 |non=>cases h;decide
 |bl b=>cases h;decide
 |int i=>cases h;decide
 |str x=>cases h;decide
 |byt _=>cases h
 |flt _=>cases h
 |ty _=>cases h
 |ref a=>
  unfold tyN at h
  dsimp only at h
  split at h<;>first|(cases h;decide)|cases h
def isI (t T:String):Bool:=t==T||(T=="int"&&t=="bool")
theorem Dv (K:tx):∀t∈tyL,∀T∈["int","bool","str","tuple","list","dict"],W.kitOne K (.type t) (.type T)=some (isI t T):=by
 intro t ht T hT
 simp only[tyL,KY,Mb,or_false]at ht hT
 rcases ht with rfl|rfl|rfl|rfl|rfl|rfl|rfl<;>rcases hT with rfl|rfl|rfl|rfl|rfl|rfl<;>(unfold W.kitOne;first|rfl|decide+kernel|(simp only[W.kitCls];rfl))
section
variable {X:Cx}
theorem xg:bC X (.builtin "isinstance") (fun xs H Q=>∃x T t,xs=[x,.ty T]∧T∈["int","bool","str","tuple","list","dict"]∧tyN H x=some t∧Q (.bl (isI t T)) H):=by
 intro pins s σ H xs us Q I r h
 obtain⟨x,T,t,rfl,hT,ht,q⟩:=h
 obtain⟨u,w',rfl,r1,r2⟩:=pq r
 cases r2
 exact wG I r1 (Ca ht) (Dv X.K t (Ek ht) T hT) fun tk=>⟨.bl _,H,I.tok tk,rfl,q⟩
end
section
variable {X:Cx}
theorem sW:∀{bs:List Bool}{us:List Gt},aO (bs.map V.bl) us→us=bs.map MJ
 |[],_,.nil=>rfl
 |b::bs,_,.cons r t=>by
  have e:_=MJ b:=r
  rw[sW t,Lm,e]
theorem wf (bs:List Bool):(PC bs.length).all (fun i=>bs.getD i false)=bs.all id:=by
 rw[Oy,Mc,Mc]
 constructor
 ·intro h b hb
  obtain⟨i,hi,e⟩:=Sv.mp hb
  have:=h i (PM.mpr hi)
  simp only[Lb,KB hi,SX]at this
  rw[←e];exact this
 ·intro h i hi
  have hi:=PM.mp hi
  simp only[Lb,KB hi,SX]
  exact h _ (OY hi)
theorem rF {prog:KS}{w:LI}{A:Lj}{bs:List Bool}:TruthOf prog w A (fun i v=>(bs.map MJ).toArray[i]? =some v) (fun i=>bs.getD i false):=by
 intro i v s Q E hP hQ
 have hP:(bs.map MJ)[i]? =some v:=by simpa using hP
 rw[La]at hP
 cases e:bs[i]? with
 |none=>rw[e]at hP;cases hP
 |some b=>
  rw[e]at hP
  cases hP
  have hQ':Q b s:=by
   have e2:bs.getD i false=b:=by rw[Lb,e];rfl
   have hQ2:Q (bs.getD i false) s:=hQ
   rw[e2]at hQ2;exact hQ2
  exact MR (a:=b) rfl hQ'
theorem yf (hc:X.calm=true):bC X (.builtin "all") (fun xs H Q=>∃(a:Addr)(bs:List Bool),xs=[.ref a]∧H a=some (.lst (bs.map V.bl))∧Q (.bl (bs.all id)) H):=by
 intro pins s σ H xs us Q I r h
 obtain⟨a,bs,rfl,hH,q⟩:=h
 obtain⟨u,rfl,ru⟩:=eN r
 cases ru
 obtain⟨z,its,n,rv,e⟩:=I.hok a _ hH
 have ei:=sW rv
 subst ei
 have hl:s.heap.IsList a (bs.map MJ).toArray:=⟨_,e,rfl,_,rfl⟩
 refine call_all_walk (QX hl ?_)
 have hne:a≠s.heap.objs.size:=KZ (KF e)
 refine⟨s.heap.objs.size,_,_,_,_,_,_,rfl,Walks.list (by show X.A.handled=none;exact I.ok.hd hc) _ a hne (bs.map MJ).toArray,⟨⟨_,KG _ rfl,rfl,rfl⟩,⟨_,gV _ e,rfl,_,rfl⟩⟩,rF,fun h' tk hk=>?_⟩
 have e2:((bs.map MJ).toArray).size=bs.length:=by simp
 rw[e2,wf]
 refine⟨.bl _,H,I.kept (t':=tk) fun b o hb=>hk b o ?_ (gV _ hb),rfl,q⟩
 intro z
 have:b=s.heap.objs.size:=by simpa using z
 rw[this]at hb
 exact absurd (KF hb) (ML _)
theorem sC:∀{xs:List Str}{us:List Gt},aO (xs.map V.str) us→StrsAre us xs
 |[],_,.nil=>.nil
 |x::xs,_,.cons r t=>by
  obtain⟨tk,e⟩:=(show ∃t,_=Oc x t from r)
  rw[e]
  exact .cons _ _ (sC t)
def uc:V→List V→Hp→VK→Prop:=fun x vs H Q=>∃(z:Str)(a:Addr)(xs:List Str),x=.str z∧vs=[.ref a]∧H a=some (.lst (xs.map V.str))∧(xs.map (·.length)).sum+xs.length*z.length≤16777216∧Q (.str (Txt.join z xs)) H
theorem sB:MtM X "str.join" uc:=by
 intro pins s σ H x vs v us Q I rx rv h
 obtain⟨z,a,xs,rfl,rfl,hH,hz,q⟩:=h
 obtain⟨t,rfl⟩:=(show ∃t,v=Oc z t from rx)
 obtain⟨u,rfl,ru⟩:=rv.one
 cases ru
 obtain⟨_,its,n,rv,e⟩:=I.hok a _ hH
 refine join_list (items:=its.toArray) ⟨_,e,rfl,_,rfl⟩ (by simpa using sC rv) hz fun t' k=>⟨.str _,H,I.tok k,⟨_,rfl⟩,q⟩
end
@[irreducible] def Sel (b:Bool)(A B:Prop):Prop:=if b=true then A else B
theorem Sel.mk {b:Bool}{A B:Prop}(h1:b=true→A)(h2:b=false→B):Sel b A B:=by
 unfold Sel
 cases b with
 |true=>exact h1 rfl
 |false=>exact h2 rfl
theorem Sel.t {A B:Prop}(h:A):Sel true A B:=.mk (fun _=>h) fun e=>by cases e
theorem Sel.f {A B:Prop}(h:B):Sel false A B:=.mk (fun e=>by cases e) fun _=>h
theorem Sel.dec {p A B:Prop}[Decidable p](h1:p→A)(h2:¬p→B):Sel (decide p) A B:=.mk (fun e=>h1 (of_decide_eq_true e)) fun e=>h2 (of_decide_eq_false e)
theorem Sel.ndec {p A B:Prop}[Decidable p](h1:¬p→A)(h2:p→B):Sel (!decide p) A B:=.mk (fun e=>h1 (by simpa using e)) fun e=>h2 (by simpa using e)
theorem Sel.yes {b:Bool}{A B:Prop}(e:b=true)(h:A):Sel b A B:=by rw[e];exact .t h
theorem Sel.no {b:Bool}{A B:Prop}(e:b=false)(h:B):Sel b A B:=by rw[e];exact .f h
theorem eX {b:Bool}{A B:Prop}(h:Sel b A B):if b=true then A else B:=by unfold Sel at h;exact h
def af (i:Nat):TE:=fun σ H Q=>match σ[i]? with|some (some v)=>Q v H|_=>False
section
variable {X:Cx}
theorem PE.imp {e:Expr}{t t':TE}(h:PE X e t)(i:∀σ H Q,t' σ H Q→t σ H Q):PE X e t':=fun pins s σ H Q I q=>h pins s σ H Q I (i _ _ _ q)
theorem OpR.imp {f:Gt→Gt→Sem Gt}{r r':R2}(h:OpR X f r)(i:∀x y H Q,r' x y H Q→r x y H Q):OpR X f r':=fun pins s σ H x y v u Q I rx ry q=>h pins s σ H x y v u Q I rx ry (i _ _ _ _ q)
theorem qv (i:Nat){x:Str}{pos:Pos}(hN:X.N[i]?=some x:=by rfl)(hv:Vis X.env.scope x:=by first|exact Or.inl rfl|exact Tw (Or.inl rfl)|exact Tw (Tw rfl))(hd:(x==("__debug__":Str))=false:=by decide)
  (hcd:(x==("__classdict__":Str))=false:=by decide):PE X (.Name x pos) (af i):=(BV hN hv hd hcd).imp fun σ H Q q=>by
 unfold af at q
 split at q
 ·rename_i v e;exact⟨v,e,q⟩
 ·exact q.elim
theorem qgi {x:Str}{i:Int}{pos:Pos}(hm:∃t,X.mg x=some (.int i t))(hg:Gl X x:=by rfl)(hd:(x==("__debug__":Str))=false:=by decide):PE X (.Name x pos) (tC (.int i)):=by
 obtain⟨t,e⟩:=hm
 exact AU hg e ⟨t,rfl⟩ hd
def fe:R2:=fun x y H Q=>match x,y with|.int i,.int j=>Q (.int (i- j)) H|_,_=>False
theorem gr:OpR X (binaryOp .Sub) fe:=BU.imp fun x y H Q q=>by
 unfold fe at q
 split at q
 ·exact⟨_,_,rfl,rfl,q⟩
 ·exact q.elim
theorem Bq:OpR X (binaryOp .Mult) (rI Us fun i j=>.int (i*j)):=opI fun _ _ _ _ _ _ _ hc q=>mul_int q hc
def xS:R2:=fun x y H Q=>match x,y with
 |.int i,.int j=>Us i j∧Q (.int (i*j)) H
 |_,_=>False
theorem JZ:OpR X (binaryOp .Mult) xS:=Bq.imp fun x y H Q q=>by
 unfold xS at q
 split at q
 ·exact⟨_,_,rfl,rfl,q.1,q.2⟩
 ·exact q.elim
def cY:R2:=fun x y H Q=>match x,y with|.int i,.int j=>0<j∧Q (.int (i%j)) H|_,_=>False
theorem dk:OpR X (binaryOp .Mod) cY:=BA.imp fun x y H Q q=>by
 unfold cY at q
 split at q
 ·exact⟨_,_,rfl,rfl,q.1,q.2⟩
 ·exact q.elim
def nP:R2:=fun x y H Q=>match x,y with|.int i,.int j=>(0≤j∧j≤1000000∧i.natAbs<2^64)∧Q (.int (i^j.toNat)) H|_,_=>False
theorem tD:OpR X (binaryOp .Pow) nP:=EG.imp fun x y H Q q=>by
 unfold nP at q
 split at q
 ·exact⟨_,_,rfl,rfl,q.1,q.2⟩
 ·exact q.elim
def qT:R2:=fun x y H Q=>match x,y with|.int i,.int j=>(0≤j∧j≤1000000∧i.natAbs<2^64)∧Q (.int (i*2^j.toNat)) H|_,_=>False
theorem xb:OpR X (binaryOp .LShift) qT:=Cp.imp fun x y H Q q=>by
 unfold qT at q
 split at q
 ·exact⟨_,_,rfl,rfl,q.1,q.2⟩
 ·exact q.elim
def mLt:R2:=fun x y H Q=>match x,y with|.int i,.int j=>Q (.bl (decide (i<j))) H|_,_=>False
theorem oLt:OpR X (compareOp .Lt) mLt:=FR.imp fun x y H Q q=>by
 unfold mLt at q
 split at q
 ·exact⟨_,_,rfl,rfl,q⟩
 ·exact q.elim
def mLe:R2:=fun x y H Q=>match x,y with|.int i,.int j=>Q (.bl (decide (i≤j))) H|_,_=>False
theorem oLe:OpR X (compareOp .LtE) mLe:=FD.imp fun x y H Q q=>by
 unfold mLe at q
 split at q
 ·exact⟨_,_,rfl,rfl,q⟩
 ·exact q.elim
def mGt:R2:=fun x y H Q=>match x,y with|.int i,.int j=>Q (.bl (decide (j<i))) H|_,_=>False
theorem oGt:OpR X (compareOp .Gt) mGt:=FW.imp fun x y H Q q=>by
 unfold mGt at q
 split at q
 ·exact⟨_,_,rfl,rfl,q⟩
 ·exact q.elim
def mGe:R2:=fun x y H Q=>match x,y with|.int i,.int j=>Q (.bl (decide (j≤i))) H|_,_=>False
theorem oGe:OpR X (compareOp .GtE) mGe:=FQ.imp fun x y H Q q=>by
 unfold mGe at q
 split at q
 ·exact⟨_,_,rfl,rfl,q⟩
 ·exact q.elim
def mEq:R2:=fun x y H Q=>match x,y with
 |.int i,.int j=>Q (.bl (decide (i=j))) H
 |.str i,.str j=>Q (.bl (decide (i=j))) H
 |.bl i,.bl j=>Q (.bl (decide (i=j))) H
 |.non,.non=>Q (.bl true) H
 |.non,.int _=>Q (.bl false) H|.int _,.non=>Q (.bl false) H|.non,.bl _=>Q (.bl false) H|.bl _,.non=>Q (.bl false) H|.non,.str _=>Q (.bl false) H|.str _,.non=>Q (.bl false) H
 |.int _,.str _=>Q (.bl false) H|.str _,.int _=>Q (.bl false) H|.bl _,.str _=>Q (.bl false) H|.str _,.bl _=>Q (.bl false) H
 |_,_=>False
theorem kL {α:Type}[DecidableEq α]{f:α→V}(hf:∀a b,f a=f b→a=b)(a b:α):decide (f a=f b)=decide (a=b):=by
 by_cases h:a=b
 ·subst h;simp
 ·rw[decide_eq_false h,decide_eq_false fun e=>h (hf a b e)]
theorem oEq:OpR X (compareOp .Eq) mEq:=HJ.imp fun x y H Q q=>by
 unfold mEq at q
 split at q
 ·exact⟨rfl,by rw[kL (f:=V.int) fun _ _ e=>V.int.inj e];exact q⟩
 ·exact⟨rfl,by rw[kL (f:=V.str) fun _ _ e=>V.str.inj e];exact q⟩
 ·exact⟨rfl,by rw[kL (f:=V.bl) fun _ _ e=>V.bl.inj e];exact q⟩
 ·exact⟨rfl,by simpa using q⟩
 all_goals first|exact q.elim|exact⟨rfl,q⟩
def mNe:R2:=fun x y H Q=>match x,y with
 |.int i,.int j=>Q (.bl (!decide (i=j))) H
 |.str i,.str j=>Q (.bl (!decide (i=j))) H
 |.bl i,.bl j=>Q (.bl (!decide (i=j))) H
 |.non,.non=>Q (.bl false) H
 |.non,.int _=>Q (.bl true) H|.int _,.non=>Q (.bl true) H|.non,.bl _=>Q (.bl true) H|.bl _,.non=>Q (.bl true) H|.non,.str _=>Q (.bl true) H|.str _,.non=>Q (.bl true) H
 |.int _,.str _=>Q (.bl true) H|.str _,.int _=>Q (.bl true) H|.bl _,.str _=>Q (.bl true) H|.str _,.bl _=>Q (.bl true) H
 |_,_=>False
theorem oNe:OpR X (compareOp .NotEq) mNe:=FA.imp fun x y H Q q=>by
 unfold mNe at q
 split at q
 ·exact⟨rfl,by rw[kL (f:=V.int) fun _ _ e=>V.int.inj e];exact q⟩
 ·exact⟨rfl,by rw[kL (f:=V.str) fun _ _ e=>V.str.inj e];exact q⟩
 ·exact⟨rfl,by rw[kL (f:=V.bl) fun _ _ e=>V.bl.inj e];exact q⟩
 ·exact⟨rfl,by simpa using q⟩
 all_goals first|exact q.elim|exact⟨rfl,q⟩
def tY:R2:=fun x y H Q=>match y with|.non=>Q (.bl (match x with|.non=>false|_=>true)) H|_=>False
theorem CN:OpR X (compareOp .IsNot) tY:=Bh.imp fun x y H Q q=>by
 unfold tY at q
 split at q
 ·refine⟨rfl,?_⟩
  cases x<;>simpa using q
 ·exact q.elim
def be (t:TE):TT:=fun σ H Q=>t σ H fun x H'=>match x with|.bl k=>Q k H'|_=>False
theorem qtc {op:Tv}{r:R2}{a b:Expr}{ta tb:TE}{pos:Pos}(ho:OpR X (compareOp op) r)(ha:PE X a ta)(hb:PE X b tb)(hm:behindInMarks op b=false:=by first|exact mh _|rfl):PT X (.Compare a [op] [b] pos) (be (tOp r ta tb)):=by
 intro pins s σ H Q I h
 refine wpAny_isTrue_Compare1 (thn (ha pins s σ H _ I h) fun v s1 ⟨x,H1,I1,r1,q1⟩=>thn (hb pins s1 σ H1 _ I1 q1) fun u s2 ⟨y,H2,I2,r2,q2⟩=>
  thn (ho pins s2 σ H2 x y v u _ I2 r1 r2 q2) fun c s3 ⟨z,H3,I3,r3,q3⟩=>?_) hm
 cases z<;>first|exact q3.elim|(cases r3;exact Nl ⟨H3,I3,q3⟩)
theorem qc {op:Tv}{r:R2}{a b:Expr}{ta tb:TE}{pos:Pos}(ho:OpR X (compareOp op) r)(ha:PE X a ta)(hb:PE X b tb)(hm:behindInMarks op b=false:=by first|exact mh _|rfl):PE X (.Compare a [op] [b] pos) (tOp r ta tb):=Al ho ha hb hm
def fv (r r':R2)(ta tb tc:TE):TE:=fun σ H Q=>ta σ H fun x H1=>tb σ H1 fun y H2=>r x y H2 fun z H3=>match z with
 |.bl k=>Sel k (tc σ H3 fun w' H4=>r' y w' H4 Q) (Q (.bl false) H3)
 |_=>False
theorem qch {op op':Tv}{r r':R2}{a b c:Expr}{ta tb tc:TE}{pos:Pos}(ho:OpR X (compareOp op) r)(ho':OpR X (compareOp op') r')(ha:PE X a ta)(hb:PE X b tb)(hc:PE X c tc)
  (hm:lastMarks [op,op'] [b,c]=false:=by with_unfolding_all rfl):PE X (.Compare a [op,op'] [b,c] pos) (fv r r' ta tb tc):=by
 intro pins s σ H Q I h
 refine Compare_chain (thn (ha pins s σ H _ I h) fun v s1 ⟨x,H1,I1,r1,q1⟩=>chain_link (thn (hb pins s1 σ H1 _ I1 q1) fun u s2 ⟨y,H2,I2,r2,q2⟩=>
  thn (ho pins s2 σ H2 x y v u _ I2 r1 r2 q2) fun d s3 ⟨z,H3,I3,r3,q3⟩=>?_)) hm
 cases z<;>first|exact q3.elim|skip
 rename_i k
 cases r3
 refine Nl ?_
 have q3:=eX q3
 cases k with
 |false=>exact ite_ff ⟨.bl false,H3,I3,rfl,q3⟩
 |true=>exact ite_tt (chain_last (thn (hc pins s3 σ H3 _ I3 q3) fun w' s4 ⟨z',H4,I4,r4,q4⟩=>ho' pins s4 σ H4 y z' u w' Q I4 r2 r4 q4))
theorem JQ {op op':Tv}{r r':R2}{a b c:Expr}{ta tb tc:TE}{pos:Pos}(ho:OpR X (compareOp op) r)(ho':OpR X (compareOp op') r')(ha:PE X a ta)(hb:PE X b tb)(hc:PE X c tc)
  (hm:lastMarks [op,op'] [b,c]=false:=by with_unfolding_all rfl):PT X (.Compare a [op,op'] [b,c] pos) (be (fv r r' ta tb tc)):=by
 intro pins s σ H Q I h
 refine isTrue_chain (thn (ha pins s σ H _ I h) fun v s1 ⟨x,H1,I1,r1,q1⟩=>test_link (thn (hb pins s1 σ H1 _ I1 q1) fun u s2 ⟨y,H2,I2,r2,q2⟩=>
  thn (ho pins s2 σ H2 x y v u _ I2 r1 r2 q2) fun d s3 ⟨z,H3,I3,r3,q3⟩=>?_)) hm
 cases z<;>first|exact q3.elim|skip
 rename_i k
 cases r3
 refine Nl ?_
 have q3:=eX q3
 cases k with
 |false=>exact ite_ff ⟨H3,I3,q3⟩
 |true=>
  refine ite_tt (test_last (thn (hc pins s3 σ H3 _ I3 q3) fun w' s4 ⟨z',H4,I4,r4,q4⟩=>thn (ho' pins s4 σ H4 y z' u w' _ I4 r2 r4 q4) fun d' s5 ⟨z2,H5,I5,r5,q5⟩=>?_))
  cases z2<;>first|exact q5.elim|(cases r5;exact Nl ⟨H5,I5,q5⟩)
def de (K:tx)(t:TE):TT:=fun σ H Q=>t σ H fun x H'=>match x with
 |.bl k=>Q k H'
 |.non=>Q false H'
 |.int i=>Q (i !=0) H'
 |x=>∃k,Dq K x H' k∧Q k H'
theorem qtb {e:Expr}{t:TE}(h:PE X e t)(he:∀whole,isTrue e X.env whole=(do let v←whole;standAt e.pos;holding [v] (truthy v)):=by intro _;rfl):PT X e (de X.K t):=by
 intro pins s σ H Q I q
 refine isTrue_plain (thn (h pins s σ H _ I q) fun v s1 ⟨x,H1,I1,r1,q1⟩=>ES pins s1 σ H1 x v Q I1 r1 ?_) (he _)
 cases x<;>first|exact⟨_,rfl,q1⟩|exact q1
def uk (t u:TT):TT:=fun σ H Q=>t σ H fun c H1=>Sel c (u σ H1 Q) (Q false H1)
def mOr (t u:TT):TT:=fun σ H Q=>t σ H fun c H1=>Sel c (Q true H1) (u σ H1 Q)
variable {a b c:Expr}{ta tb:TE}{tA tB':TT}{ci:List Expr}{pos:Pos}
theorem Ao (ha:PT X a tA):PW X (.BoolOp .And [a] pos) tA:=AN ha
theorem BC (ha:PT X a tA):PW X (.BoolOp .Or [a] pos) tA:=En ha
theorem Cm (ha:PT X a tA)(hb:PW X (.BoolOp .And (b::ci) pos) tB'):PW X (.BoolOp .And (a::b::ci) pos) (uk tA tB'):=by
 intro wh pins s σ H Q I h
 refine isTrue_and (thn (ha pins s σ H _ I h) fun c s1 ⟨H1,I1,q1⟩=>?_)
 have q1:=eX q1
 cases c with
 |true=>exact hb wh pins s1 σ H1 Q I1 q1
 |false=>exact⟨H1,I1,q1⟩
theorem Hw (ha:PT X a tA)(hb:PW X (.BoolOp .Or (b::ci) pos) tB'):PW X (.BoolOp .Or (a::b::ci) pos) (mOr tA tB'):=by
 intro wh pins s σ H Q I h
 refine isTrue_or (thn (ha pins s σ H _ I h) fun c s1 ⟨H1,I1,q1⟩=>?_)
 have q1:=eX q1
 cases c with
 |true=>exact⟨H1,I1,q1⟩
 |false=>exact hb wh pins s1 σ H1 Q I1 q1
def cy (ta tb:TE):TE:=fun σ H Q=>ta σ H fun x H1=>match x with|.bl c=>Sel c (tb σ H1 Q) (Q (.bl false) H1)|_=>False
def uj (ta:TE):TE:=fun σ H Q=>ta σ H fun x H1=>match x with|.bl c=>Q (.bl (!c)) H1|_=>False
theorem IY (ha:PE X a ta)(hb:PE X (.BoolOp .And (b::ci) pos) tb):PE X (.BoolOp .And (a::b::ci) pos) (cy ta tb):=by
 intro pins s σ H Q I h
 refine BoolOp_and (thn (ha pins s σ H _ I h) fun v s1 ⟨x,H1,I1,r1,q1⟩=>?_)
 cases x<;>first|exact q1.elim|skip
 rename_i c
 cases r1
 refine Nl ?_
 have q1:=eX q1
 cases c with
 |true=>exact hb pins s1 σ H1 Q I1 q1
 |false=>exact⟨.bl false,H1,I1,rfl,q1⟩
theorem Fw (ha:PE X a ta):PE X (.UnaryOp .Not a pos) (uj ta):=by
 intro pins s σ H Q I h
 refine UnaryOp_ (thn (ha pins s σ H _ I h) fun v s1 ⟨x,H1,I1,r1,q1⟩=>?_)
 cases x<;>first|exact q1.elim|skip
 rename_i c
 cases r1
 exact not_of (Nl ⟨.bl (!c),H1,I1,rfl,q1⟩)
def mIf (t:TT)(ta tb:TE):TE:=fun σ H Q=>t σ H fun c H1=>Sel c (ta σ H1 Q) (tb σ H1 Q)
theorem JX {c:Expr}(hc:PT X c tA)(ha:PE X a ta)(hb:PE X b tb):PE X (.IfExp c a b pos) (mIf tA ta tb):=by
 intro pins s σ H Q I h
 refine wpAny_IfExp (thn (hc pins s σ H _ I h) fun d s1 ⟨H1,I1,q1⟩=>?_)
 have q1:=eX q1
 cases d with
 |true=>exact ha pins s1 σ H1 Q I1 q1
 |false=>exact hb pins s1 σ H1 Q I1 q1
def bj (c:TT)(t u:TS):TS:=fun D σ H=>c σ H fun b H1=>Sel b (t D σ H1) (u D σ H1)
theorem qif {c:Expr}{l m:List Stmt}{tc:TT}{t u:TS}(hc:PT X c tc)(ha:PSs X l t)(hb:PSs X m u):PS X (.If c l m pos) (bj tc t u):=by
 intro pins s σ H D I h
 refine wpAny_If (thn (hc pins s σ H _ I h) fun d s1 ⟨H1,I1,q1⟩=>?_)
 have q1:=eX q1
 cases d with
 |true=>exact ha pins s1 σ H1 D I1 q1
 |false=>exact hb pins s1 σ H1 D I1 q1
theorem Ju:bC X (.builtin "len") (fun xs H Q=>match xs with
  |[.str y]=>y.length≤sizeLine∧Q (.int y.length) H
  |[.ref p]=>(∃xs,SqL X.K H p xs∧Q (.int xs.length) H)∨(∃xs,SqT X.K H p xs∧Q (.int xs.length) H)∨∃kvs,H p=some (.dK kvs)∧Q (.int kvs.length) H
  |_=>False):=by
 intro pins s σ H xs us Q I r h
 split at h
 ·rename_i y
  exact lQ pins s σ H _ us Q I r ⟨_,_,rfl,⟨h.1,rfl⟩,h.2⟩
 ·rename_i p
  rcases h with⟨ys,h1,h2⟩|⟨ys,h1,h2⟩|⟨kvs,h1,h2⟩
  ·exact lQ pins s σ H _ us Q I r ⟨_,_,rfl,.inl ⟨ys,h1,rfl⟩,h2⟩
  ·exact lQ pins s σ H _ us Q I r ⟨_,_,rfl,.inr ⟨ys,h1,rfl⟩,h2⟩
  ·exact wI pins s σ H _ us Q I r ⟨p,kvs,rfl,h1,h2⟩
 ·exact h.elim
end
section
variable {X:Cx}{tg:Expr}
def fT:V→Hp→VK→Prop:=fun x H Q=>match x with|.int i=>Q (.int (-i)) H|_=>False
theorem JJ:UnR X (unaryOp .USub) fT:=fun pins s σ H x v Q I rx q=>CU pins s σ H x v Q I rx (by
 unfold fT at q
 split at q
 ·exact⟨_,rfl,q⟩
 ·exact q.elim)
def Eb (K:tx):List V→Hp→VK→Prop:=fun xs H Q=>match xs with
 |[.str y]=>y.length≤sizeLine∧Q (.int y.length) H
 |[.ref p]=>(∃xs,SqL K H p xs∧Q (.int xs.length) H)∨(∃xs,SqT K H p xs∧Q (.int xs.length) H)∨∃kvs,H p=some (.dK kvs)∧Q (.int kvs.length) H
 |_=>False
theorem Kw:bC X (.builtin "len") (Eb X.K):=Ju
def eU:List V→Hp→VK→Prop:=fun xs H Q=>match xs with
 |[x,.ty T]=>T∈["int","bool","str","tuple","list","dict"]∧∃t,tyN H x=some t∧Q (.bl (isI t T)) H
 |_=>False
theorem fH:bC X (.builtin "isinstance") eU:=fun pins s σ H xs us Q I r h=>by
 unfold eU at h
 split at h
 ·obtain⟨h1,t,h2,h3⟩:=h
  exact xg pins s σ H _ us Q I r ⟨_,_,t,rfl,h1,h2,h3⟩
 ·exact h.elim
def zk:List V→Hp→VK→Prop:=fun xs H Q=>∃(a:Addr)(bs:List Bool),xs=[.ref a]∧H a=some (.lst (bs.map V.bl))∧Q (.bl (bs.all id)) H
theorem Es (hc:X.calm=true):bC X (.builtin "all") zk:=yf hc
def pU (K:tx):List V→Hp→VK→Prop:=fun xs H Q=>∃p ys,xs=[.ref p]∧(SqL K H p ys∨SqT K H p ys)∧∀l,H l=none→Q (.ref l) (upd H l (.lst ys))
theorem tO:bC X (.type "list") (pU X.K):=rj
def wq (K:tx):List V→Hp→VK→Prop:=fun xs H Q=>∃p ys,xs=[.ref p]∧((SqL K H p ys∧∀l,H l=none→Q (.ref l) (upd H l (.tup ys)))∨(SqT K H p ys∧Q (.ref p) H))
theorem Dy:bC X (.type "tuple") (wq X.K):=oV
def zm:List V→Hp→VK→Prop:=fun xs H Q=>match xs with
 |[.int i]=>i.natAbs.log2<1920∧Q (.str (toString i)) H
 |_=>False
theorem IM:bC X (.type "str") zm:=fun pins s σ H xs us Q I r h=>by
 unfold zm at h
 split at h
 ·exact qk pins s σ H _ us Q I r ⟨_,rfl,h.1,h.2⟩
 ·exact h.elim
end
theorem wg:bootBuiltins "all"=some (.builtin "all"):=by decide+kernel
structure dc (J:It)(n:Nat)(it:Nat→V)(Pv:Hp→Prop):Prop where
 go:∀i H,i<n→Pv H→J.go i H
 yld:∀i H x H',i<n→Pv H→J.yld i H x H'→H'=H∧x=it i
 stop:∀H,Pv H→J.stop n H
theorem dc.list {K:tx}{a:Addr}{xs:List V}(d:V):dc (Itl K a) xs.length (fun i=>xs.getD i d) (fun H=>SqL K H a xs)where
 go:=fun i H hi h=>⟨xs,xs[i],h,by simp[hi]⟩
 yld:=fun i H x H' hi h y=>⟨y.1,by have:=y.2 xs h;rw[Lb,this];rfl⟩
 stop:=fun H h=>⟨xs,h,KA _⟩
theorem dc.tuple {K:tx}{a:Addr}{xs:List V}(d:V):dc (Itt K a) xs.length (fun i=>xs.getD i d) (fun H=>SqT K H a xs)where
 go:=fun i H hi h=>⟨xs,xs[i],h,by simp[hi]⟩
 yld:=fun i H x H' hi h y=>⟨y.1,by have:=y.2 xs h;rw[Lb,this];rfl⟩
 stop:=fun H h=>⟨xs,h,KA _⟩
theorem dc.range {lo:Int}{n:Nat}:dc (Itr lo n) n (fun i=>.int (lo+i)) (fun _=>True)where
 go:=fun i H hi _=>hi
 yld:=fun i H x H' hi _ y=>y
 stop:=fun H _=>KA _
def CWd (n:Nat)(Pv:Nat→List V→Hp→Prop):Nat→Nat→List V→Hp→Prop:=fun i m ys H=>i≤n∧m=n- i∧Pv i ys H
theorem CWd.next {n i:Nat}{Pv:Nat→List V→Hp→Prop}{ys:List V}{H:Hp}(hi:i<n)(h:Pv (i+1) ys H):∃m',m'<n- i∧CWd n Pv (i+1) m' ys H:=⟨n- (i+1),by omega,hi,rfl,h⟩
theorem fS {J:It}{n:Nat}{it:Nat→V}{Pk:Hp→Prop}{σ:St}{is:List Nat}{tc:TT}{te:TE}{Q:VK}{H1:Hp}{D:Addr}(T:dc J n it Pk)(Pv:Nat→List V→Hp→Prop)
  (hk:∀i ys H,i≤n→Pv i ys H→Pk H)(h0:Pv 0 [] (upd H1 D (.lst [])))
  (hs:∀i ys H2,i<n→Pv i ys H2→tc (some (it i)::bF σ is) H2 fun b H4=>if b=true then
   te (some (it i)::bF σ is) H4 fun y H5=>H5 D=some (.lst ys)∧ys.length<sizeLine∧∃m',m'<n- i∧CWd n Pv (i+1) m' (ys++[y]) (upd H5 D (.lst (ys++[y])))
   else ∃m',m'<n- i∧CWd n Pv (i+1) m' ys H4)
  (hd:∀ys H,Pv n ys H→Q (.ref D) H):zH is tc te σ D J H1 Q:=by
 refine⟨CWd n Pv,⟨n,Ly _,rfl,h0⟩,?_⟩
 rintro i m ys H2 ⟨hi,rfl,p⟩
 by_cases hlt:i<n
 ·refine .inr ⟨T.go i H2 hlt (hk i ys H2 hi p),fun x H3 y=>?_⟩
  obtain⟨rfl,rfl⟩:=T.yld i H2 x H3 hlt (hk i ys H2 hi p) y
  exact hs i ys _ hlt p
 ·have e:i=n:=by omega
  subst e
  exact .inl ⟨T.stop H2 (hk _ ys H2 hi p),hd ys H2 p⟩
theorem au.upd {H:Hp}{p:Addr}{o:HO}(h:H p=none):au H (upd H p o):=fun b u e=>by rw[ao (av e h)];exact e
theorem qY {xs:List V}{i:Int}(h0:0≤i)(h1:i<xs.length):atI xs i=some (xs.getD i.toNat .non):=by
 unfold atI ixN
 rw[if_pos h0,if_pos h1]
 show xs[i.toNat]?=_
 rw[Lb]
 have:i.toNat<xs.length:=by omega
 rw[KB this];rfl
def bA:Expr→Bool
 |.Starred _ _=>false
 |_=>true
theorem aP {e:Expr}(h:bA e=true)(ci:List Expr)(env:Env):starEach (e::ci) env=(false,eval e env)::starEach ci env:=by
 cases e<;>first|rfl|cases h
def aU:List Expr→Bool
 |[]=>true
 |e::r=>bA e&&aU r
theorem bv:∀{es:List Expr}{env:Env}{pos:Pos},aU es=true→(backTo pos (starEach es env)).any (·.1)=false
 |[],_,_,_=>rfl
 |e::r,env,pos,h=>by
  have h:(bA e&&aU r)=true:=h
  rw[Lq]at h
  rw[aP h.1]
  show(false||(backTo pos (starEach r env)).any (·.1))=false
  rw[bv h.2];rfl
section
variable {X:Cx}{e:Expr}{es:List Expr}{te:TE}{t:TA}{pos:Pos}
theorem Ae (ha:PE X e te)(hr:PA X es t)(hs:bA e=true:=by rfl):PA X (e::es) (ag te t):=AW ha hr (aP hs es X.env)
variable {x:Str}{p apos cpos:Pos}{id T:String}{r:List V→Hp→VK→Prop}
theorem As (hc:bC X (.builtin id) r)(hg:Gl X x)(hm:X.mg x=none)(hv:bootBuiltins x=some (.builtin id))(ha:PA X (e::es) t)(hn:x≠"__name__":=by decide)(hdb:(x==("__debug__":Str))=false:=by decide)
  (hs:aU (e::es)=true:=by rfl):PE X (.Call (.Name x p) (e::es) [] pos) (tCB r t):=
 have h:(bA e&&aU es)=true:=hs
 yy hc hg hm hv ha hn hdb (aP (KD.mp h).1 es X.env) (bv (KD.mp h).2)
theorem yB (hc:bC X (.type T) r)(hg:Gl X x)(hm:X.mg x=none)(hv:bootBuiltins x=some (.type T))(ha:PA X (e::es) t)(hn:x≠"__name__":=by decide)(hdb:(x==("__debug__":Str))=false:=by decide)
  (hs:aU (e::es)=true:=by rfl):PE X (.Call (.Name x p) (e::es) [] pos) (tCB r t):=
 have h:(bA e&&aU es)=true:=hs
 vj hc hg hm hv ha hn hdb (aP (KD.mp h).1 es X.env) (bv (KD.mp h).2)
variable {CX:CXT}{k:Nat}{f C:Addr}{fd:KP}{ps:List Str}{sp:Sp}{dvs:List V}{ds:List Gt}{E:XK}{m:Str}{o:Expr}{ta:TE}
theorem lr:∀{es:List Expr}{env:Env}{pos:Pos},aU es=true→(backTo pos (starEach es env)).all (fun x=> !x.1)=true
 |[],_,_,_=>rfl
 |e::r,env,pos,h=>by
  have h:(bA e&&aU r)=true:=h
  rw[Lq]at h
  rw[aP h.1]
  show(true&&(backTo pos (starEach r env)).all (fun x=> !x.1))=true
  rw[lr h.2];rfl
variable {to:TE}{name:Str}{rm:V→List V→Hp→VK→Prop}
theorem Js (pa:Rb T)(slot:Slot T name id)(hty:typeOf (.builtin id)=pure (.type "method_descriptor"))(hm:MtR X id rm)(ho:PE X o to)(ha:PA X (e::es) t)
  (hbase:attributeBase o name X.env (eval o X.env)=eval o X.env:=by rfl)(hfew:decide ((e::es).length<30)=true:=by rfl)
  (hline:(apos.endLine==cpos.line)=true:=by rfl)(hs:aU (e::es)=true:=by rfl):PE X (.Call (.Attribute o name apos) (e::es) [] cpos) (tBM X.K T rm to t):=
 have h:(bA e&&aU es)=true:=hs
 EY pa slot hty hm ho ha hbase (by rw[lr hs];exact hfew) hline (aP (KD.mp h).1 es X.env) (bv (KD.mp h).2)
end
structure QE (X:Cx)(e:Expr)(t:TE):Prop where
 out:PE X e t
structure QT (X:Cx)(e:Expr)(t:TT):Prop where
 out:PT X e t
structure QW (X:Cx)(e:Expr)(t:TT):Prop where
 out:PW X e t
structure QA (X:Cx)(e:List Expr)(t:TA):Prop where
 out:PA X e t
structure QS (X:Cx)(e:Stmt)(t:TS):Prop where
 out:PS X e t
structure QSs (X:Cx)(e:List Stmt)(t:TS):Prop where
 out:PSs X e t
structure QI (X:Cx)(tg iter:Expr)(t:TI):Prop where
 out:PI X tg iter t
structure QO (X:Cx)(e:Option Expr)(t:TO):Prop where
 out:PO X e t
structure xV (X:Cx)(e:List Expr)(t:TT):Prop where
 out:tM X e t
section
variable {X:Cx}{a b c e o:Expr}{es ci:List Expr}{ta tb tc te to tv:TE}{tA tB':TT}{t:TA}{pos apos cpos p:Pos}{x y:Str}
theorem ac (i:Nat)(hN:X.N[i]?=some x:=by rfl)(hv:Vis X.env.scope x:=by first|exact Or.inl rfl|exact Tw (Or.inl rfl)|exact Tw (Tw rfl))(hd:(x==("__debug__":Str))=false:=by decide)
 (hcd:(x==("__classdict__":Str))=false:=by decide):QE X (.Name x pos) (af i):=⟨qv i hN hv hd hcd⟩
theorem Km {i:Int}(hm:∃t,X.mg x=some (.int i t))(hg:Gl X x:=by rfl)(hd:(x==("__debug__":Str))=false:=by decide):QE X (.Name x pos) (tC (.int i)):=⟨qgi hm hg hd⟩
theorem fU {T:String}(hm:X.mg x=none)(hv:bootBuiltins x=some (.type T))(hg:Gl X x:=by rfl)(hn:x≠"__name__":=by decide)(hd:(x==("__debug__":Str))=false:=by decide):QE X (.Name x pos) (tC (.ty T)):=⟨Af hg hm hv rfl hn hd⟩
theorem aq {i:Int}{j}:QE X (.Constant (.int i) j pos) (tC (.int i)):=⟨DB⟩
theorem eR {b:Bool}{j}:QE X (.Constant (.bool b) j pos) (tC (.bl b)):=⟨GS⟩
theorem jx {j}:QE X (.Constant .none j pos) (tC .non):=⟨CF⟩
theorem cG {z:Str}{j}:QE X (.Constant (.str z) j pos) (tC (.str z)):=⟨CA⟩
theorem fY (ha:QE X a ta):QE X (.UnaryOp .USub a pos) (tUn fT ta):=⟨Gb JJ ha.out⟩
theorem Hf (ha:QE X a ta):QE X (.UnaryOp .Not a pos) (uj ta):=⟨Fw ha.out⟩
theorem aI {op:Operator}{r:R2}(ho:OpR X (binaryOp op) r)(ha:QE X a ta)(hb:QE X b tb):QE X (.BinOp a op b pos) (tOp r ta tb):=⟨HK ho ha.out hb.out⟩
theorem dS {op:Tv}{r:R2}(ho:OpR X (compareOp op) r)(ha:QE X a ta)(hb:QE X b tb)(hm:behindInMarks op b=false:=by first|exact mh _|rfl):QE X (.Compare a [op] [b] pos) (tOp r ta tb):=⟨qc ho ha.out hb.out hm⟩
theorem li {op op':Tv}{r r':R2}(ho:OpR X (compareOp op) r)(ho':OpR X (compareOp op') r')(ha:QE X a ta)(hb:QE X b tb)(hc:QE X c tc)(hm:lastMarks [op,op'] [b,c]=false:=by with_unfolding_all rfl):
 QE X (.Compare a [op,op'] [b,c] pos) (fv r r' ta tb tc):=⟨qch ho ho' ha.out hb.out hc.out hm⟩
theorem dU {op}(h:QE X a ta):QE X (.BoolOp op [a] pos) ta:=⟨Dz h.out⟩
theorem cM (ha:QE X a ta)(hb:QE X (.BoolOp .And (b::ci) pos) tb):QE X (.BoolOp .And (a::b::ci) pos) (cy ta tb):=⟨IY ha.out hb.out⟩
theorem Kg (hc:QT X c tA)(ha:QE X a ta)(hb:QE X b tb):QE X (.IfExp c a b pos) (mIf tA ta tb):=⟨JX hc.out ha.out hb.out⟩
theorem aj:QA X [] am:=⟨BW⟩
theorem ae (ha:QE X e te)(hr:QA X es t)(hs:bA e=true:=by rfl):QA X (e::es) (ag te t):=⟨Ae ha.out hr.out hs⟩
theorem dI (h:QA X es t):QE X (.List es pos) (dX t):=⟨EJ h.out⟩
theorem bn {x1}(h:QA X es t):QE X (.Tuple es x1 pos) (bz t):=⟨CQ h.out⟩
theorem aJ {r:R2}(hr:IxR X r)(ha:QE X a ta)(hb:QE X b tb)(hs:sE b):QE X (.Subscript a b pos) (tOp r ta tb):=⟨Gh hr ha.out hb.out hs⟩
theorem lg:QO X none gN:=⟨AH⟩
theorem gP (h:QE X e te):QO X (some e) (ip te):=⟨AD h.out⟩
theorem iZ {r:V→Option Int→Option Int→Hp→VK→Prop}{lo hi:Option Expr}{tl th:TO}{p2:Pos}(hr:SlR X r)(he:QE X e te)(hl:QO X lo tl)(hu:QO X hi th):QE X (.Subscript e (.Slice lo hi none p2) pos) (tSl r te tl th):=⟨zf hr he.out hl.out hu.out⟩
variable {id T:String}{r:List V→Hp→VK→Prop}
theorem aR (hc:bC X (.builtin id) r)(hm:X.mg x=none)(hv:bootBuiltins x=some (.builtin id))(ha:QA X (e::es) t)(hg:Gl X x:=by rfl)(hn:x≠"__name__":=by decide)(hdb:(x==("__debug__":Str))=false:=by decide)
 (hs:aU (e::es)=true:=by rfl):QE X (.Call (.Name x p) (e::es) [] pos) (tCB r t):=⟨As hc hg hm hv ha.out hn hdb hs⟩
theorem eS (hc:bC X (.type T) r)(hm:X.mg x=none)(hv:bootBuiltins x=some (.type T))(ha:QA X (e::es) t)(hg:Gl X x:=by rfl)(hn:x≠"__name__":=by decide)(hdb:(x==("__debug__":Str))=false:=by decide)
 (hs:aU (e::es)=true:=by rfl):QE X (.Call (.Name x p) (e::es) [] pos) (tCB r t):=⟨yB hc hg hm hv ha.out hn hdb hs⟩
variable {CX:CXT}{k:Nat}{f C:Addr}{fd:KP}{ps:List Str}{sp:Sp}{dvs:List V}{ds:List Gt}{E:XK}{m:Str}
variable {name:Str}{rm:V→List V→Hp→VK→Prop}
theorem eF (pa:Rb T)(slot:Slot T name id)(hty:typeOf (.builtin id)=pure (.type "method_descriptor"))(hm:MtR X id rm)(ho:QE X o to)(ha:QA X (e::es) t)
 (hbase:attributeBase o name X.env (eval o X.env)=eval o X.env:=by rfl)(hfew:decide ((e::es).length<30)=true:=by rfl)
 (hline:(apos.endLine==cpos.line)=true:=by rfl)(hs:aU (e::es)=true:=by rfl):QE X (.Call (.Attribute o name apos) (e::es) [] cpos) (tBM X.K T rm to t):=⟨Js pa slot hty hm ho.out ha.out hbase hfew hline hs⟩
theorem aX {op:Tv}{r:R2}(ho:OpR X (compareOp op) r)(ha:QE X a ta)(hb:QE X b tb)(hm:behindInMarks op b=false:=by first|exact mh _|rfl):QT X (.Compare a [op] [b] pos) (be (tOp r ta tb)):=⟨qtc ho ha.out hb.out hm⟩
theorem xR {op op':Tv}{r r':R2}(ho:OpR X (compareOp op) r)(ho':OpR X (compareOp op') r')(ha:QE X a ta)(hb:QE X b tb)(hc:QE X c tc)(hm:lastMarks [op,op'] [b,c]=false:=by with_unfolding_all rfl):
 QT X (.Compare a [op,op'] [b,c] pos) (be (fv r r' ta tb tc)):=⟨JQ ho ho' ha.out hb.out hc.out hm⟩
theorem bW (h:QE X e te)(he:∀whole,isTrue e X.env whole=(do let v←whole;standAt e.pos;holding [v] (truthy v)):=by intro _;rfl):QT X e (de X.K te):=⟨qtb h.out he⟩
theorem cI (ha:QT X a tA):QT X (.UnaryOp .Not a pos) (dE tA):=⟨EU ha.out⟩
theorem x_w (h:QW X e tA):QT X e tA:=⟨h.out.pt⟩
theorem so (ha:QT X a tA):QW X (.BoolOp .And [a] pos) tA:=⟨Ao ha.out⟩
theorem hJ (ha:QT X a tA):QW X (.BoolOp .Or [a] pos) tA:=⟨BC ha.out⟩
theorem vD (ha:QT X a tA)(hb:QW X (.BoolOp .And (b::ci) pos) tB'):QW X (.BoolOp .And (a::b::ci) pos) (uk tA tB'):=⟨Cm ha.out hb.out⟩
theorem iq (ha:QT X a tA)(hb:QW X (.BoolOp .Or (b::ci) pos) tB'):QW X (.BoolOp .Or (a::b::ci) pos) (mOr tA tB'):=⟨Hw ha.out hb.out⟩
variable {tg iter elt:Expr}{wi:TI}{ifs:List Expr}{scope:Scope}{ys:List Str}{is:List Nat}{px py spos:Pos}
theorem rn (hm:X.mg "range"=none)(ha:QA X [a] t)(hg:Gl X "range":=by rfl)(hs:bA a=true:=by rfl):QI X tg (.Call (.Name "range" p) [a] [] pos) (pP t):=⟨vx hg hm ha.out (aP hs [] X.env)⟩
theorem yq (hm:X.mg "range"=none)(ha:QA X [a,b] t)(hg:Gl X "range":=by rfl)(hs:bA a=true:=by rfl)(hs2:bA b=true:=by rfl):QI X tg (.Call (.Name "range" p) [a,b] [] pos) (uI t):=
 ⟨wN hg hm ha.out (by rw[aP hs,aP hs2];rfl) (aP hs2 [] X.env)⟩
theorem ii:xV X [] (fun _ H Q=>Q true H):=⟨rfl⟩
theorem jP {tcn:TT}(S:eZ scope x ys)(hcap:gA X scope ys is)(hi:QI X (.Name x px) iter wi)
 (hif:∀C s H fp,xV (bo X scope C (x::ys) s H fp) ifs tcn)(he:∀C s H fp,QE (bo X scope C (x::ys) s H fp) elt te)(hc:X.calm=true:=by rfl)
 (hs:∀x,foldedSetIterable iter X.env x=pure x:=by intro _;rfl):QE X (.ListComp elt [⟨.Name x px,iter,ifs,0⟩] scope pos) (fh is wi tcn te):=⟨Bt hc S hcap hi.out (fun C s H fp=>(hif C s H fp).out) (fun C s H fp=>(he C s H fp).out) hs⟩
variable {st:Stmt}{sts:List Stmt}{tS uS:TS}{i j:Nat}
theorem aV:QSs X [] bf:=⟨AR⟩
theorem ar (h:QS X st tS):QSs X [st] tS:=⟨Bd h.out⟩
theorem ap (h1:QS X st tS)(h2:QSs X sts uS):QSs X (st::sts) (ax tS uS):=⟨xi h1.out h2.out⟩
theorem aE (h:QE X e te):QS X (.Return (some e) pos) (aN te):=⟨Cg h.out⟩
theorem aZ {l m:List Stmt}(hc:QT X c tA)(ha:QSs X l tS)(hb:QSs X m uS):QS X (.If c l m pos) (bj tA tS uS):=⟨qif hc.out ha.out hb.out⟩
theorem aG (i:Nat)(hN:X.N.Nodup)(he:QE X e te)(hi:X.N[i]?=some x:=by rfl)(hx:Loc X.env.scope x:=by first|exact .inl rfl|exact .inr rfl)
 (hs:swapsWith e (some (.Name x p)) pos.line X.env=pure false:=by rfl)(hf:X.fn x=true∨X.env.scope.names.lookup x=some .local:=by first|exact .inl rfl|exact .inr rfl):QS X (.Assign [.Name x p] e pos) (aC te (aw i)):=⟨CZ hN hi hx he.out hs hf⟩
theorem oN (j:Nat){tcn:TT}(hN:X.N.Nodup)(S:eZ scope x ys)(hcap:gA X scope ys is)(hi:QI X (.Name x px) iter wi)
  (hif:∀C s H fp,xV (bo X scope C (x::ys) s H fp) ifs tcn)(he:∀C s H fp,QE (bo X scope C (x::ys) s H fp) elt te)(hc:X.calm=true:=by rfl)
  (hj:X.N[j]?=some y:=by rfl)(hy:Loc X.env.scope y:=by first|exact .inl rfl|exact .inr rfl)
  (hsw:swapsWith (.ListComp elt [⟨.Name x px,iter,ifs,0⟩] scope pos) (some (.Name y py)) spos.line X.env=pure true:=by rfl)(hf:X.fn y=true∨X.env.scope.names.lookup y=some .local:=by first|exact .inl rfl|exact .inr rfl)
  (hs:∀x,foldedSetIterable iter X.env x=pure x:=by intro _;rfl):QS X (.Assign [.Name y py] (.ListComp elt [⟨.Name x px,iter,ifs,0⟩] scope pos) spos) (aC (fh is wi tcn te) (aw j)):=
 ⟨sY hN hj hy hc S hcap hi.out (fun C s H fp=>(hif C s H fp).out) (fun C s H fp=>(he C s H fp).out) hsw hf hs⟩
theorem dj (h:QE X e te)(hs:swapsWith e none pos.line X.env=pure false:=by rfl):QS X (.Expr e pos) (du te):=⟨Aw h.out hs⟩
theorem jk (i:Nat)(hN:X.N.Nodup){body:List Stmt}(hi:QI X (.Name x px) iter wi)(hb:QSs X body tS)(hp:Tu (model X.prog X.w) X.A X.env X.xe)(hc:X.calm=true:=by rfl)
 (hj:X.N[i]?=some x:=by rfl)(hx:Loc X.env.scope x:=by first|exact .inl rfl|exact .inr rfl)(hf:X.fn x=true∨X.env.scope.names.lookup x=some .local:=by first|exact .inl rfl|exact .inr rfl)
 (hs:∀x,foldedSetIterable iter X.env x=pure x:=by intro _;rfl):QS X (.For (.Name x px) iter body [] pos) (jC wi (aw i) tS):=⟨DD hp hc hi.out (dv hN hj hx hf) hb.out hs⟩
theorem nB {body:List Stmt}(hc:QT X c tA)(hb:QSs X body tS)(hp:Tu (model X.prog X.w) X.A X.env X.xe):QS X (.While c body [] pos) (kf tA tS):=⟨yk hp hc.out hb.out⟩
theorem gO:QS X st gl:=⟨yw⟩
end
end L2
namespace HT
open PySem PyProof.Rows
structure Hd0 (vs:Array Gt)(a0:Gt):Prop where
 a:vs[0]?=some a0
 b:vs[2]?=some .none
structure TrD (h base:Heap)(e:Addr)(cls a0:Gt)(d:Option Addr)(fl:Gt):Prop where
 ex:∃oe vs T oT ts,h.get? e=some oe∧oe.cls=cls∧oe.dict=d∧oe.data=.fields vs∧Hd0 vs a0∧vs[1]?=some (.ref T)∧base.get? T=none∧T≠e∧h.get? T=some oT∧oT.data=.fields ts∧ts[3]?=some fl
structure lM (base:Heap)(l:List Env)(e:Addr)(cls a0:Gt)(d:Option Addr)(fl:Gt)(h h':Heap):Prop where
 st:base.StaysIn h'
 fr:h'.FunFrames base l
 tr:TrD h' base e cls a0 d fl
 up:h.UpToSlots h'
theorem nK (o:Obj)(f:Array Gt→Array Gt):(NR f o).dict=o.dict:=by
 obtain⟨c,d,dt,sl⟩:=o
 cases dt<;>rfl
section
variable {M:UL}{A:Lj}{E:Gt→Ky→Prop}{s:Ky}{base:Heap}{env:Env}{outer:List Env}{L e:Addr}{cls a0:Gt}{d:Option Addr}{Q:Unit→Ky→Prop}
theorem vv {oe:Obj}{vs:Array Gt}{head:Gt}{hadNext:Bool}(hfr:A.frames=some (env::outer))(hl:s.heap.FunFrames base (env::outer))(hf:env.frame=some L)(he:s.heap.get? e=some oe)(hc:oe.cls=cls)(hdc:oe.dict=d)
  (hkb:base.StaysIn s.heap)(hen:base.get? e=none)(hd:oe.data=.fields vs)(hsz:1<vs.size)(h0:Hd0 vs a0)(h:∀h',lM base (env::outer) e cls a0 d (rawInt L) s.heap h'→Q () {s with heap:=h'}):
  wpAny M A (do let a←frameOf env;let pl←entryPlaceOf L hadNext;let b←Rp head a .none (rawInt L) .none pl;setField (.ref e) 1 b) Q E s:=by
 have nfr:e∉(env::outer).filterMap (·.frame):=fun hm=>by
  obtain⟨_,o,ho,hnf⟩:=hl.mem hm
  rw[he]at ho
  cases ho
  exact hnf vs hd
 refine cW (wpAny_frameOf_fun hfr hl hf fun h1 s1=>cW (wpAny_entryPlaceOf fun pl hpl=>?_))
 unfold Rp newFields
 refine cW (LJ ?_ (hpl.sizeOk5 _ _ _ _ _))
 generalize hts:([head,KJ L,.none,rawInt L,.none]++(if pl.isEmpty then Rq 6 Ml else pl)).toArray=ts
 have hts3:ts[3]?=some (rawInt L):=by rw[←hts];first|(simp;done)|(rcases hpl with rfl|⟨_,_,_,_,_,_,_,rfl⟩<;>simp)
 have e1:h1.get? e=some oe:=(s1.2.1 e nfr).trans he
 have kb1:base.StaysIn h1:=fun b o hbo=>(s1.2.1 b fun hm=>by rw[(hl.mem hm).1]at hbo;cases hbo).trans (hkb b o hbo)
 have e2:(h1.push {cls:=.type "traceback",dict:=none,data:=.fields ts}).get? e=some oe:=gV _ e1
 have nT:h1.objs.size≠e:=MN (KF e1)
 refine OU e2 hd hsz (h _ ?_)
 have d3:=MU hd (·.setIfInBounds 1 (KJ h1.objs.size))
 have e3:=Ls (NR (·.setIfInBounds 1 (KJ h1.objs.size))) e2 (Of d3)
 have kp:∀b o,b≠e→h1.get? b=some o→((h1.push {cls:=.type "traceback",dict:=none,data:=.fields ts}).update e (NR (·.setIfInBounds 1 (KJ h1.objs.size)))).get? b=some o:=fun b o nb eb=>
  (LG _ _ (Lg nb)).trans (gV _ eb)
 have T3:=(LG (h1.push {cls:=.type "traceback",dict:=none,data:=.fields ts}) (NR (·.setIfInBounds 1 (KJ h1.objs.size))) (Lg nT)).trans (KG h1 rfl)
 have nr:∀b o,s.heap.get? b=some o→(∀vs,o.data≠.fields vs)→b≠e:=fun b o hb hnf q=>by
  rw[q,he]at hb
  cases hb
  exact hnf vs hd
 refine⟨fun b o hbo=>kp b o (fun q=>by rw[q,hen]at hbo;cases hbo) (kb1 b o hbo),hl.of_keeps fun b o hb hnf=>?_,⟨_,_,h1.objs.size,_,ts,e3,(Qt ..).trans hc,(nK ..).trans hdc,d3,?_,by simp[hsz],kb1.fresh,nT,T3,rfl,hts3⟩,fun b o hb hnf=>?_⟩
 ·obtain⟨sl,hs⟩:=s1.2.2 b o hb
  exact⟨_,kp b _ (nr b o hb hnf) hs,rfl⟩
 ·exact⟨by rw[Qm (by decide)];exact h0.a,by rw[Qm (by decide)];exact h0.b⟩
 ·obtain⟨sl,hs⟩:=s1.2.2 b o hb
  exact⟨sl,kp b _ (nr b o hb hnf) hs⟩
theorem rz {oe:Obj}{vs:Array Gt}(hfr:A.frames=some (env::outer))(hl:s.heap.FunFrames base (env::outer))(hf:env.frame=some L)(he:s.heap.get? e=some oe)(hc:oe.cls=cls)(hdc:oe.dict=d)(hkb:base.StaysIn s.heap)(hen:base.get? e=none)
  (hd:oe.data=.fields vs)(h1:vs[1]?=some .none)(h0:Hd0 vs a0)(h:∀h',lM base (env::outer) e cls a0 d (rawInt L) s.heap h'→Q () {s with heap:=h'}):wpAny M A (noteFrame (.ref e) env) Q E s:=by
 unfold noteFrame
 simp only[hf]
 refine cW (Lp he hd h1 ?_)
 rw[if_neg (by decide)]
 exact vv hfr hl hf he hc hdc hkb hen hd (MQ.mp h1).1 h0 h
theorem setD {fl fl':Gt}{T:Addr}{oT:Obj}{ts:Array Gt}{l:List Env}{oe:Obj}{vs:Array Gt}(hkb:base.StaysIn s.heap)(hl:s.heap.FunFrames base l)(he:s.heap.get? e=some oe)(hc:oe.cls=cls)(hdc:oe.dict=d)(hd:oe.data=.fields vs)(h0:Hd0 vs a0)
  (h1:vs[1]?=some (.ref T))(nT:base.get? T=none)(Te:T≠e)(hT:s.heap.get? T=some oT)(hdT:oT.data=.fields ts)(h3:ts[3]?=some fl)(h:∀h',lM base l e cls a0 d fl' s.heap h'→(h'.get? e=some oe)→Q () {s with heap:=h'}):wpAny M A (setField (.ref T) 3 fl') Q E s:=by
 have sz:=(MQ.mp h3).1
 have ot:∀b,b≠T→(s.heap.update T (NR (·.setIfInBounds 3 fl'))).get? b=s.heap.get? b:=fun b hb=>LG _ _ (Lg hb)
 have nr:∀b o,s.heap.get? b=some o→(∀vs,o.data≠.fields vs)→b≠T:=fun b o hb hnf q=>by
  rw[q,hT]at hb
  cases hb
  exact hnf ts hdT
 refine OU hT hdT sz (h _ ⟨fun b o hbo=>(ot b fun q=>by rw[q,nT]at hbo;cases hbo).trans (hkb b o hbo),hl.of_keeps fun b o hb hnf=>⟨o,(ot b (nr b o hb hnf)).trans hb,rfl⟩,
  ⟨oe,vs,T,_,_,(ot e (Lg Te)).trans he,hc,hdc,hd,h0,h1,nT,Te,Ls _ hT (Of (MU hdT _)),MU hdT _,by simp[sz]⟩,fun b o hb hnf=>⟨o.slots,(ot b (nr b o hb hnf)).trans hb⟩⟩ ((ot e (Lg Te)).trans he))
theorem lj {fl:Gt}{l:List Env}(hkb:base.StaysIn s.heap)(hl:s.heap.FunFrames base l)(ht:TrD s.heap base e cls a0 d fl)(h:∀h',lM base l e cls a0 d .none s.heap h'→Q () {s with heap:=h'}):wpAny M A (setFlight (.ref e) none) Q E s:=by
 obtain⟨oe,vs,T,oT,ts,he,hc,hdc,hd,h0,h1,nT,Te,hT,hdT,h3⟩:=ht.ex
 unfold setFlight
 refine cW (Lp he hd h1 ?_)
 rw[if_pos (show(KJ T !=Ml)=true from by simp)]
 exact setD hkb hl he hc hdc hd h0 h1 nT Te hT hdT h3 fun h' n _=>h h' n
theorem mK (hfr:A.frames=some (env::outer))(hl:s.heap.FunFrames base (env::outer))(hf:env.frame=some L)(ht:TrD s.heap base e cls a0 d .none)(hkb:base.StaysIn s.heap)(hen:base.get? e=none)
  (h:∀h',lM base (env::outer) e cls a0 d (rawInt L) s.heap h'→Q () {s with heap:=h'}):wpAny M A (noteFrame (.ref e) env) Q E s:=by
 obtain⟨oe,vs,T,oT,ts,he,hc,hdc,hd,h0,h1,nT,Te,hT,hdT,h3⟩:=ht.ex
 unfold noteFrame
 simp only[hf]
 refine cW (Lp he hd h1 ?_)
 rw[if_pos (show(KJ T !=Ml)=true from by simp)]
 refine cW (Lp hT hdT h3 ?_)
 rw[if_neg (show ¬((Ml==rawInt L)=true)from by simp[rawInt])]
 refine cW (setD (fl':=.none) hkb hl he hc hdc hd h0 h1 nT Te hT hdT h3 fun h' n he'=>?_)
 exact vv (s:={s with heap:=h'}) hfr n.fr hf he' hc hdc n.st hen hd (MQ.mp h1).1 h0 fun h2 n2=>h h2 ⟨n2.st,n2.fr,n2.tr,n.up.trans n2.up⟩
theorem qA {oe:Obj}{vs:Array Gt}(hfr:A.frames=some (env::outer))(hl:s.heap.FunFrames base (env::outer))(hf:env.frame=some L)(he:s.heap.get? e=some oe)(hc:oe.cls=cls)(hdc:oe.dict=d)(hkb:base.StaysIn s.heap)(hen:base.get? e=none)
  (hd:oe.data=.fields vs)(h1:vs[1]?=some .none)(h0:Hd0 vs a0)(h:∀h',lM base outer e cls a0 d .none s.heap h'→Q () {s with heap:=h'}):wpAny M A (leaving env (.ref e)) Q E s:=by
 unfold leaving
 refine cW (rz hfr hl hf he hc hdc hkb hen hd h1 h0 fun h' n=>?_)
 obtain⟨n1,⟨_,_,n2⟩,n3,n4⟩:=n
 exact lj (s:={s with heap:=h'}) n1 n2 n3 fun h2 m=>h h2 ⟨m.st,m.fr,m.tr,n4.trans m.up⟩
theorem rC (hfr:A.frames=some (env::outer))(hl:s.heap.FunFrames base (env::outer))(hf:env.frame=some L)(ht:TrD s.heap base e cls a0 d .none)(hkb:base.StaysIn s.heap)(hen:base.get? e=none)
  (h:∀h',lM base outer e cls a0 d .none s.heap h'→Q () {s with heap:=h'}):wpAny M A (leaving env (.ref e)) Q E s:=by
 unfold leaving
 refine cW (mK hfr hl hf ht hkb hen fun h' n=>?_)
 obtain⟨n1,⟨_,_,n2⟩,n3,n4⟩:=n
 exact lj (s:={s with heap:=h'}) n1 n2 n3 fun h2 m=>h h2 ⟨m.st,m.fr,m.tr,n4.trans m.up⟩
end
end HT
namespace L2
open PySem PySem.Spec PyProof.Rows
abbrev veM:List Gt:=[.type "ValueError",.type "Exception",.type "BaseException",.type "object"]
def gD (K:tx)(C D:Addr):Option Bool:=match K.lookup C with
 |some ⟨_,_,.cls cd,_⟩=>some (cd.mro.contains (.ref D))
 |_=>none
def mI (K:tx)(C:Addr):Bool:=match K.lookup C with
 |some ⟨.type "type",_,.cls cd,sl⟩=>(match cd.mro,sl.toList with
  |.ref C'::bm,[_,_,_,_,some (.builtin n),_]=>C'==C&&n=="ValueError.__new__"&& !cd.hasDel&&W.tailIn K veM bm&&W.nsOkIn K cd.ns
  |_,_=>false)
 |_=>false
def cL (K:tx)(C:Addr):Prop:=mI K C=true
def dZ (K:tx)(C:Addr):Prop:=Sk K C veM "ValueError.__new__"=true
theorem dZ.ok {K:tx}{C:Addr}(q:dZ K C):cL K C:=by
 unfold dZ Sk at q
 unfold cL mI
 split at q
 ·rename_i dd cd sl ho
  split at q
  ·rename_i C' bm k0 k1 k2 k3 n k5 hm hs
   rw[ho]
   simp only[hm,hs]
   simp only[Lq]at q⊢
   exact q.1
  ·cases q
 ·cases q
theorem gT {K:tx}{h:Heap}{C:Addr}(X:K.In h)(q:cL K C):
  ∃bm N nm qn bs hdct sn sub ab col dd k0 k1 k2 k3 k5 mN,h.get? C=some (excClassObj nm qn C N bs bm hdct sn sub ab col dd k0 k1 k2 k3 k5 "ValueError.__new__")∧h.Ns N mN∧(dZ K C→mN "__init__"=none)∧OwnTail h veM bm∧
   ∀D,gD K C D=some ((KJ C::bm).contains (.ref D)):=by
 have q2:=q
 unfold cL mI at q
 split at q
 ·rename_i dd cd sl ho
  split at q
  ·rename_i C' bm k0 k1 k2 k3 n k5 hm hs
   simp only[Lq,beq_iff_eq,Bool.not_eq_true']at q
   obtain⟨⟨⟨⟨rfl,rfl⟩,hdel⟩,ht⟩,hok⟩:=q
   obtain⟨nm,bs,mro,ns,qn,hd,sn,sub,ab,col,del⟩:=cd
   dsimp only at hm hdel hok
   subst hm hdel
   have hsl:sl=#[k0,k1,k2,k3,some (.builtin "ValueError.__new__"),k5]:=by
    obtain⟨l⟩:=sl
    simp only at hs
    rw[hs]
   subst hsl
   refine⟨bm,ns,nm,qn,bs,hd,sn,sub,ab,col,dd,k0,k1,k2,k3,k5,_,X _ _ ho,.of_isNs (W.isNs_of_in X hok),fun r=>?_,W.tail_of_in X ht,fun D=>?_⟩
   ·unfold dZ Sk at r
    rw[ho]at r
    simp only[Lq,beq_iff_eq]at r
    exact W.nsMap_none_of_in X hok r.2
   ·unfold gD
    rw[ho]
  ·cases q
 ·cases q
theorem nq {M:UL}{A:Lj}{E:Gt→Ky→Prop}{s:Ky}{K:tx}{C D e:Addr}{oe:Obj}{Q:Bool→Ky→Prop}{b:Bool}(X:K.In s.heap)(hC:cL K C)(hD:cL K D)(he:s.heap.get? e=some oe)(hcls:oe.cls=.ref C)
  (hs:gD K C D=some b)(hq:Q b s):wpAny M A (excMatches (.ref e) (.ref D)) Q E s:=by
 obtain⟨bm,N,nm,qn,bs,hdct,sn,sub,ab,col,dd,k0,k1,k2,k3,k5,mN,oC,_,_,_,hsub⟩:=gT X hC
 obtain⟨bm',N',nm',qn',bs',hdct',sn',sub',ab',col',dd',k0',k1',k2',k3',k5',mN',oD,_,_,T',_⟩:=gT X hD
 have hb:(KJ C::bm).contains (.ref D)=b:=KL ((hsub D).symm.trans hs)
 have hbase:(KJ D::bm').contains (.type "BaseException")=true:=by
  rw[Qi,T'.hasType (X:="BaseException") (b:=true) (by decide+kernel),Qx]
 have f:=tc_notTuple
 obtain⟨hp,g,d,t,os⟩:=s
 unfold excMatches
 repeat (first|(with_reducible refine Nn he ?_;rw[hcls])|with_reducible refine Nn oD ?_ |(with_reducible refine Nr oC ?_;rw[hb])|(with_reducible refine Nr oD ?_;rw[hbase])|wp_step)
 all_goals first|exact hq|(cases b<;>first|exact hq|(repeat (first|exact hq|wp_step)))
structure Fly (P:KS)(w:LI)(l:List Env)(H:Hp)(s:Ky)(cls fl:Gt)(a:Addr)(d:Option Addr)(H':Hp)(s':Ky):Prop where
 os:s'.os=s.os
 bare:Py s'.gens
 un:Un (frs l) [] H H' s.heap s'.heap
 hok:HOk P w H' s'.heap
 new:s.heap.get? a=none
 free:H' a=none
 tr:∃oe vs a0 T oT ts,s'.heap.get? a=some oe∧oe.cls=cls∧oe.dict=d∧oe.data=.fields vs∧HT.Hd0 vs a0∧vs[1]?=some (.ref T)∧T≠a∧s'.heap.get? T=some oT∧oT.data=.fields ts∧ts[3]?=some fl∧s.heap.get? T=none∧H' T=none
def CX1 (P:KS)(w:LI):CXT:=fun outer H s E e s'=>∃a C d H',e=.ref a∧Fly P w outer H s (.ref C) .none a d H' s'∧E (.ref C) d H'
theorem jG {P:KS}{w:LI}{H:Hp}{h:Heap}{a:Addr}{o:HO}(x:aT P w H h a o):∃u,h.get? a=some u:=by
 cases o with
 |lst xs=>obtain⟨_,_,_,_,e⟩:=x;exact⟨_,e⟩
 |tup xs=>obtain⟨_,_,_,p⟩:=x;obtain⟨o,e,_⟩:=p;exact⟨_,e⟩
 |dK kvs=>obtain⟨_,_,_,_,o,_,_,e,_⟩:=x;exact⟨_,e⟩
 |dT kvs=>obtain⟨_,_,_,_,o,_,_,e,_⟩:=x;exact⟨_,e⟩
 |set S n=>obtain⟨o,_,_,_,e,_⟩:=x;exact⟨_,e⟩
 |ins C dx fs=>obtain⟨_,_,_,e,_⟩:=x;exact⟨_,e⟩
 |own y=>exact x
 |xd fs=>obtain⟨_,⟨_,_,_,e,_⟩,_⟩:=x;exact⟨_,e⟩
 |rng lo hi=>obtain⟨_,_,_,e⟩:=x;exact⟨_,e⟩
 |frz ob u=>obtain⟨e,_⟩:=x;exact⟨_,e⟩
 |tbl ps=>exact⟨_,(show h.get? a=some _ from x)⟩
 |met f y=>exact⟨_,(show h.get? a=some _ from x)⟩
 |ext φ=>obtain⟨_,e,_⟩:=x;exact e
section
variable {P:KS}{w:LI}{l:List Env}{H H':Hp}{s s':Ky}{cls fl fl':Gt}{a:Addr}{d:Option Addr}{base:Heap}
def fK (h:Heap)(l:List Env)(a T:Addr):Heap:=W.hideAll h (a::T::frs l)
theorem Fly.frames (F:Fly P w l H s cls fl a d H' s')(ff:s.heap.FunFrames base l)(frf:∀b∈frs l,H b=none):s'.heap.FunFrames base l:=by
 have all:∀(k:List Env),(∀b∈frs k,b∈frs l)→s.heap.FunFrames base k→s'.heap.FunFrames base k:=by
  intro k
  induction k with
  |nil=>intro _ _;trivial
  |cons env r ih=>
   intro hs hl
   obtain⟨hk,⟨L,o,hf,hn,ho,hd⟩,hr⟩:=hl
   have hL:L∈frs l:=hs L (by unfold frs;rw[Ma,hf];exact Lv)
   obtain⟨sl,e⟩:=F.un.slot L o ho (frf L hL) hL (by simp)
   exact⟨hk,⟨L,_,hf,hn,e,hd⟩,ih (fun b hb=>hs b (by unfold frs;rw[Ma,hf];exact KQ _ hb)) hr⟩
 exact all l (fun _ hb=>hb) ff
theorem jW {h B B':Heap}:∀{k:List Env},h.FunFrames B k→(∀b∈frs k,B'.get? b=none)→h.FunFrames B' k
 |[],_,_=>trivial
 |env::r,⟨hk,⟨L,o,hf,hn,ho,hd⟩,hr⟩,hb=>⟨hk,⟨L,o,hf,hb L (by unfold frs;rw[Ma,hf];exact Lv),ho,hd⟩,jW hr fun b h=>hb b (by unfold frs;rw[Ma,hf];exact KQ _ h)⟩
theorem Fly.moved (F:Fly P w l H s cls fl a d H' s')(ff:s.heap.FunFrames base l)(frf:∀b∈frs l,H b=none)(ffs:∀b∈frs l,H' b=none){T:Addr}{oT:Obj}(hT0:s.heap.get? T=none)(hT1:H' T=none){h':Heap}{a0:Gt}
  (st:(fK s'.heap l a T).StaysIn h')(up:s'.heap.UpToSlots h')(tr:HT.TrD h' (fK s'.heap l a T) a cls a0 d fl'):Fly P w l H s cls fl' a d H' {s' with heap:=h'}:=by
 have kp:∀b o,s'.heap.get? b=some o→b≠a→b≠T→b∉frs l→h'.get? b=some o:=fun b o e h1 h2 h3=>st b o (Pf _ e (by simp[h1,h2,h3]))
 have ff':=F.frames ff frf
 have nf:∀b∈frs l,∀o,s'.heap.get? b=some o→∀vs,o.data≠.fields vs:=fun b hb o e vs z=>by
  obtain⟨_,o',ho,hd⟩:=ff'.mem hb
  rw[e]at ho;cases ho
  exact hd vs z
 have old:∀b o,s.heap.get? b=some o→b≠a∧b≠T:=fun b o e=>⟨fun z=>(by rw[z,F.new]at e;cases e),fun z=>(by rw[z,hT0]at e;cases e)⟩
 refine⟨F.os,F.bare,⟨fun b o e n hb hx=>?_,fun b o e n hb hx=>?_,F.un.free,fun b o e hx=>?_,F.un.tups,F.un.frzs,F.un.tbls⟩,fun b o e=>?_,F.new,F.free,?_⟩
 ·exact kp b o (F.un.keep b o e n hb hx) (old b o e).1 (old b o e).2 hb
 ·obtain⟨sl,e1⟩:=F.un.slot b o e n hb hx
  obtain⟨sl',e2⟩:=up b _ e1 (nf b hb _ e1)
  exact⟨sl',e2⟩
 ·obtain⟨o',e1⟩:=F.un.there b o e hx
  by_cases hb:b∈frs l
  ·obtain⟨sl',e2⟩:=up b _ e1 (nf b hb _ e1)
   exact⟨_,e2⟩
  ·exact⟨o',kp b o' e1 (old b o e).1 (old b o e).2 hb⟩
 ·refine(F.hok b o e).stay (fun c u hc q=>kp c u q ?_ ?_ ?_) (fun _ q=>q) fun _ _ q=>q
  ·rintro rfl
   rcases hc with r|r
   ·rw[←r,F.free]at e;cases e
   ·rw[F.free]at r;cases r
  ·rintro rfl
   rcases hc with r|r
   ·rw[←r,hT1]at e;cases e
   ·rw[hT1]at r;cases r
  ·intro hm
   rcases hc with r|r
   ·rw[←r,ffs _ hm]at e;cases e
   ·rw[ffs _ hm]at r;cases r
 ·obtain⟨oe,vs,T',oT',ts,he,hc,hdc,hd,h0,h1,hn,hne,hT',hdT,h3⟩:=tr.ex
  have key:s'.heap.get? T'=none∨T'=T:=by
   cases q:s'.heap.get? T' with
   |none=>exact .inl rfl
   |some o=>
    refine .inr (Ov fun hz=>?_)
    by_cases hf:T'∈frs l
    ·obtain⟨sl',e2⟩:=up T' o q (nf T' hf o q)
     rw[hT']at e2;cases e2
     exact nf T' hf o q ts hdT
    ·have:(fK s'.heap l a T).get? T'=some o:=Pf _ q (by simp[hz,hne,hf])
     rw[hn]at this;cases this
  refine⟨oe,vs,a0,T',oT',ts,he,hc,hdc,hd,h0,h1,hne,hT',hdT,h3,?_,?_⟩
  ·rcases key with z|z
   ·cases q:s.heap.get? T' with
    |none=>rfl
    |some o=>
     obtain⟨o',e⟩:=F.un.there T' o q (by simp)
     rw[z]at e;cases e
   ·rw[z];exact hT0
  ·rcases key with z|z
   ·cases q:H' T' with
    |none=>rfl
    |some o=>
     obtain⟨o1,e1⟩:=jG (F.hok T' o q)
     rw[z]at e1;cases e1
   ·rw[z];exact hT1
end
section
variable {X:Cx}{pins:List (Addr×Obj)}{σ:St}{H H':Hp}{s s':Ky}{cls fl:Gt}{a:Addr}{d:Option Addr}
theorem Fly.inv (I:Inv X pins σ H s)(F:Fly X.prog X.w X.stack H s cls fl a d H' s'):Inv X pins σ H' s':=I.call' (ch:=[]) F.os F.un F.hok F.bare fun b z=>absurd z (by simp)
theorem Fly.up (I:Inv X pins σ H s)(hex:X.ex=[])(F:Fly X.prog X.w X.stack H s cls fl a d H' s'):Fly X.prog X.w X.outer X.H₀ X.s₀ cls fl a d H' s':=by
 have I2:=F.inv I
 have back:∀b,s.heap.get? b=none→X.s₀.heap.get? b=none:=fun b e=>by
  cases q:X.s₀.heap.get? b with
  |none=>rfl
  |some o=>
   obtain⟨o',e'⟩:=I.base.there b o q (by rw[hex];simp)
   rw[e]at e';cases e'
 obtain⟨oe,vs,a0,T,oT,ts,h1,h2,hd,h3,h4,h5,h6,h7,h8,h9,h10,h11⟩:=F.tr
 have b:=I2.base
 rw[hex]at b
 exact⟨I2.os,I2.bare,b,I2.hok,back a F.new,F.free,oe,vs,a0,T,oT,ts,h1,h2,hd,h3,h4,h5,h6,h7,h8,h9,back T h10,h11⟩
theorem Fly.flying (I:Inv X pins σ H s)(F:Fly X.prog X.w X.stack H s cls .none a d H' s'):∃T a0,s.heap.get? T=none∧H' T=none∧(fK s'.heap X.stack a T).StaysIn s'.heap∧(fK s'.heap X.stack a T).get? a=none∧s'.heap.FunFrames (fK s'.heap X.stack a T) X.stack∧
  HT.TrD s'.heap (fK s'.heap X.stack a T) a cls a0 d .none:=by
 obtain⟨oe,vs,a0,T,oT,ts,h1,h2,hd,h3,h4,h5,h6,h7,h8,h9,h10,h11⟩:=F.tr
 exact⟨T,a0,h10,h11,fun b o e=>SM _ e,Oi _ (by simp),jW (F.frames I.stack I.stkFree) fun b hb=>Oi _ (by simp[hb]),⟨oe,vs,T,oT,ts,h1,h2,hd,h3,h4,h5,Oi _ (by simp),h6,h7,h8,h9⟩⟩
end
structure uo (P:KS)(w:LI)(l:List Env)(H:Hp)(s:Ky)(cls:Gt)(a:Addr)(d:Option Addr)(H':Hp)(s':Ky):Prop where
 os:s'.os=s.os
 bare:Py s'.gens
 un:Un (frs l) [] H H' s.heap s'.heap
 hok:HOk P w H' s'.heap
 new:s.heap.get? a=none
 free:H' a=none
 tr:∃oe vs a0,s'.heap.get? a=some oe∧oe.cls=cls∧oe.dict=d∧oe.data=.fields vs∧HT.Hd0 vs a0∧vs[1]?=some .none
section
variable {P:KS}{w:LI}{l:List Env}{H H':Hp}{s s':Ky}{cls fl':Gt}{a:Addr}{d:Option Addr}{base:Heap}
theorem nU (un:Un (frs l) [] H H' s.heap s'.heap)(ff:s.heap.FunFrames base l)(frf:∀b∈frs l,H b=none):s'.heap.FunFrames base l:=by
 have all:∀(k:List Env),(∀b∈frs k,b∈frs l)→s.heap.FunFrames base k→s'.heap.FunFrames base k:=by
  intro k
  induction k with
  |nil=>intro _ _;trivial
  |cons env r ih=>
   intro hs hl
   obtain⟨hk,⟨L,o,hf,hn,ho,hd⟩,hr⟩:=hl
   have hL:L∈frs l:=hs L (by unfold frs;rw[Ma,hf];exact Lv)
   obtain⟨sl,e⟩:=un.slot L o ho (frf L hL) hL (by simp)
   exact⟨hk,⟨L,_,hf,hn,e,hd⟩,ih (fun b hb=>hs b (by unfold frs;rw[Ma,hf];exact KQ _ hb)) hr⟩
 exact all l (fun _ hb=>hb) ff
theorem uo.moved (F:uo P w l H s cls a d H' s')(ff:s.heap.FunFrames base l)(frf:∀b∈frs l,H b=none)(ffs:∀b∈frs l,H' b=none){h':Heap}{a0:Gt}
  (st:(fK s'.heap l a a).StaysIn h')(up:s'.heap.UpToSlots h')(tr:HT.TrD h' (fK s'.heap l a a) a cls a0 d fl'):Fly P w l H s cls fl' a d H' {s' with heap:=h'}:=by
 have kp:∀b o,s'.heap.get? b=some o→b≠a→b∉frs l→h'.get? b=some o:=fun b o e h1 h3=>st b o (Pf _ e (by simp[h1,h3]))
 have ff':=nU F.un ff frf
 have nf:∀b∈frs l,∀o,s'.heap.get? b=some o→∀vs,o.data≠.fields vs:=fun b hb o e vs z=>by
  obtain⟨_,o',ho,hd⟩:=ff'.mem hb
  rw[e]at ho;cases ho
  exact hd vs z
 have old:∀b o,s.heap.get? b=some o→b≠a:=fun b o e z=>by rw[z,F.new]at e;cases e
 refine⟨F.os,F.bare,⟨fun b o e n hb hx=>?_,fun b o e n hb hx=>?_,F.un.free,fun b o e hx=>?_,F.un.tups,F.un.frzs,F.un.tbls⟩,fun b o e=>?_,F.new,F.free,?_⟩
 ·exact kp b o (F.un.keep b o e n hb hx) (old b o e) hb
 ·obtain⟨sl,e1⟩:=F.un.slot b o e n hb hx
  obtain⟨sl',e2⟩:=up b _ e1 (nf b hb _ e1)
  exact⟨sl',e2⟩
 ·obtain⟨o',e1⟩:=F.un.there b o e hx
  by_cases hb:b∈frs l
  ·obtain⟨sl',e2⟩:=up b _ e1 (nf b hb _ e1)
   exact⟨_,e2⟩
  ·exact⟨o',kp b o' e1 (old b o e) hb⟩
 ·refine(F.hok b o e).stay (fun c u hc q=>kp c u q ?_ ?_) (fun _ q=>q) fun _ _ q=>q
  ·rintro rfl
   rcases hc with r|r
   ·rw[←r,F.free]at e;cases e
   ·rw[F.free]at r;cases r
  ·intro hm
   rcases hc with r|r
   ·rw[←r,ffs _ hm]at e;cases e
   ·rw[ffs _ hm]at r;cases r
 ·obtain⟨oe,vs,T',oT',ts,he,hc,hdc,hd,h0,h1,hn,hne,hT',hdT,h3⟩:=tr.ex
  have key:s'.heap.get? T'=none:=by
   cases q:s'.heap.get? T' with
   |none=>rfl
   |some o=>
    by_cases hf:T'∈frs l
    ·obtain⟨sl',e2⟩:=up T' o q (nf T' hf o q)
     rw[hT']at e2;cases e2
     exact(nf T' hf o q ts hdT).elim
    ·have:(fK s'.heap l a a).get? T'=some o:=Pf _ q (by simp[hne,hf])
     rw[hn]at this;cases this
  refine⟨oe,vs,a0,T',oT',ts,he,hc,hdc,hd,h0,h1,hne,hT',hdT,h3,?_,?_⟩
  ·cases q:s.heap.get? T' with
   |none=>rfl
   |some o=>
    obtain⟨o',e⟩:=F.un.there T' o q (by simp)
    rw[key]at e;cases e
  ·cases q:H' T' with
   |none=>rfl
   |some o=>
    obtain⟨o1,e1⟩:=jG (F.hok T' o q)
    rw[key]at e1;cases e1
end
def dR (CX:CXT)(X:Cx)(E:St→XK):Prop:=∀(pins:List (Addr×Obj))(σ:St)(H:Hp)(s:Ky)(e:Gt)(s':Ky),Inv X pins σ H s→CX X.stack H s (E σ) e s'→X.xe e s'
def qr (X:Cx)(E:St→XK):Prop:=∀(pins:List (Addr×Obj))(σ:St)(H:Hp)(s:Ky)(C a:Addr)(d:Option Addr)(H2:Hp)(s2:Ky),Inv X pins σ H s→uo X.prog X.w X.stack H s (.ref C) a d H2 s2→E σ (.ref C) d H2→X.xe (.ref a) s2
theorem bu {P:KS}{w:LI}{X:Cx}:dR (CX1 P w) X (fun _=>E0):=fun pins σ H s e s' I ⟨_,_,_,_,_,_,h⟩=>h.elim
section
variable {P:KS}{w:LI}{K:tx}{mg:Str→Option Gt}{base:Heap}{N:List Str}{qual:Str}{scope:Scope}{f:Addr}{cd:Gt}{A:Lj}{outer:List Env}{s:Ky}{H:Hp}{E:XK}
theorem qN:dR (CX1 P w) (cw (CX1 P w) P w K mg base N qual scope f cd A outer s H E) (fun _=>E):=by
 intro pins σ H1 s1 e s' I hx
 obtain⟨a,C,d,H',rfl,F,hE⟩:=hx
 obtain⟨T,a0,hT0,hT1,f1,f2,f3,f4⟩:=F.flying I
 refine HT.rC (I.ok.frames) f3 rfl f4 f1 f2 fun h' n=>?_
 have F2:=F.moved (oT:={cls:=.none,data:=.dict #[]}) I.stack I.stkFree (F.inv I).stkFree hT0 hT1 n.st n.up n.tr
 exact⟨a,C,d,H',rfl,F2.up I rfl,hE⟩
theorem kz:qr (cw (CX1 P w) P w K mg base N qual scope f cd A outer s H E) (fun _=>E):=by
 intro pins σ H1 s1 C a d H2 s2 I F hE
 have I2:Inv (cw (CX1 P w) P w K mg base N qual scope f cd A outer s H E) pins σ H2 s2:=I.call' (ch:=[]) F.os F.un F.hok F.bare fun b z=>absurd z (by simp)
 obtain⟨oe,vs,a0,he,hc,hdc,hd,h0,h1⟩:=F.tr
 refine HT.qA I.ok.frames (jW (B':=fK s2.heap (cw (CX1 P w) P w K mg base N qual scope f cd A outer s H E).stack a a) (nU F.un I.stack I.stkFree) fun b hb=>Oi _ (KQ _ (KQ _ hb))) rfl he hc hdc (fun b o e=>SM _ e) (Oi _ (by simp)) hd h1 h0 fun h' n=>?_
 have F2:=F.moved I.stack I.stkFree I2.stkFree n.st n.up n.tr
 exact⟨a,C,d,H2,rfl,F2.up I rfl,hE⟩
theorem Io {X:Cx}{pins:List (Addr×Obj)}{σ:St}{H:Hp}{s:Ky}{C a:Addr}{h1:Heap}(I:Inv X pins σ H s)(hm:Heap.MadeExcOf s.heap h1 a (.ref C) []):uo X.prog X.w X.stack H s (.ref C) a none H {s with heap:=h1}:=by
 obtain⟨t,ht,_,_⟩:=hm.there
 refine⟨rfl,I.bare,Un.kept hm.keeps,I.hok.kept hm.keeps,hm.new,?_,⟨_,_,.ref t,ht,rfl,rfl,rfl,⟨rfl,rfl⟩,rfl⟩⟩
 cases q:H a with
 |none=>rfl
 |some o=>
  obtain⟨u,e'⟩:=jG (I.hok a o q)
  rw[hm.new]at e';cases e'
end
def az (sp:Sp)(E:St→XK)(t:TA):TE:=fun σ H Q=>t σ H fun vs H1=>sp vs H1 Q (E σ)
section
variable {X:Cx}{CX:CXT}{k:Nat}{f:Addr}{fd:KP}{ps:List Str}{sp:Sp}{E:St→XK}{x:Str}{p pos:Pos}{e:Expr}{es:List Expr}{t:TA}
theorem kR {pins:List (Addr×Obj)}{σ:St}{H:Hp}{s:Ky}{Q:VK}{us:List Gt}{vs:List V}(F:aL X.prog X.w X.K X.mg X.base CX k f fd ps sp)(hr:bc k X.A)(hb:br X.K fd ps [])(hx:dR CX X E)
  (I:Inv X pins σ H s)(r:aO vs us)(h:sp vs H Q (E σ)):wpAny (model X.prog X.w) X.A (call (.ref f) us) (EP X pins σ Q) X.xe s:=by
 have hl:us.length=ps.length:=by rw[←r.length];exact F.len _ _ _ _ h
 have hb':=hb s us I.kIn (by rw[LW];exact hl)
 rw[LW]at hb'
 refine Pc (MG (F.run X.A X.stack s H ⟨us,[]⟩ us vs Q (E σ) hr I.env0 hb' r h) fun r s' hq=>?_)
 cases r with
 |error e=>exact hx pins σ H s e s' I hq
 |ok fl=>
  cases fl with
  |ret u=>exact I.after hq
  |next=>exact Ll hq
  |brk=>exact Ll hq
  |cont=>exact Ll hq
theorem lm (F:aL X.prog X.w X.K X.mg X.base CX k f fd ps sp)(hr:bc k X.A)(hm:X.mg x=some (.ref f))(hk:Oh X.K (.ref f)=true)(hb:br X.K fd ps [])(hx:dR CX X E)
  (ha:QA X (e::es) t)(hg:Gl X x:=by rfl)(hdb:(x==("__debug__":Str))=false:=by decide)(hs:aU (e::es)=true:=by rfl):QE X (.Call (.Name x p) (e::es) [] pos) (az sp E t):=by
 refine⟨fun pins s σ H Q I h=>?_⟩
 have h':(bA e&&aU es)=true:=hs
 refine LF (eY I hg hm ?_ hdb)
 refine PD (h₀:=X.base) I.ok.mod.kin hk (thn (ha.out pos pins s σ H _ I h) fun us s1 ⟨vs,H1,I1,r,q⟩=>⟨I1.kIn,?_⟩) (aP (KD.mp h').1 es X.env) (bv (KD.mp h').2)
 exact kR F hr hb hx I1 r q
theorem qx (F:aL X.prog X.w X.K X.mg X.base CX k f fd ps sp)(hr:bc k X.A)(hm:X.mg x=some (.ref f))(hk:Oh X.K (.ref f)=true)(hb:br X.K fd ps [])(hx:dR CX X E)
  (hg:Gl X x:=by rfl)(hdb:(x==("__debug__":Str))=false:=by decide):QE X (.Call (.Name x p) [] [] pos) (az sp E am):=by
 refine⟨fun pins s σ H Q I h=>?_⟩
 refine LF (eY I hg hm ?_ hdb)
 exact Sl I.kIn hk (kR (us:=[]) F hr hb hx I .nil h)
def qq (C:Addr)(E:St→XK):TS:=fun _ σ H=>E σ (.ref C) none H
theorem sJ {C:Addr}{np cpos:Pos}(hC:dZ X.K C)(hm:X.mg x=some (.ref C))(hR:qr X E)(hc:X.calm=true:=by rfl)(hg:Gl X x:=by rfl)(hdb:(x==("__debug__":Str))=false:=by decide):
  QS X (.Raise (some (.Call (.Name x np) [] [] cpos)) none pos) (qq C E):=by
 refine⟨fun pins s σ H D I h=>?_⟩
 obtain⟨bm,N,nm,qn,bs,hdct,sn,sub,ab,col,dd,k0,k1,k2,k3,k5,mN,oC,hN,hni,T,_⟩:=gT I.kIn hC.ok
 refine wpAny_Raise_call_subU (C:=C) (nm:=nm) (q:=qn) (N:=N) (bs:=bs) (bm:=bm) (hdct:=hdct) (sn:=sn) (sub:=sub) (ab:=ab) (col:=col) (dd:=dd) (k0:=k0) (k1:=k1) (k2:=k2) (k3:=k3) (k5:=k5)
  Ow (by decide+kernel) Ow (mN:=mN) (T.hasType Ow.hasBase) (I.ok.hd hc) rfl (hni hC) (eY I hg hm ⟨rfl,?_⟩ hdb)
 exact evalArgs_empty ⟨rfl,Ly _,oC,hN,T,fun h' e hm'=>hR pins σ H s C e none H _ I (Io I hm') h⟩
end
theorem Fun.okX {P:KS}{w:LI}{K:tx}{mg:Str→Option Gt}{base:Heap}{x qual:Str}{st:Stmt}{f:Addr}{fd:KP}{N ps:List Str}{k:Nat}{sp:Sp}(F:Fun K x qual st f fd)(S:aA N ps (ak st))(len:∀vs H Q E,sp vs H Q E→vs.length=ps.length)
  (hbody:∀(cdv:Gt)(A:Lj)(outer:List Env)(s:Ky)(H:Hp)(vs:List V)(Q:VK)(E:XK),bc k (A.deeper (envOfC qual (ak st) s.heap.objs.size f cdv))→sp vs H Q E→
   ∃t,PSs (cw (CX1 P w) P w K mg base N qual (ak st) f cdv A outer s H E) (aM st) t∧t {nx:=fun _ H'=>Q .non H',rt:=Q} (start N vs) H):aL P w K mg base (CX1 P w) (k+1) f fd ps sp:=by
 obtain⟨oc,od,kV,doc,pm,an,cdv,ct,osl,rfl,lk,hcd⟩:=F.ex
 exact zB lk hcd S len fun A outer s H vs Q E hr hsp=>hbody cdv A outer s H vs Q E hr hsp
def cxH (X:Cx)(a:Addr):Cx:={X with A:=X.A.mark (some (.ref a)),calm:=false,xe:=fun _ _=>False}
section
variable {X:Cx}{pins:List (Addr×Obj)}{σ:St}{H:Hp}{s:Ky}{a:Addr}
theorem Cx.Ok.toH (ok:X.Ok):(cxH X a).Ok:=⟨ok.mod,ok.kind,ok.glob,ok.blt,ok.above,ok.inj,ok.has,ok.cab,fun h=>absurd (show false=true from h) KN,ok.frames,ok.stk,ok.exf,ok.bs,ok.bsz,ok.noex,ok.exfs,ok.funs,ok.frf⟩
theorem Inv.toH (I:Inv X pins σ H s):Inv (cxH X a) pins σ H s:=⟨I.ok.toH,I.os,I.bare,I.base,I.loc,I.cell,I.free,I.freeC,I.pin,I.hok,I.len⟩
theorem Inv.ofH (ok:X.Ok)(I:Inv (cxH X a) pins σ H s):Inv X pins σ H s:=⟨ok,I.os,I.bare,I.base,I.loc,I.cell,I.free,I.freeC,I.pin,I.hok,I.len⟩
theorem SP.ofH {D:gn}{f:Flow}(ok:X.Ok)(h:SP (cxH X a) pins D f s):SP X pins D f s:=by
 cases f with
 |next=>obtain⟨σ',H',J,q⟩:=h;exact⟨σ',H',J.ofH ok,q⟩
 |brk=>obtain⟨σ',H',J,q⟩:=h;exact⟨σ',H',J.ofH ok,q⟩
 |cont=>obtain⟨σ',H',J,q⟩:=h;exact⟨σ',H',J.ofH ok,q⟩
 |ret u=>obtain⟨v,σ',H',J,r,q⟩:=h;exact⟨v,σ',H',J.ofH ok,r,q⟩
end
abbrev TH:=gn→St→Addr→Option Addr→Hp→Prop
def PH (X:Cx)(hs:List Px)(t:TH):Prop:=∀(pins:List (Addr×Obj))(s0:Ky)(σ:St)(H1 H':Hp)(C a:Addr)(d:Option Addr)(s3:Ky)(D:gn),X.stack=X.env::X.outer→X.env.frame=some X.env.locals→X.ex=[]→
 Inv X pins σ H1 s0→Fly X.prog X.w X.stack H1 s0 (.ref C) .none a d H' s3→cL X.K C→t D σ C d H'→wpAny (model X.prog X.w) X.A (handleBy (.ref a) X.env hs) (SP X pins D) X.xe s3
structure QH (X:Cx)(hs:List Px)(t:TH):Prop where
 out:PH X hs t
def zW:TH:=fun _ _ _ _ _=>False
def Dw (K:tx)(Dc:Addr)(ts:TS)(r:TH):TH:=fun D σ C d H=>∃b,gD K C Dc=some b∧Sel b (ts D σ H) (r D σ C d H)
section
variable {X:Cx}
theorem Ci:QH X [] zW:=⟨fun _ _ _ _ _ _ _ _ _ _ _ _ _ _ _ _ h=>h.elim⟩
theorem vY {pins:List (Addr×Obj)}{σ:St}{H H':Hp}{s s':Ky}{cls:Gt}{a:Addr}{d:Option Addr}{M:UL}{A:Lj}{E:Gt→Ky→Prop}{Q:Unit→Ky→Prop}(I:Inv X pins σ H s)(F:Fly X.prog X.w X.stack H s cls .none a d H' s')
  (hQ:∀s'',Fly X.prog X.w X.stack H s cls .none a d H' s''→Q () s''):wpAny M A (setFlight (.ref a) none) Q E s':=by
 obtain⟨T,a0,hT0,hT1,f1,f2,f3,f4⟩:=F.flying I
 refine HT.lj f1 f3 f4 fun h' n=>?_
 exact hQ _ (F.moved (oT:={cls:=.none,data:=.dict #[]}) I.stack I.stkFree (F.inv I).stkFree hT0 hT1 n.st n.up n.tr)
variable {x n:Str}{np hp:Pos}{Dc:Addr}{b0:Stmt}{suite:List Stmt}{ci:List Px}{ts:TS}{r:TH}{i:Nat}
theorem yd {A:Lj}{E:Gt→Ky→Prop}{pins:List (Addr×Obj)}{s:Ky}{σ:St}{H:Hp}{u:Gt}{pos:Pos}{Q:Gt→Ky→Prop}(I:Inv X pins σ H s)(hg:Gl X x)(hm:X.mg x=some u)(h:Q u s)
  (hd:(x==("__debug__":Str))=false:=by decide):wpAny (model X.prog X.w) A (eval (.Name x pos) X.env) Q E s:=
 OB I.ok.kind hg (RA (by rw[I.ok.glob];exact I.mod.glob.keeps I.bk) hm h) hd
theorem Di (hD:cL X.K Dc)(hm:X.mg x=some (.ref Dc))(hs:∀a,QSs (cxH X a) (b0::suite) ts)(hr:QH X ci r)(hg:Gl X x:=by rfl)(hdb:(x==("__debug__":Str))=false:=by decide):
  QH X (.ExceptHandler (some (.Name x np)) none (b0::suite) hp::ci) (Dw X.K Dc ts r):=by
 refine⟨fun pins s0 σ H1 H' C a d s3 D e1 e2 hex I F hC h=>?_⟩
 obtain⟨b,hb,q⟩:=h
 have I3:=F.inv I
 obtain⟨oe,vs,_,_,_,_,he,hc,hdc,hd,_⟩:=F.tr
 refine wpAny_handleBy_cons (codeAny_handlers_test (yd I3 hg hm ?_ hdb)) (by intro q;cases q)
 refine nq I3.kIn hC hD he hc hb ?_
 have q:=eX q
 cases b with
 |false=>exact hr.out pins s0 σ H1 H' C a d s3 D e1 e2 hex I F hC q
 |true=>
  refine codeAny_handlers_suite (vY I F fun s4 F4=>?_)
  refine Le ((hs a).out pins s4 σ H' D (F4.inv I).toH q) (fun f s5 h5=>?_) fun _ _ z=>z.elim
  exact SP.ofH I.ok h5
end
def Ec (K:tx)(tb:(St→XK)→TS)(th:TH)(te:TS):TS:=fun D σ H=>
 tb (fun σ' cls d H'=>∃C,cls=.ref C∧cL K C∧th D σ' C d H') {D with nx:=te D} σ H
abbrev cxT (X:Cx)(pn:List (Addr×Obj))(E':Gt→Ky→Prop):Cx:={X with pn:=pn,xe:=E'}
section
variable {X:Cx}{pins pn:List (Addr×Obj)}{σ:St}{H:Hp}{s:Ky}{E':Gt→Ky→Prop}
theorem Cx.Ok.toT (ok:X.Ok):(cxT X pn E').Ok:=⟨ok.mod,ok.kind,ok.glob,ok.blt,ok.above,ok.inj,ok.has,ok.cab,ok.hd,ok.frames,ok.stk,ok.exf,ok.bs,ok.bsz,ok.noex,ok.exfs,ok.funs,ok.frf⟩
theorem Inv.toT (I:Inv X pins σ H s):Inv (cxT X (X.pn++pins) E') [] σ H s:=⟨I.ok.toT,I.os,I.bare,I.base,I.loc,I.cell,I.free,I.freeC,fun p hp=>I.pin p (by
 have hp:p∈(X.pn++pins)++[]:=hp
 rwa [LW]at hp),I.hok,I.len⟩
theorem Inv.ofT {pins':List (Addr×Obj)}(ok:X.Ok)(I:Inv (cxT X (X.pn++pins) E') pins' σ H s):Inv X pins σ H s:=⟨ok,I.os,I.bare,I.base,I.loc,I.cell,I.free,I.freeC,fun p hp=>I.pin p (On _ hp),I.hok,I.len⟩
theorem GH {body orelse:List Stmt}{h0:Px}{hs:List Px}{pos:Pos}{tb:(St→XK)→TS}{te:TS}{th:TH}
  (hb:∀(pn':List (Addr×Obj))(E':Gt→Ky→Prop)(EH:St→XK),dR (CX1 X.prog X.w) (cxT X pn' E') EH→QSs (cxT X pn' E') body (tb EH))(hh:QH X (h0::hs) th)(he:QSs X orelse te)
  (e1:X.stack=X.env::X.outer:=by rfl)(e2:X.env.frame=some X.env.locals:=by rfl)(hex:X.ex=[]:=by rfl):QS X (.Try body (h0::hs) orelse [] pos) (Ec X.K tb th te):=by
 refine⟨fun pins s σ H D I h=>?_⟩
 let E':Gt→Ky→Prop:=fun e s1=>∃σ1 H1 s0 C a d H',e=.ref a∧Inv X pins σ1 H1 s0∧Fly X.prog X.w X.stack H1 s0 (.ref C) .none a d H' s1∧cL X.K C∧th D σ1 C d H'
 have pass:dR (CX1 X.prog X.w) (cxT X (X.pn++pins) E') (fun σ' cls d H'=>∃C,cls=.ref C∧cL X.K C∧th D σ' C d H'):=by
  intro pins' σ1 H1 s0 e s1 I1 hx
  obtain⟨a,C,d,H',rfl,F,C',ec,hC,ht⟩:=hx
  cases ec
  exact⟨σ1,H1,s0,C,a,d,H',rfl,I1.ofT I.ok,F,hC,ht⟩
 refine wpAny_Try_except (Le ((hb (X.pn++pins) E' _ pass).out [] s σ H _ I.toT h) (fun f s1 h1=>?_) fun e s1 h1=>?_)
 ·cases f with
  |next=>
   obtain⟨σ',H',J,q⟩:=h1
   exact he.out pins s1 σ' H' D (J.ofT I.ok) q
  |brk=>obtain⟨σ',H',J,q⟩:=h1;exact⟨σ',H',J.ofT I.ok,q⟩
  |cont=>obtain⟨σ',H',J,q⟩:=h1;exact⟨σ',H',J.ofT I.ok,q⟩
  |ret u=>obtain⟨v,σ',H',J,rv,q⟩:=h1;exact⟨v,σ',H',J.ofT I.ok,rv,q⟩
 ·obtain⟨σ1,H1,s0,C,a,d,H',rfl,I1,F,hC,ht⟩:=h1
  obtain⟨T,a0,hT0,hT1,f1,f2,f3,f4⟩:=F.flying I1
  have hfr:=I1.ok.frames
  rw[e1]at hfr
  have f3':=f3
  rw[e1]at f3'
  have f1':=f1
  have f2':=f2
  have f4':=f4
  rw[e1]at f1' f2' f4'
  refine HT.mK hfr f3' e2 f4' f1' f2' fun h' n1=>?_
  refine HT.lj (s:={s1 with heap:=h'}) n1.st n1.fr n1.tr fun h'' n2=>?_
  have st:(fK s1.heap X.stack a T).StaysIn h'':=by rw[e1];exact n2.st
  have tr:HT.TrD h'' (fK s1.heap X.stack a T) a (.ref C) a0 d .none:=by rw[e1];exact n2.tr
  have F3:=F.moved (oT:={cls:=.none,data:=.dict #[]}) I1.stack I1.stkFree (F.inv I1).stkFree hT0 hT1 st (n1.up.trans n2.up) tr
  exact hh.out pins s0 σ1 H1 H' C a d _ D e1 e2 hex I1 F3 hC ht
end
structure mj (K:tx)(C:Addr):Prop where
 ga:Lr K (.ref C) "__getattribute__"=some (some (.builtin "BaseException.__getattribute__"))
 na:Lr K (.ref C) "__getattr__"=some none
 cl:Lr K (.ref C) "__class__"=some (some (.builtin "object.__class__"))
 mo:Ot K C (.type "object")=some true
 mb:Ot K C (.type "BaseException")=some true
end L2
namespace HT
open PySem PyProof.Rows
section
variable {prog:KS}{w:LI}{A:Lj}{E:Gt→Ky→Prop}{s:Ky}
theorem jO {t sl:Addr}{items:Array Gt}{vl vu:Gt}{lo hi:Option Int}{Q:Gt→Ky→Prop}(ht:QK s.heap t items)(hs:s.heap.IsSliceOf sl vl vu .none)(pl:Rl vl lo)(pu:Rl vu hi)
  (hw:sIx items.size 0 lo=0∧sIx items.size items.size hi=items.size)(h:Q (.ref t) s):wpAny (model prog w) A (getItem (.ref t) (.ref sl)) Q E s:=by
 obtain⟨os,hos,hcs,hds⟩:=id hs
 have hTs:s.TypeIs (.ref sl) "slice":=⟨os,hos,hcs⟩
 unfold getItem
 try with_reducible refine Ms ?_
 first|refine cW (If ?_)|skip
 refine cW (UC ht.typeIs (by decide) ?_)
 refine cW (LA (name:=Mf "__getitem__") ht.typeIs LX
  (LB LX ht.typeIs Ui ?_ (Uu _ _)))
 show wpAny _ _ (PR (.ref t)>>=_) _ _ s
 refine cW (tupleItemsOf_ ht ?_)
 refine cW (OT hTs ?_)
 rw[if_pos (by decide)]
 refine cW (ib hs pl pu ?_)
 have hyes:(((sIx items.size 0 lo:Nat):Int)==0&&(1:Int)==1&&(sIx items.size items.size hi- sIx items.size 0 lo)==items.size)=true:=by
  rw[hw.1,hw.2];simp
 show wpAny _ _ (if (((sIx items.size 0 lo:Nat):Int)==0&&(1:Int)==1&&(sIx items.size items.size hi- sIx items.size 0 lo)==items.size)=true then _ else _) _ _ s
 rw[if_pos hyes]
 have hte:s.TypeIs (.ref t) "tuple":=ht.typeIs
 unfold UW
 repeat (first|exact⟨_,rfl,If h⟩|(with_reducible refine OT hte ?_)|wp_step)
end
section
variable {prog:KS}{w:LI}{A:Lj}{E:Gt→Ky→Prop}{s:Ky}
theorem wY {t b:Addr}{ws:List Gt}{Q:Gt→Ky→Prop}(ht:QK s.heap t #[])(hb:QK s.heap b ws.toArray)(h1:Q (.ref b) s):wpAny (model prog w) A (binaryOp .Add (.ref t) (.ref b)) Q E s:=by
 obtain⟨⟨cls,dd,data,sl⟩,ho,hc,n,hd⟩:=id ht
 obtain⟨⟨cls2,dd2,data2,sl2⟩,ho2,hc2,n2,hd2⟩:=id hb
 simp only at hc hd hc2 hd2
 subst hc hd hc2 hd2
 exact Tq ⟨_,ho,rfl⟩ ⟨_,ho2,rfl⟩ Rv SK OS ON (OE _ _)
  (tuple_addW0 t b #[] ws.toArray n n2 dd dd2 sl sl2 (by simp)) ⟨ho,ho2,h1⟩
end
end HT
namespace L2
open PySem PySem.Spec PyProof.Rows
theorem au.rfl' {H:Hp}:au H H:=fun _ _ e=>e
theorem uW {xs:List V}{lo hi:Option Int}(h:HT.sIx xs.length 0 lo=0∧HT.sIx xs.length xs.length hi=xs.length):eT xs lo hi=xs:=by
 unfold eT
 rw[h.1,h.2,Oe,NC,Nq]
section
variable {X:Cx}
def zS:V→Option Int→Option Int→Hp→VK→Prop:=fun x lo hi H Q=>∃a xs,x=.ref a∧H a=some (.tup xs)∧∀p H',au H H'→H' p=some (.tup (eT xs lo hi))→Q (.ref p) H'
theorem Bp:SlR X zS:=by
 intro pins s σ H x v vl vu lo hi sl Q I rx hs pl pu h
 obtain⟨a,xs,rfl,hx,q⟩:=h
 have hq:SqT X.K H a xs:=.inl (.inl hx)
 by_cases hw:HT.sIx xs.length 0 lo=0∧HT.sIx xs.length xs.length hi=xs.length
 ·cases rx
  obtain⟨its,r,ht,hz⟩:=I.tuple hq
  have hlen:its.toArray.size=xs.length:=by rw[KH];exact r.length.symm
  refine⟨"tuple",_,LX.lookup,ht.typeIs,?_⟩
  refine HT.jO ht hs pl pu (by rw[hlen];exact hw) ?_
  exact⟨.ref a,H,I,rfl,q a H au.rfl' (by rw[uW hw];exact hx)⟩
 ·exact DP pins s σ H _ v vl vu lo hi sl Q I rx hs pl pu ⟨a,xs,rfl,hq,hw,fun p hp=>q p _ (au.upd hp) (ai ..)⟩
def zt:R2:=fun x y H Q=>∃a b xs ys,x=.ref a∧y=.ref b∧H a=some (.tup xs)∧H b=some (.tup ys)∧xs.length+ys.length≤sizeLine∧∀p H',au H H'→H' p=some (.tup (xs++ys))→Q (.ref p) H'
theorem Ak:OpR X (binaryOp .Add) zt:=by
 intro pins s σ H x y v u Q I rx ry h
 obtain⟨a,b,xs,ys,rfl,rfl,ha,hb,hz,q⟩:=h
 by_cases hx:xs=[]
 ·subst hx
  cases rx
  cases ry
  obtain⟨its,r1,p1,_⟩:=I.tuple (.inl (.inl ha))
  obtain⟨its2,r2,p2,_⟩:=I.tuple (.inl (.inl hb))
  cases r1
  exact HT.wY p1 p2 ⟨.ref b,H,I,rfl,q b H au.rfl' hb⟩
 ·refine AS pins s σ H _ _ v u Q I rx ry ⟨a,b,xs,ys,rfl,rfl,.inl (.inl ha),.inl (.inl hb),hx,hz,fun e=>?_,fun _ p hp=>q p _ (au.upd hp) (ai ..)⟩
  subst e
  exact q a H au.rfl' (by rw[LW];exact ha)
def bH (K:tx):R2:=fun x y H Q=>match x,y with
 |.int i,.int j=>Q (.int (i+j)) H
 |.str i,.str j=>i.length+j.length≤sizeLine∧Q (.str (i++j)) H
 |.ref a,.ref b=>Dd (.ref a) (.ref b) H Q∨zt (.ref a) (.ref b) H Q
 |_,_=>False
theorem bM:OpR X (binaryOp .Add) (bH X.K):=(Dl.or (ui.or (DG.or Ak))).imp fun x y H Q q=>by
 unfold bH at q
 split at q
 ·exact .inl ⟨_,_,rfl,rfl,q⟩
 ·exact .inr (.inl ⟨_,_,rfl,rfl,q.1,q.2⟩)
 ·exact .inr (.inr q)
 ·exact q.elim
def DX (K:tx):V→Option Int→Option Int→Hp→VK→Prop:=fun x lo hi H Q=>Dj K x lo hi H Q∨zS x lo hi H Q
theorem CO:SlR X (DX X.K):=Bj.or Bp
def tZ (t:TE):TE:=fun σ H Q=>t σ H fun x H'=>match x with
 |.int i=>i.natAbs.log2<1920∧Q (.str (toString i)) H'
 |.str z=>z.length≤sizeLine∧Q (.str z) H'
 |_=>False
theorem tJ {e:Expr}{te:TE}{pos:Pos}(h:QE X e te):QE X (.FormattedValue e (-1) none pos) (tZ te):=⟨fun pins s σ H Q I q=>by
 refine FormattedValue_plain (thn (h.out pins s σ H _ I q) fun v s1 ⟨x,H1,I1,r1,q1⟩=>?_)
 cases x<;>first|exact q1.elim|skip
 ·rename_i i
  obtain⟨t,rfl⟩:=(show ∃t,v=OL i t from r1)
  exact formatField_int_small q1.1 ⟨.str _,H1,I1.tok _,⟨_,rfl⟩,q1.2⟩
 ·rename_i z
  obtain⟨t,rfl⟩:=(show ∃t,v=Oc z t from r1)
  exact formatField_str (fun t' tk=>⟨.str _,H1,I1.tok _,⟨_,rfl⟩,q1.2⟩) q1.1⟩
def mJ:List TE→Str→TE
 |[],acc=>fun σ H Q=>acc.length≤sizeLine∧Q (.str acc) H
 |t::r,acc=>fun σ H Q=>t σ H fun x H'=>match x with
  |.str y=>(acc++y).length≤sizeLine∧mJ r (acc++y) σ H' Q
  |_=>False
inductive QJ (X:Cx):List Expr→List TE→Prop where
 |nil:QJ X [] []
 |cons {e:Expr} {t:TE} {es:List Expr} {ts:List TE}:QE X e t→QJ X es ts→QJ X (e::es) (t::ts)
theorem GQ {es:List Expr}{ts:List TE}(j:QJ X es ts):∀{pins:List (Addr×Obj)}{s:Ky}{σ:St}{H:Hp}{Q:VK}{acc:Str},Inv X pins σ H s→mJ ts acc σ H Q→wpAny (model X.prog X.w) X.A (joinParts acc (evalEach es X.env)) (EP X pins σ Q) X.xe s:=by
 induction j with
 |nil=>intro pins s σ H Q acc I q;exact joinParts_nil ⟨.str _,H,I.tok _,⟨_,rfl⟩,q.2⟩ q.1
 |cons h _ ih=>
  intro pins s σ H Q acc I q
  refine joinParts_cons (thn (h.out pins s σ H _ I q) fun v s1 ⟨x,H1,I1,r1,q1⟩=>?_)
  cases x<;>first|exact q1.elim|skip
  rename_i z
  obtain⟨t,rfl⟩:=(show ∃t,v=Oc z t from r1)
  exact⟨q1.1,ih I1 q1.2⟩
theorem vI {v1 v2:Expr}{ci:List Expr}{ts:List TE}{pos:Pos}(j:QJ X (v1::v2::ci) ts):QE X (.JoinedStr (v1::v2::ci) pos) (mJ ts MP):=⟨fun pins s σ H Q I q=>JoinedStr_many (GQ j I q)⟩
end
theorem lD {K:tx}{C D:Addr}{b:Bool}(h:Ot K C (.ref D)=some b):gD K C D=some b:=by
 unfold Ot W.clsIn at h
 unfold gD
 split at h
 ·rename_i cd sl e
  rw[e]
  dsimp only[Option.bind]at h⊢
  split at h
  ·cases h
  ·exact h
 ·cases h
theorem Fun.okN {P:KS}{w:LI}{K:tx}{mg:Str→Option Gt}{base:Heap}{CX:CXT}{x qual:Str}{st:Stmt}{f:Addr}{fd:KP}{N ps:List Str}{k:Nat}{sp:Sp}(F:Fun K x qual st f fd)(S:aA N ps (ak st))(len:∀vs H Q E,sp vs H Q E→vs.length=ps.length)
  (hbody:∀(cdv:Gt)(A:Lj)(outer:List Env)(s:Ky)(H:Hp)(vs:List V)(Q:VK)(E:XK),bc k (A.deeper (envOfC qual (ak st) s.heap.objs.size f cdv))→sp vs H Q E→
   ∃t,PSs (cw CX P w K mg base N qual (ak st) f cdv A outer s H E).nox (aM st) t∧t {nx:=fun _ H'=>Q .non H',rt:=Q} (start N vs) H):aL P w K mg base CX (k+1) f fd ps sp:=by
 obtain⟨oc,od,kV,doc,pm,an,cdv,ct,osl,rfl,lk,hcd⟩:=F.ex
 refine zB lk hcd S len fun A outer s H vs Q E hr hsp=>?_
 obtain⟨t,h,q⟩:=hbody cdv A outer s H vs Q E hr hsp
 exact⟨t,h.nox,q⟩
section
variable {X:Cx}
def Dh:V→Option Int→Option Int→Hp→VK→Prop:=fun x lo hi H Q=>∃z,x=.str z∧z.length≤sizeLine∧Q (.str (Txt.slice z lo hi)) H
theorem Dn:SlR X Dh:=by
 intro pins s σ H x v vl vu lo hi sl Q I rx hs pl pu h
 obtain⟨z,rfl,hz,q⟩:=h
 obtain⟨t,rfl⟩:=(show ∃t,v=Oc z t from rx)
 refine⟨"str",_,F.slot_str_getitem.lookup,UF _ _ _,?_⟩
 have fin:∀(l u:Option (Int×Tok)),l.map (·.1)=lo→u.map (·.1)=hi→s.heap.IsSlice sl l u none→wpAny (model X.prog X.w) X.A (getItem (.str z t) (.ref sl)) (EP X pins σ Q) X.xe s:=fun l u e1 e2 hs'=>by
  subst e1 e2
  refine wpAny_getItem_str_slice (l:=l) (u:=u) (st:=none) hs' rfl (post_val_or_str ⟨KR (Txt.slice_le z _ _) hz,fun t' k=>⟨.str _,H,I.tok k,⟨_,rfl⟩,q⟩⟩)
 obtain⟨os,hos,hcs,hds⟩:=hs
 cases pl with
 |none=>cases pu with
  |none=>exact fin none none rfl rfl ⟨os,hos,hcs,hds⟩
  |int j tj=>exact fin none (some (j,tj)) rfl rfl ⟨os,hos,hcs,hds⟩
 |int i ti=>cases pu with
  |none=>exact fin (some (i,ti)) none rfl rfl ⟨os,hos,hcs,hds⟩
  |int j tj=>exact fin (some (i,ti)) (some (j,tj)) rfl rfl ⟨os,hos,hcs,hds⟩
def nw (K:tx):V→Option Int→Option Int→Hp→VK→Prop:=fun x lo hi H Q=>DX K x lo hi H Q∨Dh x lo hi H Q
theorem ky:SlR X (nw X.K):=CO.or Dn
def jQ:V→Bool
 |.int _=>true
 |.str _=>true
 |_=>false
theorem uh {A:Lj}{s:Ky}{x y:V}{u v:Gt}(rx:aK x u)(ry:aK y v)(hx:jQ x=true)(hy:jQ y=true):PySem.SeqAt.EqAt A s u v (decide (x=y)):=by
 cases x<;>first|cases hx|skip
 all_goals (cases y<;>first|cases hy|skip)
 ·obtain⟨t,rfl⟩:=rx;obtain⟨t',rfl⟩:=ry
  have e:=PF (A:=A) (s:=s) ‹Int› t ‹Int› t'
  rename_i i j
  have e2:decide (V.int i=V.int j)=(i==j):=by rw[kL (f:=V.int) fun _ _ e=>V.int.inj e];rfl
  rw[e2];exact PF i t j t'
 ·obtain⟨t,rfl⟩:=rx;obtain⟨t',rfl⟩:=ry
  exact Qs _ _ _ _
 ·obtain⟨t,rfl⟩:=rx;obtain⟨t',rfl⟩:=ry
  exact Qr _ _ _ _
 ·obtain⟨t,rfl⟩:=rx;obtain⟨t',rfl⟩:=ry
  rename_i i j
  have e2:decide (V.str i=V.str j)=(i==j):=by
   rw[kL (f:=V.str) fun _ _ e=>V.str.inj e]
   by_cases h:i=j
   ·rw[h];simp
   ·rw[decide_eq_false h];exact(beq_eq_false_iff_ne.mpr h).symm
  rw[e2];exact TR i t j t'
theorem vy {xs ys:List V}:decide (xs=ys)=((PC (min xs.length ys.length)).all (fun j=>decide (xs[j]?=ys[j]?))&&xs.length==ys.length):=by
 by_cases h:xs=ys
 ·subst h;simp
 ·rw[decide_eq_false h]
  by_cases hl:xs.length=ys.length
  ·rw[hl,Nat.min_self,beq_self_eq_true,UA]
   symm
   rw[List.all_eq_false]
   apply Ov
   intro hn
   apply h
   apply OQ fun i=>?_
   by_cases hi:i<ys.length
   ·apply Ov
    intro hne
    exact hn ⟨i,PM.mpr hi,by simpa using hne⟩
   ·rw[Lh (by omega),Lh (by omega)]
  ·have:(xs.length==ys.length)=false:=by simpa using hl
   rw[this,Up]
def DU (K:tx):R2:=fun x y H Q=>∃a b xs ys,x=.ref a∧y=.ref b∧SqT K H a xs∧SqT K H b ys∧xs.all jQ=true∧ys.all jQ=true∧Q (.bl (decide (xs=ys))) H
theorem Dm (hu:X.A.units<cLine):OpR X (compareOp .Eq) (DU X.K):=by
 intro pins s σ H x y v u Q I rx ry h
 obtain⟨a,b,xs,ys,rfl,rfl,ha,hb,px,py,q⟩:=h
 cases rx
 cases ry
 obtain⟨its,r1,p1,_⟩:=I.tuple ha
 obtain⟨its2,r2,p2,_⟩:=I.tuple hb
 have l1:=r1.length
 have l2:=r2.length
 refine PySem.SeqAt.eq_tupleAt (e:=fun j=>decide (xs[j]?=ys[j]?)) p1 p2 hu (fun j h1 h2=>?_) ?_
 ·have h1:j<its.length:=by simpa using h1
  have h2:j<its2.length:=by simpa using h2
  have e1:xs[j]?=some xs[j]:=KB (by omega)
  have e2:ys[j]?=some ys[j]:=KB (by omega)
  obtain⟨u1,g1,ru1⟩:=r1.get e1
  obtain⟨u2,g2,ru2⟩:=r2.get e2
  have g1':its.toArray[j]=u1:=by
   rw[KB h1]at g1;simpa using KL g1
  have g2':its2.toArray[j]=u2:=by
   rw[KB h2]at g2;simpa using KL g2
  rw[g1',g2',e1,e2]
  have:decide (some xs[j]=some ys[j])=decide (xs[j]=ys[j]):=by simp
  rw[this]
  exact uh ru1 ru2 (Mc.mp px _ (OY _)) (Mc.mp py _ (OY _))
 ·have e:=vy (xs:=xs) (ys:=ys)
  rw[l1,l2]at e
  simp only[KH]
  rw[←e]
  exact⟨.bl _,H,I,rfl,q⟩
def ze:R2:=fun x y H Q=>match x,y with
 |.str i,.str j=>Q (.bl (!(Qu j i 0 j.length 1).isEmpty)) H
 |_,_=>False
theorem IX:OpR X (compareOp .In) ze:=vX.imp fun x y H Q q=>by
 unfold ze at q
 split at q
 ·exact⟨_,_,rfl,rfl,q⟩
 ·exact q.elim
def um:List V→Hp→VK→Prop:=fun xs H Q=>match xs with
 |[.str z]=>∃n,PySem.intText? z=some n∧z.length≤640∧Q (.int n) H
 |[.bl b]=>Q (.int (if b then 1 else 0)) H
 |_=>False
theorem BE:bC X (.type "int") um:=fun pins s σ H xs us Q I r h=>by
 unfold um at h
 split at h
 ·obtain⟨n,h1,h2,q⟩:=h
  obtain⟨u,rfl,ru⟩:=eN r
  obtain⟨t,rfl⟩:=ru
  exact W.KIN.call_text h1 h2 ⟨.int n,H,I.tok _,⟨_,rfl⟩,q⟩
 ·obtain⟨u,rfl,ru⟩:=eN r
  cases ru
  exact call_int_bool ⟨.int _,H,I.tok _,⟨_,rfl⟩,h⟩
 ·exact h.elim
end
end L2
namespace HT
open PySem PyProof.Rows
section
variable {prog:KS}{w:LI}{A:Lj}{E:Gt→Ky→Prop}{s:Ky}
theorem qG {it t:Addr}{i:Nat}{items:Array Gt}{x:Gt}{Q:Gt→Ky→Prop}(hit:s.heap.IsTupleIter it t i)(ht:s.heap.IsTuple t items)(hx:items[i]?=some x)
  (hQ:∀h',h'.IsTupleIter it t (i+1)→MK it s.heap h'→Q x {s with heap:=h'}):wpAny (model prog w) A (LQ (.ref it)) Q E s:=by
 obtain⟨o,ho,hc,hd⟩:=id hit
 obtain⟨ol,hol,_,nl,hdl⟩:=ht
 unfold LQ
 refine cW (LA (name:=Mf "__next__") hit.typeIs RD
  (LB RD hit.typeIs F.entry_tuple_iterator_next ?_ (F.args_tuple_iterator_next_1 _)))
 show wpAny _ _ (field (.ref it) 0>>=_) _ _ s
 refine cW (Lp ho hd (x:=.ref t) rfl ?_)
 show wpAny _ _ (if (KJ t==Ml)=true then _ else _) _ _ s
 rw[if_neg (show ¬((KJ t==Ml)=true)from KN)]
 show wpAny _ _ (field (.ref it) 1>>=_) _ _ s
 refine cW (Lp ho hd (x:=.int i 0) rfl ?_)
 show wpAny _ _ (seqItems? (.ref t)>>=_) _ _ s
 refine cW (Nh hol hdl ?_)
 simp only[MB,hx]
 refine cW (OU ho hd (by simp) (If ⟨x,rfl,If (hQ _ ?_ (MZ ..))⟩))
 exact⟨_,Ls _ ho (Of (MU hd _)),(Qt ..).trans hc,by rw[MU hd];simp[rawInt]⟩
end
abbrev itO (t:Addr):Obj:={cls:=.type "tuple_iterator",data:=.fields #[.ref t,.int 0 0]}
end HT
namespace L2
open PySem PySem.Spec PyProof.Rows
section
variable {X:Cx}{pins:List (Addr×Obj)}{σ:St}{H H1:Hp}{s s0:Ky}{a:Addr}{o:HO}
theorem Inv.track2 (I0:Inv X pins σ H1 s0)(I:Inv X pins σ H s)(new:s0.heap.objs.size≤a)(hn:H a=none)(ok:aT X.prog X.w (upd H a o) s.heap a o):Inv X pins σ (upd H a o) s:=by
 have ne:∀b u,s0.heap.get? b=some u→b≠a:=fun b u e=>KZ (KU (KF e) new)
 have ne0:∀b u,X.s₀.heap.get? b=some u→b≠a:=fun b u e=>KZ (KU (KF e) (KR I0.sz new))
 have nL:X.env.locals≠a:=by
  obtain⟨m,⟨o',_,_,e,_⟩,_⟩:=I0.loc
  exact ne _ _ e
 refine⟨I.ok,I.os,I.bare,⟨I.base.keep,I.base.slot,fun b u e n hx=>?_,I.base.there,fun b xs e=>?_,fun b u v e=>?_,fun b ps e=>?_⟩,I.loc,I.cell,?_,fun x c e=>?_,fun p hp=>?_,fun b u e=>?_,I.len⟩
 ·rw[ao (ne0 b u e)];exact I.base.free b u e n hx
 ·have:=I.base.tups b xs e
  rw[ao (av this hn)];exact this
 ·have:=I.base.frzs b u v e
  rw[ao (av this hn)];exact this
 ·obtain⟨more,this⟩:=I.base.tbls b ps e
  exact⟨more,by rw[ao (av this hn)];exact this⟩
 ·rw[ao nL];exact I.free
 ·obtain⟨v,o',e',_⟩:=I0.cell x c e
  rw[ao (ne _ _ e')];exact I.freeC x c e
 ·obtain⟨h1,h2,h3⟩:=I.pin p hp
  exact⟨h1,by rw[ao (ne _ _ (I0.pin p hp).1)];exact h2,h3⟩
 ·by_cases hb:b=a
  ·subst hb
   rw[ai]at e;cases e
   exact ok
  ·rw[ao hb]at e
   exact(I.hok b u e).stay (fun c v _ q=>q) (fun c q=>by
    have:c≠a:=av q hn
    rw[ao this];exact q) fun c xs q=>by
    have:c≠a:=av q hn
    rw[ao this];exact q
end
section
variable {X:Cx}{a b:Expr}{t:TA}{p pos ep:Pos}{elts:List Expr}{ek:Nat}
theorem BG:bootBuiltins "zip"=some (.type "zip"):=by decide+kernel
end
theorem wC:bootBuiltins "int"=some (.type "int"):=by decide+kernel
def cf (C:Addr)(m:Str)(sp:Sp)(E:St→XK)(ta:TE)(t:TA):TE:=fun σ H Q=>ta σ H fun x H1=>∃a dx fs,x=.ref a∧H1 a=some (.ins C dx fs)∧fs.lookup m=none∧t σ H1 fun vs H2=>sp (x::vs) H2 Q (E σ)
def mE (C:Addr)(sp:Sp)(E:St→XK)(t:TA):TE:=fun σ H Q=>t σ H fun vs H1=>∀x dx,H1 x=none→H1 dx=none→dx≠x→
 sp (.ref x::vs) (upd (upd H1 dx (.own x)) x (.ins C dx [])) (fun v H2=>v=.non∧Q (.ref x) H2) (E σ)
section
variable {X:Cx}{CX:CXT}{k:Nat}{f C:Addr}{fd:KP}{ps:List Str}{sp:Sp}{E:St→XK}{x m fl:Str}{p pos apos pos':Pos}{e o value:Expr}{es:List Expr}{ta tv to:TE}{t:TA}
theorem eQ (he:QE X e ta)(hb:attributeBase e fl X.env (eval e X.env)=eval e X.env:=by rfl):QE X (.Attribute e fl pos) (fj X.K ta fl):=⟨BL he.out hb⟩
theorem jr (ho:QE X o to)(hv:QE X value tv)(hs:swapsWith value (some (.Attribute o fl pos')) pos.line X.env=pure false:=by rfl):QS X (.Assign [.Attribute o fl pos'] value pos) (mW X.K to tv fl):=⟨EQ ho.out hv.out hs⟩
theorem dg {pl:Sem Bool}(he:QE X o ta)(c:Cls X.K C)(hm:gz X.K C m f)(F:aL X.prog X.w X.K X.mg X.base CX k f fd ps sp)(hr:bc k X.A)(hb:br X.K fd ps [])(hx:dR CX X E)(ha:QA X (e::es) t)
  (hs:aU (e::es)=true:=by rfl)
  (ht:eval (.Call (.Attribute o m apos) (e::es) [] pos) X.env=(do
   let ov←eval o X.env
   standAt apos.atName
   let (f,first)←holding [ov] (getMethod ov m pl)
   callWith pos f first (backTo pos (starEach (e::es) X.env)) (backToKw pos (keywordEach [] X.env))):=by rfl):
  QE X (.Call (.Attribute o m apos) (e::es) [] pos) (cf C m sp E ta t):=⟨fun pins s σ H Q I h=>by
 have h':(bA e&&aU es)=true:=hs
 refine Rx (pl:=pl) (thn (he.out pins s σ H _ I h) fun u s1 ⟨x,H1,I1,rx,a,dx,fs,ex,ea,l,q⟩=>?_) ht
 subst ex
 obtain rfl:u=KJ a:=rx
 refine mM I1 ea c hm l ?_
 refine PD (first:=[.ref a]) (h₀:=X.base) I.ok.mod.kin hm.kp (thn (ha.out pos pins s1 σ H1 _ I1 q) fun us s2 ⟨vs,H2,I2,r,q2⟩=>⟨I2.kIn,?_⟩)
  (aP (KD.mp h').1 es X.env) (bv (KD.mp h').2)
 exact kR (us:=.ref a::us) (vs:=.ref a::vs) F hr hb hx I2 (.cons rfl r) q2⟩
theorem im {pl:Sem Bool}(he:QE X o ta)(c:Cls X.K C)(hm:gz X.K C m f)(F:aL X.prog X.w X.K X.mg X.base CX k f fd ps sp)(hr:bc k X.A)(hb:br X.K fd ps [])(hx:dR CX X E)
  (ht:eval (.Call (.Attribute o m apos) [] [] pos) X.env=(do
   let ov←eval o X.env
   standAt apos.atName
   let (f,first)←holding [ov] (getMethod ov m pl)
   callWith pos f first (backTo pos (starEach [] X.env)) (backToKw pos (keywordEach [] X.env))):=by rfl):
  QE X (.Call (.Attribute o m apos) [] [] pos) (cf C m sp E ta am):=⟨fun pins s σ H Q I h=>by
 refine Rx (pl:=pl) (thn (he.out pins s σ H _ I h) fun u s1 ⟨x,H1,I1,rx,a,dx,fs,ex,ea,l,q⟩=>?_) ht
 subst ex
 obtain rfl:u=KJ a:=rx
 refine mM I1 ea c hm l ?_
 exact Sl (first:=[.ref a]) I1.kIn hm.kp (kR (us:=[.ref a]) (vs:=[.ref a]) F hr hb hx I1 (.cons rfl .nil) q)⟩
theorem nR {pins:List (Addr×Obj)}{σ:St}{H:Hp}{s:Ky}{Q:VK}{us:List Gt}{vs:List V}(M:Mk X.K C f)(F:aL X.prog X.w X.K X.mg X.base CX k f fd ps sp)(hr:bc (k+1) X.A)(hb:br X.K fd ps [])
  (hx:dR CX X E)(I:Inv X pins σ H s)(r:aO vs us)
  (h:∀x dx,H x=none→H dx=none→dx≠x→sp (.ref x::vs) (upd (upd H dx (.own x)) x (.ins C dx [])) (fun v H2=>v=.non∧Q (.ref x) H2) (E σ)):
  wpAny (model X.prog X.w) X.A (call (.ref C) us) (EP X pins σ Q) X.xe s:=by
 have hq:=h (s.heap.objs.size+1) s.heap.objs.size (I.hok.fresh (Np _)) (I.hok.fresh (KA _)) (KZ (Ol _))
 have I2:=Inv.made (C:=C) I
 have r2:aO (V.ref (s.heap.objs.size+1)::vs) (KJ (s.heap.objs.size+1)::us):=.cons rfl r
 have hl:(KJ (s.heap.objs.size+1)::us).length=ps.length:=by
  have e:=r2.length
  rw[F.len _ _ _ _ hq]at e
  exact e.symm
 have hb':=hb _ (KJ (s.heap.objs.size+1)::us) I2.kIn (by rw[LW];exact hl)
 rw[LW]at hb'
 refine Pc (xf (f:=f) I.kIn M.makes M.init (beq_iff_eq.mp M.fn) (MG (F.run _ X.stack _ _ ⟨KJ (s.heap.objs.size+1)::us,[]⟩ (KJ (s.heap.objs.size+1)::us) _ _ (E σ) (hr.make C us [])
  (I2.env0.make C us []) hb' r2 hq) fun r s' hq'=>?_))
 cases r with
 |error e=>exact hx pins σ _ _ e s' I2 hq'
 |ok fl=>
  cases fl with
  |ret u=>
   obtain⟨v,H',I3,rv,ev,q3⟩:=I2.after hq'
   subst ev
   exact⟨rv,⟨V.ref (s.heap.objs.size+1),H',I3,rfl,q3⟩⟩
  |next=>exact Ll hq'
  |brk=>exact Ll hq'
  |cont=>exact Ll hq'
theorem AG (M:Mk X.K C f)(F:aL X.prog X.w X.K X.mg X.base CX k f fd ps sp)(hr:bc (k+1) X.A)(hm:X.mg x=some (.ref C))(hb:br X.K fd ps [])(hx:dR CX X E)(ha:QA X (e::es) t)
  (hg:Gl X x:=by rfl)(hdb:(x==("__debug__":Str))=false:=by decide)(hs:aU (e::es)=true:=by rfl):QE X (.Call (.Name x p) (e::es) [] pos) (mE C sp E t):=⟨fun pins s σ H Q I h=>by
 have h':(bA e&&aU es)=true:=hs
 refine LF (eY I hg hm ?_ hdb)
 refine PD (h₀:=X.base) I.ok.mod.kin M.kp (thn (ha.out pos pins s σ H _ I h) fun us s1 ⟨vs,H1,I1,r,q⟩=>⟨I1.kIn,?_⟩) (aP (KD.mp h').1 es X.env) (bv (KD.mp h').2)
 exact nR M F hr hb hx I1 r q⟩
theorem yz (M:Mk X.K C f)(F:aL X.prog X.w X.K X.mg X.base CX k f fd ps sp)(hr:bc (k+1) X.A)(hm:X.mg x=some (.ref C))(hb:br X.K fd ps [])(hx:dR CX X E)
  (hg:Gl X x:=by rfl)(hdb:(x==("__debug__":Str))=false:=by decide):QE X (.Call (.Name x p) [] [] pos) (mE C sp E am):=⟨fun pins s σ H Q I h=>by
 refine LF (eY I hg hm ?_ hdb)
 exact Sl I.kIn M.kp (nR (us:=[]) M F hr hb hx I .nil h)⟩
end
mutual
inductive dF (K:tx)(H:Hp):V→Tt→Prop
 |non:dF K H .non .none
 |bl (b):dF K H (.bl b) (.bool b)
 |int (i):dF K H (.int i) (.int i)
 |str (z):dF K H (.str z) (.str z)
 |lst {a xs ds}:SqL K H a xs→DatVs K H xs ds→dF K H (.ref a) (.list ds)
 |tup {a xs ds}:SqT K H a xs→DatVs K H xs ds→dF K H (.ref a) (.tuple ds)
inductive DatVs (K:tx)(H:Hp):List V→List Tt→Prop
 |nil:DatVs K H [] []
 |cons {x xs d ds}:dF K H x d→DatVs K H xs ds→DatVs K H (x::xs) (d::ds)
end
section
variable {X:Cx}
mutual
theorem cn {pins:List (Addr×Obj)}{σ:St}{H:Hp}{s:Ky}(I:Inv X pins σ H s):∀{x:V}{d:Tt},dF X.K H x d→∀{v:Gt},aK x v→∃as,Reads s.heap v d as
 |_,_,.non,_,r=>by cases r;exact⟨_,.none⟩
 |_,_,.bl b,_,r=>by cases r;exact⟨_,.bool b⟩
 |_,_,.int i,_,r=>by obtain⟨t,rfl⟩:=r;exact⟨_,.int i t⟩
 |_,_,.str z,_,r=>by obtain⟨t,rfl⟩:=r;exact⟨_,.str z t⟩
 |_,_,.lst h hs,_,r=>by
  cases r
  obtain⟨its,r1,⟨o,n,h1,h2,_,h3⟩,_⟩:=I.list h
  obtain⟨as,ra⟩:=datVs_reads I hs r1
  exact⟨_,.list h1 h2 h3 (by simpa using ra)⟩
 |_,_,.tup h hs,_,r=>by
  cases r
  obtain⟨its,r1,⟨o,h1,h2,n,h3⟩,_⟩:=I.tuple h
  obtain⟨as,ra⟩:=datVs_reads I hs r1
  exact⟨_,.tuple h1 h2 h3 (by simpa using ra)⟩
theorem datVs_reads {pins:List (Addr×Obj)}{σ:St}{H:Hp}{s:Ky}(I:Inv X pins σ H s):∀{xs:List V}{ds:List Tt},DatVs X.K H xs ds→∀{vs:List Gt},aO xs vs→∃as,ReadsAll s.heap vs ds as
 |_,_,.nil,_,r=>by cases r;exact⟨_,.nil⟩
 |_,_,.cons h hs,_,r=>by
  cases r with
  |cons r1 r2=>
   obtain⟨as,a⟩:=cn I h r1
   obtain⟨bs,b⟩:=datVs_reads I hs r2
   exact⟨_,.cons a b⟩
end
def tT (K:tx):R2:=fun x y H Q=>∃d e,dF K H x d∧dF K H y e∧d.canLay0=true∧e.canLay0=true∧d.depth≤150∧Q (.bl (d.eqv e)) H
def ym (K:tx):R2:=fun x y H Q=>∃d e,dF K H x d∧dF K H y e∧d.canLay0=true∧e.canLay0=true∧d.depth≤150∧Q (.bl (!d.eqv e)) H
theorem Ex (hu:X.A.units+150<cLine):OpR X (compareOp .Eq) (tT X.K):=by
 intro pins s σ H x y v u Q I rx ry h
 obtain⟨d,e,hd,he,cd,ce,dp,q⟩:=h
 obtain⟨as,ra⟩:=cn I hd rx
 obtain⟨bs,rb⟩:=cn I he ry
 exact PySem.SeqAt.compareEq_reads ra rb cd ce (by have:=Uk d.depth e.depth;omega) ⟨.bl _,H,I,rfl,q⟩
theorem BI (hu:X.A.units+150<cLine):OpR X (compareOp .NotEq) (ym X.K):=by
 intro pins s σ H x y v u Q I rx ry h
 obtain⟨d,e,hd,he,cd,ce,dp,q⟩:=h
 obtain⟨as,ra⟩:=cn I hd rx
 obtain⟨bs,rb⟩:=cn I he ry
 exact PySem.SeqAt.compareNe_reads ra rb cd ce (by have:=Uk d.depth e.depth;omega) ⟨.bl _,H,I,rfl,q⟩
theorem bc.units150 {k:Nat}{A:Lj}(r:bc k A):A.units+150<cLine:=by have:=r.un;omega
def gB (K:tx):R2:=fun x y H Q=>match x,y with
 |.ref a,y=>ym K (.ref a) y H Q
 |x,.ref b=>ym K x (.ref b) H Q
 |x,y=>mNe x y H Q
theorem kK (hu:X.A.units+150<cLine):OpR X (compareOp .NotEq) (gB X.K):=((BI hu).or oNe).imp fun x y H Q q=>by
 unfold gB at q
 split at q
 ·exact .inl q
 ·exact .inl q
 ·exact .inr q
def uP:V→List V→Hp→VK→Prop:=fun x vs H Q=>match x,vs with|.int i,[]=>Q (.int (MH i)) H|_,_=>False
theorem Bl:MtR X "int.bit_length" uP:=by
 intro pins s σ H x xs v us Q I rx rs q
 unfold uP at q
 split at q
 ·obtain⟨t,rfl⟩:=rx
  cases rs
  exact call_int_bit_length ⟨.int _,H,I.tok _,⟨_,rfl⟩,q⟩
 ·exact q.elim
def yo:List V→Hp→VK→Prop:=fun xs H Q=>match xs with|[.int i,.int j]=>Q (.int (if j<i then j else i)) H|_=>False
theorem Kr (hc:X.calm=true):bC X (.builtin "min") yo:=fun pins s σ H xs us Q I r q=>by
 unfold yo at q
 split at q
 ·exact wK hc pins s σ H _ us Q I r ⟨_,_,rfl,q⟩
 ·exact q.elim
variable {o:Expr}{to:TE}{name:Str}{apos cpos:Pos}{T id:String}{rm:V→List V→Hp→VK→Prop}
theorem Hz (pa:Rb T)(slot:Slot T name id)(hty:typeOf (.builtin id)=pure (.type "method_descriptor"))(hm:MtR X id rm)(ho:QE X o to)
 (hbase:attributeBase o name X.env (eval o X.env)=eval o X.env:=by rfl)(hline:(apos.endLine==cpos.line)=true:=by rfl):QE X (.Call (.Attribute o name apos) [] [] cpos) (yx X.K T rm to):=⟨CV pa slot hty hm ho.out hbase hline⟩
end
theorem wv:(("":String):Str)=MP:=by decide
theorem Ad:∀xs:List Str,Str.join "" xs=xs.foldr (· ++ ·) MP
 |[]=>rfl
 |[x]=>(TQ x).symm
 |x::y::r=>by
  show x++(("":String):Str)++Str.join "" (y::r)=x++(y::r).foldr (· ++ ·) MP
  rw[Ad (y::r),wv,TQ]
theorem nO (xs:List Str):Txt.join "" xs=xs.foldr (·++·) MP:=(TD (join_plain_closes "" xs)).trans (Ad xs)
theorem qQ:∀xs:List Str,(xs.foldr (· ++ ·) MP).length=(xs.map (·.length)).sum
 |[]=>by decide
 |x::r=>by
  show(x++r.foldr (· ++ ·) MP).length=_
  rw[Nu,qQ r,Lm,NO]
theorem aF {n:Nat}(h:n≤1000000):n≤sizeLine:=by rw[Mt];omega
theorem FZ (k:Nat):((2^k:Nat):Int)=(2:Int)^k:=by simp
theorem Jh {K:tx}{H:Hp}{Q:VK}{p:Addr}{xs:List V}{i:Int}(hp:H p=some (.lst xs))(h0:0≤i)(h1:i<xs.length)(q:∀v∈xs,Q v H):rIx K (.ref p) (.int i) H Q:=by
 refine .inl ⟨p,xs,i,_,rfl,rfl,SqL.of hp,qY h0 h1,q _ ?_⟩
 have h2:i.toNat<xs.length:=by omega
 rw[Lb,KB h2];exact OY h2
theorem wM {α:Type}{xs:List α}{i:Int}(h0:0≤i)(h1:i<xs.length):∃c,atI xs i=some c:=by
 unfold atI ixN
 rw[if_pos h0,if_pos h1]
 have:i.toNat<xs.length:=by omega
 exact⟨xs[i.toNat],by show xs[i.toNat]?=_;rw[KB this]⟩
theorem lC:∀(xs:List Str),(∀x∈xs,x.length=1)→(xs.map (·.length)).sum=xs.length
 |[],_=>rfl
 |x::r,h=>by
  rw[Lm,NO,LO,lC r fun y hy=>h y (KQ _ hy),h x Lv];omega
theorem xa {p:Prop}[Decidable p]{a b:Prop}(h1:p→a)(h2:¬p→b):if decide p=true then a else b:=by
 by_cases h:p
 ·rw[if_pos (decide_eq_true h)];exact h1 h
 ·rw[if_neg (by rw[decide_eq_false h];decide)];exact h2 h
theorem xt (xs:List Str)(h:∀x∈xs,x.length=1):(Txt.join "" xs).length=xs.length:=by rw[nO,qQ,lC xs h]
section
variable {X:Cx}
theorem bc.units1 {k:Nat}{A:Lj}(r:bc k A):A.units+1<cLine:=by have:=r.un;omega
def Do:R2:=fun x y H Q=>∃a v,x=.ref a∧cB H a y (some v)∧Q v H
theorem Be (hu:X.A.units+1<cLine):IxR X Do:=by
 intro value slice pins s σ H x y v u Q I rx ry h hs
 obtain⟨a,w0,rfl,g,q⟩:=h
 obtain rfl:v=KJ a:=rx
 have hT:=rH I g
 have h2:wpAny (model X.prog X.w) X.A (getItem (.ref a) u) (EP X pins σ Q) X.xe s:=vM hu I g ry fun w' s3 I3 rw'=>⟨w0,H,I3,rw',q⟩
 unfold subscriptTail
 refine cW ?_
 rw[getitemInPython_of_ne hT.not_modules]
 refine cW (Nm hT PySem.F.slot_dict_getitem.lookup ?_)
 have fin:wpAny (model X.prog X.w) X.A (subscripted slice false (.ref a) u) (fun r s₃=>wpAny (model X.prog X.w) X.A (letTemporaryGo value (.ref a) r>>=fun _=>pure r) (EP X pins σ Q) X.xe s₃) X.xe s:=by
  rw[hs]
  exact wpAny_operating (Le h2 (fun r s₃ h₃=>cW (wpAny_letTemporaryGo (If h₃))) fun _ _ x=>x)
 first
  |exact If (cW fin)
  |exact cW (If (cW fin))
  |exact cW fin
def aD (K:tx):R2:=fun x y H Q=>rIx K x y H Q∨Do x y H Q
theorem ay (hu:X.A.units+1<cLine):IxR X (aD X.K):=Ew.or (Be hu)
def zK:V→V→V→Hp→(Hp→Prop)→Prop:=fun o i v H Q=>∃a H',o=.ref a∧jj H a i v H'∧Q H'
theorem wW (hu:X.A.units+1<cLine):uH X zK:=by
 intro pins s σ H o i v ov iv u Q I ro ri rv h
 obtain⟨a,H',rfl,g,q⟩:=h
 obtain rfl:ov=KJ a:=ro
 exact vC hu I g ri rv fun s4 I4=>⟨H',I4,q⟩
def ir:V→V→V→Hp→(Hp→Prop)→Prop:=fun o i v H Q=>zv o i v H Q∨zK o i v H Q
theorem Bk (hu:X.A.units+1<cLine):uH X ir:=by
 intro pins s σ H o i v ov iv u Q I ro ri rv h
 rcases h with h|h
 ·exact xO pins s σ H o i v ov iv u Q I ro ri rv h
 ·exact wW hu pins s σ H o i v ov iv u Q I ro ri rv h
variable {o e:Expr}{to te:TE}{p pos:Pos}
theorem fL {ti:TE}{i:Expr}(hu:X.A.units+1<cLine)(ho:QE X o to)(hi:QE X i ti)(he:QE X e te)(hs:swapsWithSole [.Subscript o i p] e pos.line X.env=pure false:=by rfl)(hw:swappedStores [.Subscript o i p] e X.env=pure none:=by rfl)(ha:∀v,assign (.Subscript o i p) X.env v=(do let ov←holding [v] (eval o X.env);let iv←holding [v,ov] (eval i X.env);standAt p;holding [v,ov,iv] (setItem ov iv v);release [v,ov,iv] []):=by intro _;rfl):QS X (.Assign [.Subscript o i p] e pos) (aC te (kM to ti ir)):=⟨mn he.out (EO ho.out hi.out (Bk hu) ha) hs hw⟩
def Eu:R2:=fun y x H Q=>∃a o,x=.ref a∧cB H a y o∧Q (.bl o.isSome) H
theorem Dg (hu:X.A.units+1<cLine):OpR X (compareOp .In) Eu:=by
 intro pins s σ H x y v u Q I rx ry h
 obtain⟨a,ov,rfl,g,q⟩:=h
 obtain rfl:u=KJ a:=ry
 exact Ko hu I g rx fun s3 I3=>⟨.bl ov.isSome,H,I3,rfl,q⟩
def sG:R2:=fun y x H Q=>∃a o,x=.ref a∧cB H a y o∧Q (.bl (!o.isSome)) H
theorem wF (hu:X.A.units+1<cLine):OpR X (compareOp .NotIn) sG:=by
 intro pins s σ H x y v u Q I rx ry h
 obtain⟨a,ov,rfl,g,q⟩:=h
 obtain rfl:u=KJ a:=ry
 exact Bs hu I g rx fun s3 I3=>⟨.bl (!ov.isSome),H,I3,rfl,q⟩
def Ej (K:tx):R2:=fun y x H Q=>∃d ds,dF K H y d∧(dF K H x (.list ds)∨dF K H x (.tuple ds))∧Nc ds=true∧d.canLay0=true∧d.depth≤140∧Q (.bl (ds.any fun e=>e.eqv d)) H
def sy (K:tx):R2:=fun y x H Q=>∃d ds,dF K H y d∧(dF K H x (.list ds)∨dF K H x (.tuple ds))∧Nc ds=true∧d.canLay0=true∧d.depth≤140∧Q (.bl (!ds.any fun e=>e.eqv d)) H
theorem Et (hu:X.A.units+150<cLine):OpR X (compareOp .In) (Ej X.K):=by
 intro pins s σ H x y v u Q I rx ry h
 obtain⟨d,ds,hd,hx,c1,c2,dp,q⟩:=h
 obtain⟨as,ra⟩:=cn I hd rx
 have hm:X.A.units+1+min (Mg ds) d.depth<cLine:=by have:=QL (Mg ds) d.depth;omega
 rcases hx with hx|hx
 ·obtain⟨bs,rb⟩:=cn I hx ry
  exact PySem.SeqAt.in_list_reads rb ra c1 c2 hm ⟨.bl _,H,I,rfl,q⟩
 ·obtain⟨bs,rb⟩:=cn I hx ry
  exact PySem.SeqAt.in_tuple_reads rb ra c1 c2 hm ⟨.bl _,H,I,rfl,q⟩
theorem wk (hu:X.A.units+150<cLine):OpR X (compareOp .NotIn) (sy X.K):=by
 intro pins s σ H x y v u Q I rx ry h
 obtain⟨d,ds,hd,hx,c1,c2,dp,q⟩:=h
 obtain⟨as,ra⟩:=cn I hd rx
 have hm:X.A.units+1+min (Mg ds) d.depth<cLine:=by have:=QL (Mg ds) d.depth;omega
 rcases hx with hx|hx
 ·obtain⟨bs,rb⟩:=cn I hx ry
  exact PySem.SeqAt.notIn_list_reads rb ra c1 c2 hm ⟨.bl _,H,I,rfl,q⟩
 ·obtain⟨bs,rb⟩:=cn I hx ry
  exact PySem.SeqAt.notIn_tuple_reads rb ra c1 c2 hm ⟨.bl _,H,I,rfl,q⟩
def yj (K:tx):R2:=fun y x H Q=>match y,x with
 |y,.ref a=>Eu y (.ref a) H Q∨Ej K y (.ref a) H Q
 |y,x=>ze y x H Q
theorem IZ (hu:X.A.units+150<cLine):OpR X (compareOp .In) (yj X.K):=((Dg (by omega)).or ((Et hu).or IX)).imp fun x y H Q q=>by
 unfold yj at q
 split at q
 ·exact q.elim .inl fun z=>.inr (.inl z)
 ·exact .inr (.inr q)
def fM (K:tx):R2:=fun y x H Q=>sG y x H Q∨sy K y x H Q
theorem iO (hu:X.A.units+150<cLine):OpR X (compareOp .NotIn) (fM X.K):=(wF (by omega)).or (wk hu)
def gZ:TE:=fun σ H Q=>wl σ H Q∨wc σ H Q
theorem gU:QE X (.Dict [] [] pos) gZ:=⟨fun pins s σ H Q I h=>h.elim (yT pins s σ H Q I) (zg pins s σ H Q I)⟩
theorem vO:bC X (.builtin "len") (fun xs H Q=>∃p kvs,xs=[.ref p]∧H p=some (.dT kvs)∧Q (.int kvs.length) H):=by
 intro pins s σ H xs us Q I r h
 obtain⟨a,kvs,rfl,e,q⟩:=h
 obtain⟨u,rfl,r1⟩:=eN r
 cases r1
 obtain⟨z,hd,ps,rel,dd⟩:=tE I.hok e
 have hl:ps.length=kvs.length:=(Paired.length rel).symm
 have hT:s.TypeIs (.ref a) "dict":=dd.typeIs
 obtain⟨o,es,ep,ho,hc,hdat,he,his,hn⟩:=dd
 have hsz:es.size=kvs.length:=by rw[←hl];have:=congrArg PX he;simpa using this
 have M:MeetsIn X.prog X.w (NS.«dict.__len__» ⟨[.ref a],[]⟩) (fun _ R s=>s.heap.get? a=some o∧R (.ok (.ret (.int kvs.length s.toks))) {s with toks:=s.toks+1}):=
  .of_wp fun A R s ⟨ho,h⟩=>by
   show wpAny _ _ (dictSize a>>=_) _ _ s
   unfold dictSize
   refine cW (cW (Oj ho hdat (If ?_)))
   show wpAny _ _ (Builtin.Dict.pendingCount a>>=_) _ _ s
   refine cW (wpAny_pendingCount_other hd ?_)
   refine wpAny_ret_mkInt ?_
   rw[Nat.add_zero,hsz];exact h
 refine Calls.call_function_entry kind_len plain_len entry_len (args_len1 _) ?_
 unfold NS.«len»
 refine cW (m:=oneArg "len" _) (If ?_)
 refine cW (m:=callSpecial? (.ref a) (Mf "__len__")) (LA (name:=Mf "__len__") hT UN
  (Qa UN hT F.entry_dict_len (F.args_dict_len_1 _) M ⟨ho,?_⟩))
 show wpAny _ _ _ _ _ {s with toks:=s.toks+1}
 refine cW (Ms (If ?_))
 refine cW (RM ?_)
 have zz:kvs.length≤sizeLine:=z
 rw[Mt]at zz
 show wpAny _ _ (if ((kvs.length:Nat):Int)<0 then _ else _) _ _ _
 rw[if_neg (by omega)]
 show wpAny _ _ (if ((kvs.length:Nat):Int)≥2^63 then _ else _) _ _ _
 rw[if_neg (by omega)]
 exact cW (Ua (If ⟨_,rfl,⟨.int kvs.length,H,I.tok _,⟨_,rfl⟩,q⟩⟩))
def ck (K:tx):List V→Hp→VK→Prop:=fun xs H Q=>Eb K xs H Q∨∃p kvs,xs=[.ref p]∧H p=some (.dT kvs)∧Q (.int kvs.length) H
theorem cA:bC X (.builtin "len") (ck X.K):=Kw.or vO
def CI (H:Hp)(a:Addr)(y d:V)(r:V)(H':Hp):Prop:=(cB H a y (some r)∧H'=H)∨(cB H a y none∧jj H a y d H'∧r=d)
theorem fB {A:Lj}{E:Gt→Ky→Prop}{s:Ky}{P:KS}{w:LI}{K:Type}[DecidableEq K]{knd:HeapKind P w K}{d a:Addr}{xs:List (K×Addr×Gt)}{k:K}{v:Gt}{Q:Gt→Ky→Prop}(hu:knd.room A)(hkey:knd.is s.heap k a)(hm:s.heap.DictOfH knd d xs)
  (hthere:∀p,atKey xs k=some p→Q p.2 {s with toks:=s.toks+knd.draws k})
  (hQ:atKey xs k=none→∀h',h'.DictOfH knd d (storedH xs k a v)→MK d s.heap h'→Q v {s with heap:=h',toks:=s.toks+knd.draws k})
  (hsz:xs.length≤sizeLine):
  wpAny (model P w) A (dictSetDefault d (.ref a) v) Q E s:=by
 obtain⟨o,es,ep,ho,hc,hd,he,his,hn⟩:=hm
 unfold dictSetDefault
 try with_reducible refine Ms ?_
 refine cW (knd.pyHash hu hkey ?_)
 refine cW (wpAny_dictFind_heap (s:={s with toks:=s.toks+knd.draws k}) hu hkey ho hd he his hn ?_ ?_)
 ·intro hno
  have hnot:k∉xs.map (·.1):=not_mem_keys_of_get hno
  refine cW (OF (cW (wpAny_updateDictKeys (hz:=by have e:=size_of_entries he;omega) (s:={s with toks:=s.toks+knd.draws k}) ho hd (If (hQ (Pd hno) _ ⟨_,_,ep+1,Ls _ ho (Obj.isFreed_of_dict (SC hd _)),
   hc.mapDictKeys _,SC hd _,?_,?_,?_⟩ (MZ ..))))))
  ·rw[Ub (Pd hno)]
   simp[he,entryOfKey]
  ·rw[Ub (Pd hno)]
   intro x hx
   rcases LY.mp hx with hx|hx
   ·exact knd.keeps (his x hx) ho hd (MZ ..)
   ·simp only[KW]at hx
    subst hx
    exact knd.keeps hkey ho hd (MZ ..)
  ·rw[Ub (Pd hno)]
   rw[Lc,List.nodup_append]
   refine⟨hn,by simp,?_⟩
   intro x hx y hy
   simp only[Lm,Qw,KW]at hy
   subst hy
   exact fun e=>hnot (e▸hx)
 ·intro j p hj
  refine cW (Oj (s:={s with toks:=s.toks+knd.draws k}) ho hd ?_)
  rw[entry_at he j,hj]
  exact cW (OF (If (hthere p (atKey_of_get hn hj))))
end
theorem yX {h:Heap}{a:Addr}{its:Array Gt}(p:PlainL h a its):h.IsList a its:=let ⟨o,n,e,c,_,d⟩:=p;⟨o,e,c,n,d⟩
set_option genInjectivity false in
set_option genSizeOf false in
structure cV where
 qual:Str
 body:FuncBody
 scope:Scope
 ps:List Str
 ys:List Str
def lV (t:cV)(cs:List Addr)(c:Addr)(fd:KP):Prop:=
 fd.qualname=t.qual∧fd.body=t.body∧fd.scope=t.scope∧fd.globals=mainGlobals∧fd.closure=t.ys.zip cs∧fd.code=.ref c∧fd.builtins=builtinsNs∧
  (∀us:List Gt,us.length=t.ps.length→bindArgs fd ⟨us,[]⟩=pure (t.ps.zip us))∧cs.Nodup∧cs.length=t.ys.length
def cJ (f:Addr)(t:cV)(cs:List Addr)(c:Addr):HO:=.ext fun h=>∃od fd sl,h.get? f=some ⟨.type "function",od,.func fd,sl⟩∧lV t cs c fd
def bT (c:Addr)(qual:Str):HO:=.ext fun h=>∃o vs tk,h.get? c=some o∧o.data=.fields vs∧vs[1]?=some (.str qual tk)
def bw (c:Addr)(v:V):HO:=.ext fun h=>∃u o,aK v u∧h.get? c=some o∧o.data=.cell (some u)
abbrev cE (H:Hp):List Addr→List V→Prop:=Paired fun c v=>H c=some (bw c v)
structure dh (H:Hp)(f:Addr)(t:cV)(cs:List Addr)(cvs:List V):Prop where
 ex:∃c,H f=some (cJ f t cs c)∧H c=some (bT c t.qual)
 cells:cE H cs cvs
theorem cE.mem {H:Hp}{cs:List Addr}{cvs:List V}(h:cE H cs cvs):∀c∈cs,∃v,H c=some (bw c v):=by
 induction h with
 |nil=>intro c hc;cases hc
 |cons r t ih=>
  intro c hc
  rcases KY.mp hc with rfl|hc
  ·exact⟨_,r⟩
  ·exact ih c hc
theorem cE.get {H:Hp}{cs:List Addr}{cvs:List V}(h:cE H cs cvs):∀{i:Nat}{v:V},cvs[i]? =some v→∃c,cs[i]? =some c∧H c=some (bw c v):=by
 induction h with
 |nil=>intro i v e;cases e
 | @cons c w cs ws r t ih=>
   intro i v e
   cases i with
   |zero=>cases e;exact⟨c,rfl,r⟩
   |succ i=>exact ih e
def cx (cs:List Addr)(H:Hp):Hp:=fun b=>if b∈cs then none else H b
def bX (cs:List Addr)(H H':Hp):Hp:=fun b=>if b∈cs then H b else H' b
theorem io {cs:List Addr}{H:Hp}{b:Addr}(h:b∈cs):cx cs H b=none:=if_pos h
theorem cK {cs:List Addr}{H:Hp}{b:Addr}(h:b∉cs):cx cs H b=H b:=if_neg h
theorem gW {cs:List Addr}{H H':Hp}{b:Addr}(h:b∈cs):bX cs H H' b=H b:=if_pos h
theorem bV {cs:List Addr}{H H':Hp}{b:Addr}(h:b∉cs):bX cs H H' b=H' b:=if_neg h
theorem vw {cs:List Addr}{H H':Hp}{d:Addr}{o:HO}(h:d∉cs):bX cs H (upd H' d o)=upd (bX cs H H') d o:=by
 funext b
 by_cases hb:b∈cs
 ·have:b≠d:=fun e=>h (e▸hb)
  rw[gW hb,ao this,gW hb]
 ·rw[bV hb]
  by_cases e:b=d
  ·subst e;rw[ai,ai]
  ·rw[ao e,ao e,bV hb]
theorem cE.notin {H:Hp}{cs:List Addr}{cvs:List V}(h:cE H cs cvs){b:Addr}{o:HO}(e:H b=some o)(hn:∀φ,o≠.ext φ):b∉cs:=fun hb=>by
 obtain⟨v,ev⟩:=h.mem b hb
 rw[e]at ev
 exact hn _ (KL ev)
theorem cE.hide {H:Hp}{cs:List Addr}{cvs:List V}(h:cE H cs cvs){b:Addr}{o:HO}(e:H b=some o)(hn:∀φ,o≠.ext φ):cx cs H b=some o:=by
 rw[cK (h.notin e hn)];exact e
theorem au.hide {H H':Hp}(cs:List Addr)(s:au (cx cs H) H'):au H (bX cs H H'):=fun b o e=>by
 by_cases hb:b∈cs
 ·rw[gW hb];exact e
 ·rw[bV hb];exact s _ _ (by rw[cK hb];exact e)
section
variable {P:KS}{w:LI}{fs:List Addr}{H H':Hp}{h h':Heap}{cs:List Addr}{cvs:List V}
theorem Az (hc:cE H cs cvs)(ok:HOk P w H h):HOk P w (cx cs H) h:=fun b o e=>by
 by_cases hb:b∈cs
 ·rw[io hb]at e;cases e
 ·rw[cK hb]at e
  exact(ok b o e).stay (fun c u _ q=>q) (fun c q=>hc.hide q fun φ z=>nomatch z) fun c xs q=>hc.hide q fun φ z=>nomatch z
theorem rZ (hc:cE H cs cvs)(hfs:∀b∈fs,H b=none)(ok:HOk P w H h)(u:Un fs [] (cx cs H) H' h h')(ok':HOk P w H' h'):Un fs [] H (bX cs H H') h h'∧HOk P w (bX cs H H') h':=by
 have obj:∀c∈cs,∃v o,H c=some (bw c v)∧h.get? c=some o∧h'.get? c=some o∧H' c=none:=fun c hm=>by
  obtain⟨v,ev⟩:=hc.mem c hm
  obtain⟨_,⟨o,eo⟩,_⟩:=(show aT P w H h c (bw c v)from ok c _ ev)
  refine⟨v,o,ev,eo,u.keep c o eo (io hm) (fun z=>?_) (by simp),u.free c o eo (io hm) (by simp)⟩
  rw[hfs c z]at ev;cases ev
 have nin:∀b,H b=none→b∉cs:=fun b e hb=>by
  obtain⟨v,ev⟩:=hc.mem b hb
  rw[e]at ev;cases ev
 have nin':∀b o,H' b=some o→b∉cs:=fun b o e hb=>by
  obtain⟨_,_,_,_,_,z⟩:=obj b hb
  rw[e]at z;cases z
 refine⟨⟨fun b o e n hb hx=>u.keep b o e (by rw[cK (nin b n)];exact n) hb hx,fun b o e n hb hx=>u.slot b o e (by rw[cK (nin b n)];exact n) hb hx,
  fun b o e n hx=>by rw[bV (nin b n)];exact u.free b o e (by rw[cK (nin b n)];exact n) hx,u.there,fun b xs e=>?_,fun b o v e=>?_,fun b ps e=>?_⟩,fun b o e=>?_⟩
 ·have hb:=hc.notin e fun φ z=>nomatch z
  rw[bV hb];exact u.tups b xs (by rw[cK hb];exact e)
 ·have hb:=hc.notin e fun φ z=>nomatch z
  rw[bV hb];exact u.frzs b o v (by rw[cK hb];exact e)
 ·have hb:=hc.notin e fun φ z=>nomatch z
  rw[bV hb];exact u.tbls b ps (by rw[cK hb];exact e)
 ·by_cases hb:b∈cs
  ·rw[gW hb]at e
   obtain⟨v,o',ev,e1,e2,_⟩:=obj b hb
   rw[e]at ev;cases ev
   obtain⟨φ1,_,φ3⟩:=(show aT P w H h b (bw b v)from ok b _ e)
   exact⟨φ3 h h' φ1 fun q hq=>by rw[e1]at hq;cases hq;exact e2,⟨o',e2⟩,φ3⟩
  ·rw[bV hb]at e
   exact(ok' b o e).stay (fun c u _ q=>q) (fun c q=>by rw[bV (nin' c _ q)];exact q) fun c xs q=>by rw[bV (nin' c _ q)];exact q
theorem CR.back {outer:List Env}{s s':Ky}{Q:VK}{E:XK}{r:Rj}(hc:cE H cs cvs)(hfs:∀b∈frs outer,H b=none)(ok:HOk P w H s.heap)
  (h:CR (CX1 P w) outer P w (cx cs H) s (fun v H'=>Q v (bX cs H H')) (fun c a H'=>E c a (bX cs H H')) r s'):CR (CX1 P w) outer P w H s Q E r s':=by
 cases r with
 |error e=>
  obtain⟨a,C,d,H',rfl,F,q⟩:=h
  obtain⟨u,k⟩:=rZ hc hfs ok F.un F.hok
  have na:a∉cs:=fun hb=>by
   obtain⟨v,ev⟩:=hc.mem a hb
   obtain⟨_,⟨o,eo⟩,_⟩:=(show aT P w H s.heap a (bw a v)from ok a _ ev)
   rw[F.new]at eo;cases eo
  obtain⟨oe,vs,a0,T,oT,ts,t1,t2,td,t3,t4,t5,t6,t7,t8,t9,t10,t11⟩:=F.tr
  have nT:T∉cs:=fun hb=>by
   obtain⟨v,ev⟩:=hc.mem T hb
   obtain⟨_,⟨o,eo⟩,_⟩:=(show aT P w H s.heap T (bw T v)from ok T _ ev)
   rw[t10]at eo;cases eo
  exact⟨a,C,d,_,rfl,⟨F.os,F.bare,u,k,F.new,by rw[bV na];exact F.free,⟨oe,vs,a0,T,oT,ts,t1,t2,td,t3,t4,t5,t6,t7,t8,t9,t10,by rw[bV nT];exact t11⟩⟩,q⟩
 |ok fl=>
  cases fl with
  |ret u=>
   obtain⟨v,H',os,bare,un,hok,rv,q⟩:=h
   obtain⟨u',k⟩:=rZ hc hfs ok un hok
   exact⟨v,_,os,bare,u',k,rv,q⟩
  |next=>exact Ll h
  |brk=>exact Ll h
  |cont=>exact Ll h
end
structure fq (P:KS)(w:LI)(K:tx)(mg:Str→Option Gt)(base:Heap)(k:Nat)(t:cV)(sp:Sp):Prop where
 run:∀(A:Lj)(outer:List Env)(s:Ky)(H:Hp)(f:Addr)(cs:List Addr)(us:List Gt)(vs cvs:List V)(Q:VK)(E:XK),bc k A→iI P w K mg base A outer s H→dh H f t cs cvs→aO vs us→vs.length=t.ps.length→
  sp (vs++cvs) (cx cs H) (fun v H'=>Q v (bX cs H H')) (fun c a H'=>E c a (bX cs H H'))→codeAny (model P w) A (.call (.ref f) ⟨us,[]⟩) (CR (CX1 P w) outer P w H s Q E) s
def dJ (N:List Str)(vs cvs:List V):St:=vs.map some++(Rq (N.length- vs.length- cvs.length) none++cvs.map some)
def gI (P:KS)(w:LI)(K:tx)(mg:Str→Option Gt)(base:Heap)(N:List Str)(qual:Str)(scope:Scope)(f c:Addr)(cl:List (Str×Addr))(A:Lj)(outer:List Env)(s:Ky)(H:Hp)(E:XK):Cx where
 prog:=P
 w:=w
 K:=K
 mg:=mg
 base:=base
 A:=A.deeper (Pm qual scope s.heap.objs.size f (.ref c) cl)
 N:=N
 s₀:=s
 H₀:=H
 env:=Pm qual scope s.heap.objs.size f (.ref c) cl
 outer:=outer
 stack:=Pm qual scope s.heap.objs.size f (.ref c) cl::outer
 ex:=[]
 calm:=true
 fn:=fun _=>false
 pn:=[]
 xe:=fun e s'=>wpAny (model P w) (A.deeper (Pm qual scope s.heap.objs.size f (.ref c) cl)) (leaving (Pm qual scope s.heap.objs.size f (.ref c) cl) e) (fun _ s''=>CX1 P w outer H s E e s'') (fun e' s''=>CX1 P w outer H s E e' s'') s'
structure eA (N ps ys:List Str)(sc:Scope):Prop where
 kind:sc.kind=.function
 co:sc.isCoroutine=false
 gen:sc.isGenerator=false
 nd:N.Nodup
 pre:N.take ps.length=ps
 suf:N.drop (N.length- ys.length)=ys
 le:ps.length+ys.length≤N.length
 par:∀x∈ps,sc.names.lookup x=some .local
 nocell:∀x∈sc.names,x.2≠.cell
 fr:∀x∈ys,sc.names.lookup x=some .free
 frs:∀y∈sc.names,y.2=.free→y.1∈ys
theorem mx {ys:List Str}{cs:List Addr}(hl:cs.length=ys.length)(nd:ys.Nodup):∀{i:Nat}{y:Str}{c:Addr},ys[i]? =some y→cs[i]? =some c→(ys.zip cs).lookup y=some c:=by
 induction ys generalizing cs with
 |nil=>intro i y c e;cases e
 |cons a r ih=>
  intro i y c e1 e2
  cases cs with
  |nil=>cases e2
  |cons b cs=>
   cases i with
   |zero=>cases e1;cases e2;show(My _ ((_,_)::_))=_;rw[MT];simp
   |succ i=>
    have hne:y≠a:=fun e=>(MD.mp nd).1 (e▸KM (show r[i]? =some y from e1))
    show(My y ((a,b)::r.zip cs))=_
    rw[MT,show(y==a)=false from by simpa using hne]
    exact ih (by simpa using hl) (MD.mp nd).2 (show r[i]? =some y from e1) (show cs[i]? =some c from e2)
theorem gq {ys:List Str}{cs:List Addr}:∀{y:Str}{c:Addr},(ys.zip cs).lookup y=some c→∃i:Nat,ys[i]? =some y∧cs[i]? =some c:=by
 induction ys generalizing cs with
 |nil=>intro y c e;cases e
 |cons a r ih=>
  intro y c e
  cases cs with
  |nil=>cases e
  |cons b cs=>
   have e:(My y ((a,b)::r.zip cs))=some c:=e
   rw[MT]at e
   by_cases hy:(y==a)=true
   ·rw[hy]at e;cases e;exact⟨0,by simpa using(TD hy).symm,rfl⟩
   ·rw[show(y==a)=false from by simpa using hy]at e
    obtain⟨i,h1,h2⟩:=ih e
    exact⟨i+1,h1,h2⟩
theorem nQ {ps:List Str}{us:List Gt}(nd:ps.Nodup):∀{i:Nat}{x:Str}{u:Gt},ps[i]? =some x→us[i]? =some u→(ps.zip us).reverse.lookup x=some u:=by
 induction ps generalizing us with
 |nil=>intro i x u e;cases e
 |cons a r ih=>
  intro i x u e1 e2
  cases us with
  |nil=>cases e2
  |cons b us=>
   show(My x ((a,b)::r.zip us).reverse)=_
   rw[NZ,List.lookup_append]
   cases i with
   |zero=>
    cases e1;cases e2
    have:(r.zip us).reverse.lookup a=none:=by
     rw[List.lookup_eq_none_iff]
     intro p hp
     have:=(MC (QB.mp hp)).1
     simp only[beq_eq_false_iff_ne,ne_eq,bne_iff_ne]
     intro e
     exact(MD.mp nd).1 (by rw[←e]at this;exact this)
    rw[this];simp
   |succ i=>
    rw[ih (MD.mp nd).2 (show r[i]? =some x from e1) (show us[i]? =some u from e2)];rfl
section
variable {P:KS}{w:LI}{K:tx}{mg:Str→Option Gt}{base:Heap}{N ps ys:List Str}{qual:Str}{scope:Scope}{f c:Addr}{A:Lj}{outer:List Env}{s:Ky}{H:Hp}{E:XK}{us:List Gt}{vs cvs:List V}{cs:List Addr}{h1:Heap}{tk:Nat}
theorem sf (S:eA N ps ys scope)(hd:A.handled=none)(e0:iI P w K mg base A outer s H)(ca:cE H cs cvs)(hcs:cs.Nodup)(hcl:cs.length=ys.length)(hl:vs.length=ps.length)(r:aO vs us)
  (hns:h1.Ns s.heap.objs.size (fun x=>(ps.zip us).reverse.lookup x))(hk:∀b o,s.heap.get? b=some o→h1.get? b=some o):
  Inv (gI P w K mg base N qual scope f c (ys.zip cs) A outer s (cx cs H) E) [] (dJ N vs cvs) (cx cs H) {s with heap:=h1,toks:=tk}:=by
 have ndY:ys.Nodup:=by rw[←S.suf];exact S.nd.sublist (List.drop_sublist _ _)
 have ndP:ps.Nodup:=by rw[←S.pre];exact S.nd.sublist (Th _ _)
 have lcv:cvs.length=ys.length:=by rw[←hcl];exact(Paired.length ca).symm
 have cellOf:∀c∈cs,∃v,h1.IsCell c v:=fun c hm=>by
  obtain⟨v,ev⟩:=ca.mem c hm
  obtain⟨⟨u,o,_,eo,hd⟩,_,_⟩:=(show aT P w H s.heap c (bw c v)from e0.hok c _ ev)
  exact⟨_,o,hk _ _ eo,hd⟩
 have memC:∀x c,(ys.zip cs).lookup x=some c→c∈cs:=fun x c e=>by
  obtain⟨i,_,e2⟩:=gq e
  exact KM e2
 have noA:∀b:Addr,b∉(gI P w K mg base N qual scope f c (ys.zip cs) A outer s (cx cs H) E).ex:=fun b z=>absurd (show b∈([]:List Addr)from z) (by simp)
 have hid:∀b,H b=none→cx cs H b=none:=fun b e=>by
  by_cases hb:b∈cs
  ·exact io hb
  ·rw[cK hb];exact e
 refine⟨⟨e0.mod,S.kind,rfl,rfl,KA _,fun y z c h1 h2=>?_,fun y hy=>?_,fun y c hf _=>?_,fun _=>hd,RQ e0.frames,.inr ⟨rfl,rfl⟩,fun b z=>absurd z (noA b),fun b o e=>⟨(e0.bs b o e).1,hid b (e0.bs b o e).2⟩,e0.bsz,fun b _ _=>noA b,fun b z=>absurd z (noA b),e0.funs,fun b hb=>hid b (e0.frf b hb)⟩,
  rfl,e0.bare,Un.kept hk,⟨_,hns,fun i y v q1 q2 q3=>?_⟩,fun y c h=>cellOf c (memC y c h),hid _ (e0.hok.fresh (KA _)),fun y c h=>io (memC y c h),fun p hp=>absurd (show p∈([]:List (Addr×Obj))from hp) (by simp),(Az ca e0.hok).kept hk,?_⟩
 ·obtain⟨i,e1,e2⟩:=gq (show(ys.zip cs).lookup y=some c from h1)
  obtain⟨j,e3,e4⟩:=gq (show(ys.zip cs).lookup z=some c from h2)
  have:i=j:=by
   obtain⟨a1,b1⟩:=KC.mp e2
   obtain⟨a2,b2⟩:=KC.mp e4
   exact(TB hcs).mp (b1.trans b2.symm)
  subst this
  rw[e1]at e3;exact KL e3
 ·have hy:scope.names.lookup y=some .cell∨scope.names.lookup y=some .free:=hy
  rcases hy with hy|hy
  ·exact absurd rfl (S.nocell _ (Mw hy))
  ·obtain⟨i,hi,e⟩:=Sv.mp (S.frs _ (Mw hy) rfl)
   have hi2:i<cs.length:=by omega
   exact⟨cs[i],mx hcl ndY (KC.mpr ⟨hi,e⟩) (KB hi2)⟩
 ·exact absurd (show false=true from hf) KN
 ·unfold dJ at q2
  by_cases hi:i<vs.length
  ·rw[LN (by simpa using hi),La]at q2
   have ha:vs[i]?=some v:=by
    cases e:vs[i]? with
    |none=>rw[e]at q2;cases q2
    |some a=>rw[e]at q2;cases q2;rfl
   obtain⟨u,hu,rv⟩:=r.get ha
   have hp:ps[i]?=some y:=by
    rw[←S.pre,RC (by omega)];exact q1
   exact⟨u,rv,.inl ⟨S.par y (KM hp),nQ ndP hp hu⟩⟩
  ·rw[LU (by simpa using hi),Kz]at q2
   by_cases hj:i- vs.length<N.length- vs.length- cvs.length
   ·rw[LN (by simpa using hj),RI]at q2
    split at q2<;>cases q2
   ·rw[LU (by simpa using hj),Pt,La]at q2
    have ha:cvs[i- vs.length- (N.length- vs.length- cvs.length)]?=some v:=by
     cases e:cvs[i- vs.length- (N.length- vs.length- cvs.length)]? with
     |none=>rw[e]at q2;cases q2
     |some a=>rw[e]at q2;cases q2;rfl
    have hle:=S.le
    have hiN:i<N.length:=(KC.mp q1).1
    have hx:i- vs.length- (N.length- vs.length- cvs.length)=i- (N.length- ys.length):=by omega
    rw[hx]at ha
    have hy:ys[i- (N.length- ys.length)]?=some y:=by
     have e1:N.drop (N.length- ys.length)=ys:=S.suf
     have e2:(N.drop (N.length- ys.length))[i- (N.length- ys.length)]?=some y:=by
      rw[List.getElem?_drop]
      rw[show N.length- ys.length+(i- (N.length- ys.length))=i by omega];exact q1
     rw[e1]at e2;exact e2
    obtain⟨c,ec,hc⟩:=ca.get ha
    obtain⟨⟨u,o,ru,eo,hdo⟩,_,_⟩:=(show aT P w H s.heap c (bw c v)from e0.hok c _ hc)
    exact⟨u,ru,.inr ⟨.inr (S.fr y (KM hy)),c,mx hcl ndY hy ec,o,hk _ _ eo,hdo⟩⟩
 ·unfold dJ
  show _=N.length
  have:=S.le
  rw[KI,KI,Kz,Kz,Pt]
  omega
end
section
variable {P:KS}{w:LI}{K:tx}{mg:Str→Option Gt}{base:Heap}{k:Nat}{t:cV}{N:List Str}{sp:Sp}
theorem wJ {body:List Stmt}(hb:t.body=.stmts body)(S:eA N t.ps t.ys t.scope)
  (hbody:∀(f c:Addr)(cl:List (Str×Addr))(A:Lj)(outer:List Env)(s:Ky)(H:Hp)(vs cvs:List V)(Q:VK)(E:XK),bc k (A.deeper (Pm t.qual t.scope s.heap.objs.size f (.ref c) cl))→vs.length=t.ps.length→cvs.length=t.ys.length→sp (vs++cvs) H Q E→
   ∃td,PSs (gI P w K mg base N t.qual t.scope f c cl A outer s H E) body td∧td {nx:=fun _ H'=>Q .non H',rt:=Q} (dJ N vs cvs) H):fq P w K mg base (k+1) t sp:=by
 refine⟨fun A outer s H f cs us vs cvs Q E hr e0 ca r hl hsp=>?_⟩
 obtain⟨c,hf,hcc⟩:=ca.ex
 have KX:K.In s.heap:=e0.mod.kin.keeps fun b o e=>(e0.bs b o e).1
 have lim:s.heap.NoLimit:=e0.mod.nolimit.keeps fun b o e=>(e0.bs b o e).1
 obtain⟨⟨od,fd,sl,ho,h1,h2,h3,h4,h5,h6,h7,h8,h9,h10⟩,_,_⟩:=(show aT P w H s.heap f (cJ f t cs c)from e0.hok f _ hf)
 obtain⟨⟨o,vs',tk,hco,hdo,hv⟩,_,_⟩:=(show aT P w H s.heap c (bT c t.qual)from e0.hok c _ hcc)
 have hcd:s.heap.CodeRec fd.code fd.qualname:=⟨c,o,vs',tk,h6,hco,hdo,by rw[h1];exact hv⟩
 refine MG (Oo (R:=CR (CX1 P w) outer P w (cx cs H) s (fun v H'=>Q v (bX cs H H')) (fun c a H'=>E c a (bX cs H H'))) hr.depth ho rfl (by rw[h3];exact S.co) (by rw[h3];exact S.gen) (h2.trans hb) hcd ?_) fun r s' h=>CR.back ca.cells e0.frf e0.hok h
 rw[h8 us (by rw[←r.length];exact hl),h3,h4,h5,h1,h6,h7]
 refine If (Qj S.nocell (fun y hy=>S.par y.1 (MC hy).1) (fun h' hns hsb=>⟨lim.fresh _ hsb,?_⟩) S.kind)
 have hk:∀b o,s.heap.get? b=some o→h'.get? b=some o:=fun b o e=>hsb.extBut b o (KZ (KF e)) (gV _ e)
 have lcv:cvs.length=t.ys.length:=by rw[←h10];exact(Paired.length ca.cells).symm
 obtain⟨td,ht,hq⟩:=hbody f c (t.ys.zip cs) A outer s (cx cs H) vs cvs _ _ (hr.deeper _) hl lcv hsp
 have I:=sf (tk:=s.toks+(t.ps.zip us).length) (qual:=t.qual) (f:=f) (c:=c) (E:=fun c a H'=>E c a (bX cs H H')) S hr.hd e0 ca.cells h9 h10 hl r hns hk
 show codeAny _ _ (.func body (Pm t.qual t.scope s.heap.objs.size f (.ref c) (t.ys.zip cs))) _ _
 refine Ri ?_
 refine Le (ht [] _ (dJ N vs cvs) _ _ I hq) (fun fl s' hs=>?_) fun e s' hs=>hs
 cases fl with
 |ret u=>
  obtain⟨v,σ',H',J,rv,q⟩:=hs
  exact⟨v,H',J.os,J.bare,J.base,J.hok,rv,q⟩
 |next=>
  obtain⟨σ',H',J,q⟩:=hs
  exact⟨V.non,H',J.os,J.bare,J.base,J.hok,rfl,q⟩
 |brk=>
  obtain⟨_,_,_,q⟩:=hs
  exact Ll q
 |cont=>
  obtain⟨_,_,_,q⟩:=hs
  exact Ll q
theorem nE {body:Expr}(hb:t.body=.expr body)(S:eA N t.ps t.ys t.scope)
  (hbody:∀(f c:Addr)(cl:List (Str×Addr))(A:Lj)(outer:List Env)(s:Ky)(H:Hp)(vs cvs:List V)(Q:VK)(E:XK),bc k (A.deeper (Pm t.qual t.scope s.heap.objs.size f (.ref c) cl))→vs.length=t.ps.length→cvs.length=t.ys.length→sp (vs++cvs) H Q E→
   ∃te,PE (gI P w K mg base N t.qual t.scope f c cl A outer s H E) body te∧te (dJ N vs cvs) H Q):fq P w K mg base (k+1) t sp:=by
 refine⟨fun A outer s H f cs us vs cvs Q E hr e0 ca r hl hsp=>?_⟩
 obtain⟨c,hf,hcc⟩:=ca.ex
 have KX:K.In s.heap:=e0.mod.kin.keeps fun b o e=>(e0.bs b o e).1
 have lim:s.heap.NoLimit:=e0.mod.nolimit.keeps fun b o e=>(e0.bs b o e).1
 obtain⟨⟨od,fd,sl,ho,h1,h2,h3,h4,h5,h6,h7,h8,h9,h10⟩,_,_⟩:=(show aT P w H s.heap f (cJ f t cs c)from e0.hok f _ hf)
 obtain⟨⟨o,vs',tk,hco,hdo,hv⟩,_,_⟩:=(show aT P w H s.heap c (bT c t.qual)from e0.hok c _ hcc)
 have hcd:s.heap.CodeRec fd.code fd.qualname:=⟨c,o,vs',tk,h6,hco,hdo,by rw[h1];exact hv⟩
 refine MG (W.kla_callFunE (R:=CR (CX1 P w) outer P w (cx cs H) s (fun v H'=>Q v (bX cs H H')) (fun c a H'=>E c a (bX cs H H'))) hr.depth ho rfl (by rw[h3];exact S.co) (by rw[h3];exact S.gen) (h2.trans hb) hcd ?_) fun r s' h=>CR.back ca.cells e0.frf e0.hok h
 rw[h8 us (by rw[←r.length];exact hl),h3,h4,h5,h1,h6,h7]
 refine If (Qj S.nocell (fun y hy=>S.par y.1 (MC hy).1) (fun h' hns hsb=>⟨lim.fresh _ hsb,?_⟩) S.kind)
 have hk:∀b o,s.heap.get? b=some o→h'.get? b=some o:=fun b o e=>hsb.extBut b o (KZ (KF e)) (gV _ e)
 have lcv:cvs.length=t.ys.length:=by rw[←h10];exact(Paired.length ca.cells).symm
 obtain⟨te,ht,hq⟩:=hbody f c (t.ys.zip cs) A outer s (cx cs H) vs cvs _ _ (hr.deeper _) hl lcv hsp
 have I:=sf (tk:=s.toks+(t.ps.zip us).length) (qual:=t.qual) (f:=f) (c:=c) (E:=fun c a H'=>E c a (bX cs H H')) S hr.hd e0 ca.cells h9 h10 hl r hns hk
 show codeAny _ _ (.expr body (Pm t.qual t.scope s.heap.objs.size f (.ref c) (t.ys.zip cs))) _ _
 refine W.kla_codeExpr ?_
 refine Le (ht [] _ (dJ N vs cvs) _ _ I hq) (fun v s' hs=>?_) fun e s' hs=>hs
 obtain⟨x,H',J,rv,q⟩:=hs
 exact⟨x,H',J.os,J.bare,J.base,J.hok,rv,q⟩
end
def BM (mg:Str→Option Gt)(h:Heap):Prop:=∃bm ob,mg "__builtins__"=some (.ref bm)∧bm≠builtinsNs∧h.get? bm=some ob∧ob.cls=.type "module"∧ob.dict=some builtinsNs∧ob.data=.plain
section
variable {X:Cx}{pins:List (Addr×Obj)}{σ:St}{H:Hp}{s:Ky}{P c:Addr}{ps:Array Gt}{t:cV}{cs:List Addr}{h':Heap}{tk:Nat}{fd:KP}
theorem ql {more:Array Gt}(I:Inv X pins σ H s)(hP:H P=some (.tbl ps))(hx:QP P s.heap h')(hge:s.heap.objs.size≤c)(hlt:c<h'.objs.size)(hrec:h'.CodeRec (.ref c) t.qual)
  (htb:h'.get? P=some (Si (ps++more)))(hfd:lV t cs c fd):
  Inv X pins σ (upd (upd (upd H P (.tbl (ps++more))) c (bT c t.qual)) h'.objs.size (cJ h'.objs.size t cs c)) {s with heap:=h'.push {cls:=.type "function",data:=.func fd},toks:=tk}:=by
 have hcn:H c=none:=I.hok.fresh hge
 have hfn:H h'.objs.size=none:=I.hok.fresh (Mq (Mh hge hlt))
 have ncP:c≠P:=(av hP hcn).symm
 have nfP:h'.objs.size≠P:=(av hP hfn).symm
 have ncf:c≠h'.objs.size:=KZ hlt
 have old:∀b o,s.heap.get? b=some o→b≠c∧b≠h'.objs.size:=fun b o e=>⟨KZ (KU (KF e) hge),KZ (KU (KF e) (Mq (Mh hge hlt)))⟩
 have keepP:∀b o,b≠P→s.heap.get? b=some o→(h'.push {cls:=.type "function",data:=.func fd}).get? b=some o:=fun b o hb e=>gV _ (hx b o hb e)
 have neP:∀b,H b=none→b≠P:=fun b e z=>by rw[z,hP]at e;cases e
 have obj:∀b o,H b=some o→∃u,s.heap.get? b=some u:=fun b o e=>jG (I.hok b o e)
 have same:∀b o,H b=some o→b≠P→(upd (upd (upd H P (.tbl (ps++more))) c (bT c t.qual)) h'.objs.size (cJ h'.objs.size t cs c)) b=some o:=fun b o e hb=>by
  rw[ao (av e hfn),ao (av e hcn),ao hb];exact e
 refine I.un ⟨fun b o e n hb hx'=>keepP b o (neP b n) e,fun b o e n hb hx'=>⟨o.slots,keepP b o (neP b n) e⟩,fun b o e n hx'=>?_,fun b o e hx'=>?_,fun b xs e=>same b _ e (aW e hP (fun z=>nomatch z)),fun b o u e=>same b _ e (aW e hP (fun z=>nomatch z)),fun b qs e=>?_⟩ fun b o e=>?_
 ·rw[ao (old b o e).2,ao (old b o e).1,ao (neP b n)];exact n
 ·by_cases hb:b=P
  ·subst hb;exact⟨_,gV _ htb⟩
  ·exact⟨o,keepP b o hb e⟩
 ·by_cases hb:b=P
  ·subst hb
   rw[hP]at e;cases e
   exact⟨more,by rw[ao nfP.symm,ao ncP.symm,ai]⟩
  ·exact⟨#[],by rw[same b _ e hb];simp⟩
 ·by_cases hf:b=h'.objs.size
  ·subst hf
   rw[ai]at e;cases e
   refine⟨⟨_,fd,_,KG _ rfl,hfd⟩,⟨_,KG _ rfl⟩,?_⟩
   rintro h1 h2 ⟨od,fd',sl,e1,e2⟩ k
   exact⟨od,fd',sl,k _ e1,e2⟩
  ·rw[ao hf]at e
   by_cases hc:b=c
   ·subst hc
    rw[ai]at e;cases e
    obtain⟨c2,oc,vs,tq,e0,e1,e2,e3⟩:=hrec
    cases e0
    refine⟨⟨oc,vs,tq,gV _ e1,e2,e3⟩,⟨_,gV _ e1⟩,?_⟩
    rintro h1 h2 ⟨o,vs,tk,a1,a2,a3⟩ k
    exact⟨o,vs,tk,k _ a1,a2,a3⟩
   ·rw[ao hc]at e
    by_cases hp:b=P
    ·subst hp
     rw[ai]at e;cases e
     exact gV _ htb
    ·rw[ao hp]at e
     refine(I.hok b o e).stay (fun a u ha q=>keepP a u ?_ q) (fun a q=>same a _ q (aW q hP (fun z=>nomatch z))) fun a xs q=>same a _ q (aW q hP (fun z=>nomatch z))
     rcases ha with rfl|ha
     ·exact hp
     ·exact aW ha hP (fun z=>nomatch z)
theorem qC (I:Inv X pins σ H s)(hk:∀b o,s.heap.get? b=some o→h'.get? b=some o)(hsz:s.heap.objs.size≤h'.objs.size)(hfd:lV t cs c fd):
  Inv X pins σ (upd H h'.objs.size (cJ h'.objs.size t cs c)) {s with heap:=h'.push {cls:=.type "function",data:=.func fd},toks:=tk}:=by
 refine I.laid (a:=h'.objs.size) (o:=cJ h'.objs.size t cs c) (fun b u e=>gV _ (hk b u e)) hsz ⟨⟨_,fd,_,KG _ rfl,hfd⟩,⟨_,KG _ rfl⟩,?_⟩
 rintro h1 h2 ⟨od,fd',sl,e1,e2⟩ k
 exact⟨od,fd',sl,k _ e1,e2⟩
end
def lE (P:Addr)(pos:Pos)(t:cV)(cs:List Addr):TE:=fun _ H Q=>∃ps,H P=some (.tbl ps)∧TriplesOk ps.toList∧
 ((codeAmong pos ps.toList=none∧∀c f,H c=none→H f=none→c≠f→Q (.ref f) (upd (upd (upd H P (.tbl (ps++#[rawInt pos.line,rawInt pos.col,.ref c]))) c (bT c t.qual)) f (cJ f t cs c)))∨
  ∃c,codeAmong pos ps.toList=some (.ref c)∧∀f,H f=none→Q (.ref f) (upd H f (cJ f t cs c)))
section
variable {X:Cx}{c0 P:Addr}{params:Arguments}{scope:Scope}{pos:Pos}{t:cV}{cs:List Addr}
theorem sD {pins:List (Addr×Obj)}{σ:St}{H:Hp}{s:Ky}{ps:Array Gt}(I:Inv X pins σ H s)(hP:H P=some (.tbl ps))(B:BM X.mg X.base):
  s.heap.get? P=some (Si ps)∧s.heap.Ns mainGlobals X.mg∧mainGlobals≠P∧s.heap.BuiltinsAt X.mg P:=by
 have hPo:s.heap.get? P=some (Si ps):=I.hok P _ hP
 have hg:s.heap.Ns mainGlobals X.mg:=I.mod.glob.keeps I.bk
 have hgP:mainGlobals≠P:=fun q=>by
  obtain⟨o,es,ep,e,hd,_⟩:=hg
  rw[q,hPo]at e;cases e;cases hd
 obtain⟨bm,ob,b1,b2,b3,b4,b5,b6⟩:=B
 have b3':=I.bk _ _ b3
 refine⟨hPo,hg,hgP,bm,ob,b1,b2,fun q=>?_,fun q=>?_,b3',b4,b5,b6⟩
 ·obtain⟨o,es,ep,e,hd,_⟩:=hg
  rw[q,e]at b3';cases b3';rw[hd]at b6;cases b6
 ·rw[q,hPo]at b3';cases b3';cases b4
theorem ur {body:Expr}(B:BM X.mg X.base)(C:Ny X.base c0 P)(hcode:X.env.code=.ref c0)(hcl:closureFor scope X.env=pure (t.ys.zip cs))(nd:cs.Nodup)(hl:cs.length=t.ys.length)
  (hq:X.env.qual++"<lambda>"=t.qual)(hb:t.body=.expr body)(hs:t.scope=scope)
  (hbind:∀(cl:List (Str×Addr))(pm cdv ct:Gt)(us:List Gt),us.length=t.ps.length→bindArgs (W.kla_fn "<lambda>" t.qual params body scope cl pm cdv ct) ⟨us,[]⟩=pure (t.ps.zip us))
  (hdef:defaultsOf params X.env=([],[]):=by rfl):QE X (.Lambda params body scope pos) (lE P pos t cs):=⟨fun pins s σ H Q I h=>by
 obtain⟨ps,hP,ht,h⟩:=h
 obtain⟨hPo,hg,hgP,hB⟩:=sD I hP B
 have hfd:∀(pm ct:Gt)(c:Addr),lV t cs c (W.kla_fn "<lambda>" t.qual params body scope (t.ys.zip cs) pm (.ref c) ct):=fun pm ct c=>⟨rfl,hb.symm,hs.symm,rfl,rfl,rfl,rfl,hbind _ _ _ _,nd,hl⟩
 refine W.kla_eval hdef ?_
 rw[hq]
 rcases h with⟨hn,q⟩|⟨c,hf,q⟩
 ·refine W.kla_makeFunction hcl I.ok.glob hg hcode (C.keeps I.bk) hPo ht hn hgP hB fun c ctv h' tk hx hge hlt hrec htb=>?_
  exact⟨.ref h'.objs.size,_,ql I hP hx hge hlt hrec htb (hfd _ _ _),rfl,q c h'.objs.size (I.hok.fresh hge) (I.hok.fresh (Mq (Mh hge hlt))) (KZ hlt)⟩
 ·refine W.kla_makeFunctionHit hcl I.ok.glob hg hcode (C.keeps I.bk) hPo ht hf hB fun ctv h' tk hk hsz=>?_
  exact⟨.ref h'.objs.size,_,qC I hk hsz (hfd _ _ _),rfl,q h'.objs.size (I.hok.fresh hsz)⟩⟩
theorem zG (i:Nat){name:Str}{body:List Stmt}(hN:X.N.Nodup)(B:BM X.mg X.base)(C:Ny X.base c0 P)(hcode:X.env.code=.ref c0)(hcl:closureFor scope X.env=pure (t.ys.zip cs))(nd:cs.Nodup)(hl:cs.length=t.ys.length)
  (hq:qualnameIn X.env name name=t.qual)(hb:t.body=.stmts body)(hs:t.scope=scope)
  (hbind:∀(cl:List (Str×Addr))(doc pm cdv ct:Gt)(us:List Gt),us.length=t.ps.length→bindArgs (W.fnX name t.qual params body scope cl .none .none doc pm none cdv ct) ⟨us,[]⟩=pure (t.ps.zip us))
  (hi:X.N[i]?=some name:=by rfl)(hx:Loc X.env.scope name:=by first|exact .inl rfl|exact .inr rfl)(hf:X.fn name=true∨X.env.scope.names.lookup name=some .local:=by first|exact .inl rfl|exact .inr rfl)
  (hd0:params.defaults=[]:=by rfl)(hk0:params.kw_defaults=[]:=by rfl)(ha:annTrees params none X.env=[]:=by rfl):
  QS X (.FunctionDef name params body [] none [] scope none name pos) (aC (lE P pos t cs) (aw i)):=⟨fun pins s σ H D I h=>by
 obtain⟨ps,hP,ht,h⟩:=h
 obtain⟨hPo,hg,hgP,hB⟩:=sD I hP B
 have hfd:∀(doc pm ct:Gt)(c:Addr),lV t cs c (W.fnX name t.qual params body scope (t.ys.zip cs) .none .none doc pm none (.ref c) ct):=fun doc pm ct c=>⟨rfl,hb.symm,hs.symm,rfl,rfl,rfl,rfl,hbind _ _ _ _ _,nd,hl⟩
 refine W.nestDef_K hd0 hk0 ha ?_
 rw[hq]
 rcases h with⟨hn,q⟩|⟨c,hff,q⟩
 ·refine W.makeFunction_K hcl I.ok.glob hg hcode (C.keeps I.bk) hPo ht hn hgP hB fun c ctv doc h' tk hx' hge hlt hrec htb=>?_
  have I2:=ql (tk:=tk) (cs:=cs) I hP hx' hge hlt hrec htb (hfd doc ((X.mg "__name__").getD .none) ctv c)
  exact ie I2 hN hi hx (v:=.ref h'.objs.size) rfl (fun s' I3=>⟨_,_,I3,q c h'.objs.size (I.hok.fresh hge) (I.hok.fresh (Mq (Mh hge hlt))) (KZ hlt)⟩) hf
 ·refine W.makeFunction_hit hcl I.ok.glob hg hcode (C.keeps I.bk) hPo ht hff hB fun ctv doc h' tk hk hsz=>?_
  have I2:=qC (tk:=tk) (cs:=cs) I hk hsz (hfd doc ((X.mg "__name__").getD .none) ctv c)
  exact ie I2 hN hi hx (v:=.ref h'.objs.size) rfl (fun s' I3=>⟨_,_,I3,q h'.objs.size (I.hok.fresh hsz)⟩) hf⟩
end
section
variable {X:Cx}{k:Nat}{E:St→XK}{x:Str}{p pos:Pos}{e:Expr}{es:List Expr}{ta:TE}
abbrev jB:=List (cV×Sp)
def qd (ks:jB)(f:Addr)(vs:List V)(H:Hp)(Q:VK)(E:XK):Prop:=∃ts∈ks,∃cs cvs,dh H f ts.1 cs cvs∧vs.length=ts.1.ps.length∧ts.2 (vs++cvs) (cx cs H) (fun v H'=>Q v (bX cs H H')) (fun c a H'=>E c a (bX cs H H'))
def fX (ks:jB)(E:St→XK)(ta:TE)(t:TA):TE:=fun σ H Q=>ta σ H fun x H1=>∃f,x=.ref f∧(∃ts∈ks,∃cs cvs,dh H1 f ts.1 cs cvs)∧t σ H1 fun vs H2=>qd ks f vs H2 Q (E σ)
theorem mG {P:KS}{w:LI}{H:Hp}{h:Heap}{f:Addr}{t:cV}{cs:List Addr}{cvs:List V}(ok:HOk P w H h)(c:dh H f t cs cvs):W.FnAt f h:=by
 obtain⟨c',hf,_⟩:=c.ex
 obtain⟨⟨od,fd,sl,ho,_⟩,_,_⟩:=(show aT P w H h f (cJ f t cs c')from ok f _ hf)
 exact⟨_,_,_,_,ho⟩
def ny (P:KS)(w:LI)(K:tx)(mg:Str→Option Gt)(base:Heap)(k:Nat)(ks:jB):Prop:=∀ts∈ks,fq P w K mg base k ts.1 ts.2
theorem fg {ks:jB}{t:TA}(hk:ny X.prog X.w X.K X.mg X.base k ks)(hr:bc k X.A)(hx:dR (CX1 X.prog X.w) X E)(hg:QE X (.Name x p) ta)(ha:QA X (e::es) t)(hs:aU (e::es)=true:=by rfl):
  QE X (.Call (.Name x p) (e::es) [] pos) (fX ks E ta t):=⟨fun pins s σ H Q I h=>by
 have h':(bA e&&aU es)=true:=hs
 refine LF (thn (hg.out pins s σ H _ I h) fun u s1 ⟨y,H1,I1,ry,f,ey,⟨ts,hts,cs,cvs,ca⟩,q⟩=>?_)
 subst ey
 obtain rfl:u=KJ f:=ry
 refine W.callWith_F (mG I1.hok ca) (thn (ha.out pos pins s1 σ H1 _ I1 q) fun us s2 ⟨vs,H2,I2,rv,ts2,hm2,cs2,cvs2,ca2,hl,hsp⟩=>⟨mG I2.hok ca2,?_⟩)
  (aP (KD.mp h').1 es X.env) (bv (KD.mp h').2)
 refine Pc (MG ((hk ts2 hm2).run X.A X.stack s2 H2 f cs2 us vs cvs2 Q (E σ) hr I2.env0 ca2 rv hl hsp) fun r s' hq=>?_)
 cases r with
 |error e=>exact hx pins σ H2 s2 e s' I2 hq
 |ok fl=>
  cases fl with
  |ret u=>exact I2.after hq
  |next=>exact Ll hq
  |brk=>exact Ll hq
  |cont=>exact Ll hq⟩
end
structure mO where
 nx:St→Hp→Prop
 rt:St→VK
abbrev TSM:=mO→St→Hp→Prop
def SPM (X:Cx)(pins:List (Addr×Obj))(D:mO)(f:Flow)(s':Ky):Prop:=
 match f with
 |.next=>∃σ' H',Inv X pins σ' H' s'∧D.nx σ' H'
 |.ret u=>∃v σ' H',Inv X pins σ' H' s'∧aK v u∧D.rt σ' v H'
 |_=>False
structure QM (X:Cx)(st:Stmt)(t:TSM):Prop where
 out:∀(pins:List (Addr×Obj))(s:Ky)(σ:St)(H:Hp)(D:mO),Inv X pins σ H s→t D σ H→wpAny (model X.prog X.w) X.A (exec st X.env) (SPM X pins D) X.xe s
structure QMs (X:Cx)(st:List Stmt)(t:TSM):Prop where
 out:∀(pins:List (Addr×Obj))(s:Ky)(σ:St)(H:Hp)(D:mO),Inv X pins σ H s→t D σ H→wpAny (model X.prog X.w) X.A (execs st X.env) (SPM X pins D) X.xe s
def uq (t u:TSM):TSM:=fun D σ H=>t {D with nx:=fun σ' H'=>u D σ' H'} σ H
def pe (t:TS):TSM:=fun D σ H=>t {nx:=D.nx,rt:=fun _ _=>False} σ H
def qX (te:TE):TSM:=fun D σ H=>te σ H (D.rt σ)
section
variable {X:Cx}{st:Stmt}{sts l m:List Stmt}{t u:TSM}{tS:TS}{e c:Expr}{te:TE}{tc:TT}{pos:Pos}
theorem qz (h:QS X st tS):QM X st (pe tS):=⟨fun pins s σ H D I hq=>thn (h.out pins s σ H _ I hq) fun f s1 q=>by
 cases f with
 |next=>exact q
 |ret v=>obtain⟨_,_,_,_,_,z⟩:=q;exact z.elim
 |brk=>obtain⟨_,_,_,z⟩:=q;exact z.elim
 |cont=>obtain⟨_,_,_,z⟩:=q;exact z.elim⟩
theorem qe (h:QE X e te):QM X (.Return (some e) pos) (qX te):=⟨fun pins s σ H D I hq=>
 QZ (thn (h.out pins s σ H _ I hq) fun v s1 ⟨x,H1,I1,r1,q1⟩=>⟨x,σ,H1,I1,r1,q1⟩)⟩
theorem rh (h1:QM X st t)(h2:QMs X sts u):QMs X (st::sts) (uq t u):=⟨fun pins s σ H D I h=>by
 refine OA (thn (h1.out pins s σ H _ I h) fun f s1 q=>?_)
 cases f with
 |next=>
  obtain⟨σ',H',I',q⟩:=q
  exact h2.out pins s1 σ' H' D I' q
 |ret v=>exact q
 |brk=>exact q
 |cont=>exact q⟩
theorem pW (h1:QM X st t):QMs X [st] t:=⟨fun pins s σ H D I h=>by
 refine OA (thn (h1.out pins s σ H D I h) fun f s1 q=>?_)
 cases f with
 |next=>exact OJ q
 |ret v=>exact q
 |brk=>exact q
 |cont=>exact q⟩
end
def bN:List (Nat×Addr)→St→Hp→Hp
 |[],_,H=>H
 |(i,c)::r,σ,H=>match σ[i]? with
  |some (some v)=>bN r σ (upd H c (bw c v))
  |_=>bN r σ H
theorem jz {P:KS}{w:LI}{fs:List Addr}{H:Hp}{h h':Heap}{σ:St}:∀(cs:List (Nat×Addr))(H':Hp),(cs.map (·.2)).Nodup→(∀p∈cs,H' p.2=none∧h.objs.size≤p.2∧∀v,σ[p.1]? =some (some v)→∃u o,aK v u∧h'.get? p.2=some o∧o.data=.cell (some u))→
  Un fs [] H H' h h'→HOk P w H' h'→Un fs [] H (bN cs σ H') h h'∧HOk P w (bN cs σ H') h'
 |[],H',_,_,u,ok=>⟨u,ok⟩
 |(i,c)::r,H',nd,hc,u,ok=>by
  unfold bN
  have ndr:=(MD.mp nd).2
  have hcr:∀p∈r,H' p.2=none∧h.objs.size≤p.2∧∀v,σ[p.1]? =some (some v)→∃u o,aK v u∧h'.get? p.2=some o∧o.data=.cell (some u):=fun p hp=>hc p (KQ _ hp)
  split
  ·rename_i v hv
   obtain⟨hn,hge,hcell⟩:=hc (i,c) Lv
   have hn:H' c=none:=hn
   have hge:h.objs.size≤c:=hge
   obtain⟨uv,o,ru,eo,hd⟩:=hcell v hv
   have eo:h'.get? c=some o:=eo
   refine jz r (upd H' c (bw c v)) ndr (fun p hp=>⟨?_,(hcr p hp).2⟩) ⟨u.keep,u.slot,fun b ob e n hx=>?_,u.there,fun b xs e=>?_,fun b ob z e=>?_,fun b ps e=>?_⟩ fun b ob e=>?_
   ·have:p.2≠c:=fun z=>(MD.mp nd).1 (by rw[←z];exact MM.mpr ⟨p,hp,rfl⟩)
    rw[ao this];exact(hcr p hp).1
   ·rw[ao (KZ (KU (KF e) hge))];exact u.free b ob e n hx
   ·have z:=u.tups b xs e;rw[ao (av z hn)];exact z
   ·have z:=u.frzs b ob _ e;rw[ao (av z hn)];exact z
   ·obtain⟨more,z⟩:=u.tbls b ps e;exact⟨more,by rw[ao (av z hn)];exact z⟩
   ·by_cases hb:b=c
    ·subst hb
     rw[ai]at e;cases e
     refine⟨⟨uv,o,ru,eo,hd⟩,⟨o,eo⟩,?_⟩
     rintro h1 h2 ⟨u',o',r',e',d'⟩ k
     exact⟨u',o',r',k _ e',d'⟩
    ·rw[ao hb]at e
     exact(ok b ob e).stay (fun a q _ z=>z) (fun a q=>by rw[ao (av q hn)];exact q) fun a xs q=>by rw[ao (av q hn)];exact q
  ·exact jz r H' ndr hcr u ok
theorem Fun.okM {P:KS}{w:LI}{K:tx}{mg:Str→Option Gt}{base:Heap}{x qual:Str}{st:Stmt}{f c0:Addr}{fd:KP}{N ps:List Str}{k:Nat}{sp:Sp}{caps:Nat→List (Nat×Addr)}(F:Fun K x qual st f fd)(hcd:fd.code=.ref c0)(S:aA N ps (ak st))(len:∀vs H Q E,sp vs H Q E→vs.length=ps.length)
  (hcaps:∀(L:Nat)(p:Nat×Addr),p∈caps L→∃y,N[p.1]? =some y∧(ak st).names.lookup y=some .cell∧(cellsFrom (L+1) (ak st).names []).lookup y=some p.2)(hnd:∀L,((caps L).map (·.2)).Nodup)
  (hbody:∀(A:Lj)(outer:List Env)(s:Ky)(H:Hp)(vs:List V)(Q:VK)(E:XK),bc k (A.deeper (envOfC qual (ak st) s.heap.objs.size f (.ref c0)))→sp vs H Q E→
   ∃t,QMs (cw (CX1 P w) P w K mg base N qual (ak st) f (.ref c0) A outer s H E) (aM st) t∧t {nx:=fun σ H'=>(∀p∈caps s.heap.objs.size,H' p.2=none)→Q .non (bN (caps s.heap.objs.size) σ H'),rt:=fun σ v H'=>(∀p∈caps s.heap.objs.size,H' p.2=none)→Q v (bN (caps s.heap.objs.size) σ H')} (start N vs) H):aL P w K mg base (CX1 P w) (k+1) f fd ps sp:=by
 obtain⟨oc,od,kV,doc,pm,an,cdv,ct,osl,rfl,lk,hcd'⟩:=F.ex
 obtain rfl:cdv=.ref c0:=hcd
 refine⟨len,fun A outer s H args us vs Q E hr e0 hb r hsp=>?_⟩
 have hl:=len _ _ _ _ hsp
 have KX:K.In s.heap:=e0.mod.kin.keeps fun b o e=>(e0.bs b o e).1
 have lim:s.heap.NoLimit:=e0.mod.nolimit.keeps fun b o e=>(e0.bs b o e).1
 have hkind:∀y∈ps.zip us,(ak st).names.lookup y.1=some .local∨((ak st).names.lookup y.1=some .cell∧((cellsFrom (s.heap.objs.size+1) (ak st).names []).lookup y.1).isSome=true):=fun⟨n,v⟩ hy=>by
  rcases S.par n (MC hy).1 with q|q
  ·exact .inl q
  ·exact .inr ⟨q,Pn _ _ _ (.inl q)⟩
 refine Oo hr.depth (KX _ _ lk) rfl S.co S.gen rfl (SO KX hcd') (hb _ _ _ _ ?_)
 refine OR S.kind hkind fun env he s1 x=>?_
 subst he
 refine⟨lim.keeps x.toInCall.keep,Ri ?_⟩
 obtain⟨t,ht,hq⟩:=hbody A outer s H vs Q E (hr.deeper _) hsp
 have I:Inv (cw (CX1 P w) P w K mg base N qual (ak st) f (.ref c0) A outer s H E) [] (start N vs) H s1:=kj S hr.hd e0 hl r x
 refine Le (ht.out [] s1 (start N vs) H _ I hq) (fun fl s' hs=>?_) fun e s' hs=>hs
 have fin:∀{σ':St}{H':Hp}{v:V}{u:Gt},Inv (cw (CX1 P w) P w K mg base N qual (ak st) f (.ref c0) A outer s H E) [] σ' H' s'→aK v u→((∀p∈caps s.heap.objs.size,H' p.2=none)→Q v (bN (caps s.heap.objs.size) σ' H'))→CE outer P w H s Q u s':=
  fun{σ' H' v u} J rv q=>by
   have free:∀p∈caps s.heap.objs.size,H' p.2=none:=fun p hp=>by
    obtain⟨y,_,_,hc⟩:=hcaps _ p hp
    exact J.freeC y p.2 hc
   have hcond:∀p∈caps s.heap.objs.size,H' p.2=none∧s.heap.objs.size≤p.2∧∀v,σ'[p.1]? =some (some v)→∃u o,aK v u∧s'.heap.get? p.2=some o∧o.data=.cell (some u):=fun p hp=>by
    obtain⟨y,hy,hk,hc⟩:=hcaps _ p hp
    refine⟨free p hp,J.ok.cab y p.2 rfl hc,fun v hv=>?_⟩
    obtain⟨m,_,hloc⟩:=J.loc
    obtain⟨u',r',lk'⟩:=hloc p.1 y v hy hv (.inr (.inl hk))
    rcases lk' with⟨z,_⟩|⟨_,c,ec,o,eo,hd⟩
    ·have z:(ak st).names.lookup y=some .local:=z
     rw[hk]at z;cases z
    ·have ec:(cellsFrom (s.heap.objs.size+1) (ak st).names []).lookup y=some c:=ec
     rw[hc]at ec;cases ec
     exact⟨u',o,r',eo,hd⟩
   obtain⟨un,ok⟩:=jz (P:=P) (w:=w) (σ:=σ') (caps s.heap.objs.size) H' (hnd _) hcond J.base J.hok
   exact⟨v,_,J.os,J.bare,un,ok,rv,q free⟩
 cases fl with
 |ret u=>
  obtain⟨v,σ',H',J,rv,q⟩:=hs
  exact fin J rv q
 |next=>
  obtain⟨σ',H',J,q⟩:=hs
  exact fin (v:=V.non) (u:=Ml) J rfl q
 |brk=>exact Ll hs
 |cont=>exact Ll hs
theorem vR {P:KS}{w:LI}{K:tx}{mg mb:Str→Option Gt}{CX:CXT}{k:Nat}{fa a:Addr}{fd:KP}{x:Str}{sp:Sp}{s₁:Ky}{vs:List Gt}{ns:List Int}{tabs:List (Addr×Addr)}
  (KX:K.In s₁.heap)(hns:s₁.heap.Ns mainGlobals mg)(hb:s₁.heap.Ns builtinsNs mb)(hbb:∀x:Str,x≠"__name__"→mb x=bootBuiltins x)(hlim:s₁.heap.NoLimit)(hg:s₁.gens=#[])(hB:BM mg s₁.heap)
  (hT:∀q∈tabs,Ny s₁.heap q.1 q.2∧s₁.heap.get? q.2=some (Si #[]))(hKT:Sj K=true)
  (ha:s₁.heap.get? a=some {cls:=.type "list",data:=.seq vs.toArray})(hi:Uj vs ns)(hl:ns.length≤sizeLine)(hr:bc k callerA)
  (F:∀base:Heap,K.In base→base.Ns mainGlobals mg→BM mg base→(∀q∈tabs,Ny base q.1 q.2)→aL P w K mg base CX k fa fd [x] sp)(hbind:∀(s:Ky)(u:Gt),SV s fd ⟨[u],[]⟩ [(x,u)])
  (hsp:∀H:Hp,(∀q∈tabs,H q.2=some (.tbl #[]))→SqL K H a (ns.map V.int)→sp [.ref a] H (fun v _=>v=.bl true) fun _ _ _=>False)
  (hCX:∀H e s',CX [] H s₁ (fun _ _ _=>False) e s'→False):
  codeAny (model P w) callerA (.call (.ref fa) ⟨[.ref a],[]⟩) (fun r s'=>r=.ok (.ret (.bool true))∧OldK s₁.heap s'.heap∧s'.os=s₁.os∧Py s'.gens) s₁:=by
 have rv:=nV hi
 have lenV:=hi.length
 have tabK:∀q∈tabs,K.lookup q.2=none:=fun q hq=>by
  cases e:K.lookup q.2 with
  |none=>rfl
  |some o=>
   have e2:=KX _ _ e
   rw[(hT q hq).2]at e2;cases e2
   have:=Mc.mp hKT _ (W.mem_of_lookupK e)
   exact absurd (show false=true from this) KN
 have tabA:∀q∈tabs,q.2≠a:=fun q hq e=>by
  have e2:=(hT q hq).2
  rw[e,ha]at e2;cases e2
 have core:∀H:Hp,(∀q∈tabs,H q.2=some (.tbl #[]))→SqL K H a (ns.map V.int)→HOk P w H s₁.heap→(∀b,H b≠none→(b=a∧∃o xs,H b=some (.frz o (.lst xs)))∨∃q∈tabs,q.2=b)→(∀b,H b≠none→K.lookup b=none)→
   codeAny (model P w) callerA (.call (.ref fa) ⟨[.ref a],[]⟩) (fun r s'=>r=.ok (.ret (.bool true))∧OldK s₁.heap s'.heap∧s'.os=s₁.os∧Py s'.gens) s₁:=by
  intro H hO hS hok hA hK
  have base_of:∀{b:Addr}{o:Obj},s₁.heap.get? b=some o→H b=none→(ia s₁.heap H).get? b=some o:=fun e n=>wU e n
  have noA:∀{b:Addr}{o:Obj},s₁.heap.get? b=some o→o.cls≠.none→o.cls≠.type "list"→H b=none:=fun{b o} e c1 c2=>by
   cases q:H b with
   |none=>rfl
   |some u=>
    rcases hA b (by rw[q];simp)with⟨rfl,_⟩|⟨p,hp,rfl⟩
    ·rw[ha]at e;cases e;exact absurd rfl c2
    ·rw[(hT p hp).2]at e;cases e;exact absurd rfl c1
  have noD:∀{b:Addr}{o:Obj}{es:Array Ph}{ep:Nat},s₁.heap.get? b=some o→o.data=.dict es ep→H b=none:=fun{b o es ep} e d=>by
   cases q:H b with
   |none=>rfl
   |some u=>
    rcases hA b (by rw[q];simp)with⟨rfl,_⟩|⟨p,hp,rfl⟩
    ·rw[ha]at e;cases e;cases d
    ·rw[(hT p hp).2]at e;cases e;cases d
  have nsK:∀{b:Addr}{m:Str→Option Gt},s₁.heap.Ns b m→(ia s₁.heap H).Ns b m:=fun{b m}⟨o,es,ep,e,d,r⟩=>⟨o,es,ep,base_of e (noD e d),d,r⟩
  have hKb:K.In (ia s₁.heap H):=fun b o e=>base_of (KX b o e) (by
   cases q:H b with
   |none=>rfl
   |some u=>rw[hK b (by rw[q];simp)]at e;cases e)
  have hBb:BM mg (ia s₁.heap H):=by
   obtain⟨bm,ob,b1,b2,b3,b4,b5,b6⟩:=hB
   exact⟨bm,ob,b1,b2,base_of b3 (noA b3 (by rw[b4];intro z;cases z) (by rw[b4];intro z;exact absurd (Sm z) (by decide))),b4,b5,b6⟩
  have hCb:∀q∈tabs,Ny (ia s₁.heap H) q.1 q.2:=fun q hq=>by
   obtain⟨o,vs,file,tf,flags,tg,inF,text,tt,e1,e2,r⟩:=(hT q hq).1
   exact⟨o,vs,file,tf,flags,tg,inF,text,tt,base_of e1 (noA e1 (by rw[e2];intro z;cases z) (by rw[e2];intro z;exact absurd (Sm z) (by decide))),e2,r⟩
  have hM:Mod K mg (ia s₁.heap H):=⟨hKb,nsK hns,⟨mb,nsK hb,hbb⟩,let ⟨mc,h1,h2⟩:=hlim;⟨mc,nsK h1,h2⟩⟩
  have e0:iI P w K mg (ia s₁.heap H) callerA [] s₁ H:=⟨rfl,hM,fun b o e=>AI e,PB (vk _ _),trivial,fun b hb=>absurd (show b∈([]:List Addr)from hb) (by simp),hok,.of_eq hg⟩
  refine MG ((F _ hKb (nsK hns) hBb hCb).run callerA [] s₁ H ⟨[.ref a],[]⟩ [.ref a] [.ref a] _ _ hr e0 (hbind s₁ (.ref a)) (.cons rfl .nil) (hsp H hO hS)) fun r s' h=>?_
  cases r with
  |error e=>exact(hCX H e s' h).elim
  |ok fl=>
   cases fl with
   |next=>exact Ll h
   |brk=>exact Ll h
   |cont=>exact Ll h
   |ret u=>
    obtain⟨v,H',os,bare,un,hok',r',q⟩:=h
    have q':v=.bl true:=q
    subst q'
    obtain rfl:u=MJ true:=r'
    have all:∀b o,s₁.heap.get? b=some o→s'.heap.get? b=some o∨∃q∈tabs,q.2=b∧∃more,s'.heap.get? b=some (Si more):=fun b o e=>by
     cases q:H b with
     |none=>exact .inl (un.keep b o e q (by intro z;exact absurd (show b∈([]:List Addr)from z) (by simp)) (by simp))
     |some u=>
      rcases hA b (by rw[q];simp)with⟨rfl,ob,xs,z⟩|⟨p,hp,rfl⟩
      ·have z2:=un.frzs b ob _ z
       obtain⟨e1,_⟩:=hok b _ z
       obtain⟨e2,_⟩:=hok' b _ z2
       rw[e]at e1;cases e1
       exact .inl e2
      ·obtain⟨more,z2⟩:=un.tbls p.2 _ (hO p hp)
       exact .inr ⟨p,hp,rfl,_,hok' p.2 _ z2⟩
    refine⟨rfl,⟨fun b o e=>?_,fun b o e=>?_⟩,os,bare⟩
    ·rcases all b o e with z|⟨p,hp,rfl,more,z⟩
     ·exact .inl z
     ·have e2:=(hT p hp).2
      rw[e]at e2;cases e2
      exact .inr (.inl ⟨((hT p hp).1.tab (hT p hp).2).isCodeTable,rfl,#[],more,rfl,by rw[Array.empty_append];exact z⟩)
    ·rcases all b o e with z|⟨p,hp,rfl,more,z⟩
     ·exact⟨_,z⟩
     ·exact⟨_,z⟩
 cases hk:K.lookup a with
 |some o=>
  have e:=KX a o hk
  rw[ha]at e
  cases e
  refine core (fun b=>if b∈tabs.map (·.2)then some (.tbl #[])else none) (fun q hq=>if_pos (MM.mpr ⟨q,hq,rfl⟩)) (.inr ⟨_,vs.toArray,_,hk,rfl,rfl,rfl,by rw[KH,lenV];exact hl,by simpa using rv⟩) (fun b u z=>?_) (fun b z=>?_) fun b z=>?_
  ·by_cases hb:b∈tabs.map (·.2)
   ·have z':=(if_pos hb).symm.trans z
    cases z'
    obtain⟨q,hq,rfl⟩:=MM.mp hb
    exact(hT q hq).2
   ·have z':=(if_neg hb).symm.trans z
    cases z'
  ·by_cases hb:b∈tabs.map (·.2)
   ·obtain⟨q,hq,e⟩:=MM.mp hb
    exact .inr ⟨q,hq,e⟩
   ·exact absurd (if_neg hb) z
  ·by_cases hb:b∈tabs.map (·.2)
   ·obtain⟨q,hq,rfl⟩:=MM.mp hb
    exact tabK q hq
   ·exact absurd (if_neg hb) z
 |none=>
  refine core (fun b=>if b=a then some (.frz {cls:=.type "list",data:=.seq vs.toArray} (.lst (ns.map V.int)))else if b∈tabs.map (·.2)then some (.tbl #[])else none)
   (fun q hq=>by show(if q.2=a then _ else _)=_;rw[if_neg (tabA q hq),if_pos (MM.mpr ⟨q,hq,rfl⟩)]) (.inl (.inr ⟨{cls:=.type "list",data:=.seq vs.toArray},if_pos rfl⟩)) (fun b u z=>?_) (fun b z=>?_) fun b z=>?_
  ·by_cases hb:b=a
   ·have z':=(if_pos hb).symm.trans z
    cases z'
    subst hb
    exact⟨ha,by rw[Kz];exact hl,vs,_,rv,ha⟩
   ·have z':(if b∈tabs.map (·.2)then some (HO.tbl #[])else none)=some u:=(if_neg hb).symm.trans z
    by_cases hb2:b∈tabs.map (·.2)
    ·rw[if_pos hb2]at z';cases z'
     obtain⟨q,hq,rfl⟩:=MM.mp hb2
     exact(hT q hq).2
    ·rw[if_neg hb2]at z';cases z'
  ·by_cases hb:b=a
   ·exact .inl ⟨hb,_,_,if_pos hb⟩
   ·by_cases hb2:b∈tabs.map (·.2)
    ·obtain⟨q,hq,e⟩:=MM.mp hb2
     exact .inr ⟨q,hq,e⟩
    ·exact absurd ((if_neg hb).trans (if_neg hb2)) z
  ·by_cases hb:b=a
   ·rw[hb];exact hk
   ·by_cases hb2:b∈tabs.map (·.2)
    ·obtain⟨q,hq,rfl⟩:=MM.mp hb2
     exact tabK q hq
    ·exact absurd ((if_neg hb).trans (if_neg hb2)) z
theorem xc {l:W.OpenLaw}{n k:Nat}{q:KS}{loose:List Str}{XP:(Str→Option Gt)→Heap→Prop}{YP:LI→Heap→Prop}{d:DefRec}{K:Params→tx}{CX:LI→CXT}{x:Str}{names:List Str}
  (hn:l.most=some n)(hn2:n≤sizeLine)(hdf:d.params.defaults=[])(hr:bc k callerA)
  (hY:∀(w:LI)(h:Heap),YP w h→(K w.params).In h)
  (hq:∀y∈names,((QR q).find? fun e=>e.name==y).isSome=true)
  (F:∀(w:LI)(mg:Str→Option Gt)(fa:Addr)(h:Heap),(K w.params).In h→h.Ns mainGlobals mg→mg d.name=some (.ref fa)→
   ∃(fd:KP)(tabs:List (Addr×Addr))(sp:Sp),(∀(s:Ky)(u:Gt),SV s fd ⟨[u],[]⟩ [(x,u)])∧Sj (K w.params)=true∧(∀t∈tabs,∃y∈names,Oq (K w.params) y=some t)∧
    (∀base:Heap,(K w.params).In base→base.Ns mainGlobals mg→BM mg base→(∀t∈tabs,Ny base t.1 t.2)→aL l.prog w (K w.params) mg base (CX w) k fa fd [x] sp)∧
    ∀(H:Hp)(a:Addr)(ns:List Int),ns.length≤n→(∀t∈tabs,H t.2=some (.tbl #[]))→SqL (K w.params) H a (ns.map V.int)→sp [.ref a] H (fun v _=>v=.bl true) fun _ _ _=>False)
  (hCX:∀(w:LI)(H:Hp)(s:Ky)(e:Gt)(s':Ky),CX w [] H s (fun _ _ _=>False) e s'→False):
  W.WalkO q loose XP YP l.row.toRowW d [] (fun f vs=>SL f vs):=by
 refine Att.attach_call hn hdf fun w s₀ s₁ mg mb fa o pm cd doc a vs ns G Y ho hd hcd hmg hobj hints hlen hg=>?_
 have KX:=hY w _ Y
 obtain⟨fd,tabs,sp,hb,hKT,htabs,hF,hsp⟩:=F w mg fa _ KX G.T.g hmg
 refine vR (tabs:=tabs) KX G.T.g G.T.b G.T.builtins G.T.nolimit hg G.T.bmain (fun t ht=>?_) hKT hobj hints (KR hlen hn2) hr hF hb (fun H hO hS=>hsp H a ns hlen hO hS) fun H e s'=>hCX w H s₁ e s'
 obtain⟨y,hy,e⟩:=htabs t ht
 obtain⟨dd,hdd⟩:=Lu.mp (hq y hy)
 exact W.tab_of G.T KX hdd e
section
variable {X:Cx}
theorem SPM.unwish {E:Gt→Ky→Prop}{pins:List (Addr×Obj)}{D:mO}{f:Flow}{s':Ky}(h:SPM (X.wish E) pins D f s'):SPM X pins D f s':=by
 cases f with
 |next=>obtain⟨σ',H',I,q⟩:=h;exact⟨σ',H',I.unwish,q⟩
 |brk=>exact h
 |cont=>exact h
 |ret u=>obtain⟨v,σ',H',I,r,q⟩:=h;exact⟨v,σ',H',I.unwish,r,q⟩
theorem QMs.nox {st:List Stmt}{t:TSM}(h:QMs X.nox st t):QMs X st t:=⟨fun pins s σ H D I hw=>
 Le (h.out pins s σ H D (I.wish _) hw) (fun _ _ q=>SPM.unwish q) fun _ _ z=>Ll z⟩
theorem fq.mono {P:KS}{w:LI}{K:tx}{mg:Str→Option Gt}{base:Heap}{j k:Nat}{t:cV}{sp:Sp}(F:fq P w K mg base j t sp)(h:j≤k):fq P w K mg base k t sp:=
 ⟨fun A outer s H f cs us vs cvs Q E hr=>F.run A outer s H f cs us vs cvs Q E (hr.mono h)⟩
def nI:V→List V→Hp→VK→Prop:=fun x vs H Q=>∃a y d r H',x=.ref a∧vs=[y,d]∧CI H a y d r H'∧Q r H'
theorem oy (hu:X.A.units+1<cLine):MtR X "dict.setdefault" nI:=by
 intro pins s σ H x xs v us Q I rx rs h
 obtain⟨a,y,d,r,H',rfl,rfl,g,q⟩:=h
 obtain rfl:v=KJ a:=rx
 obtain⟨uy,ud,rfl,ry,rd⟩:=pq rs
 rcases g with⟨g,rfl⟩|⟨g,p,rfl⟩
 ·rcases g with⟨kvs,k,e,rfl,l⟩|⟨kvs,k,b,e,rfl,eb,l⟩
  ·obtain⟨z,hd,vs,rel,dd⟩:=iy I.hok e
   obtain⟨w',hw,rw'⟩:=cF.some_of (v:=r) (o:=valueAt vs k) (by rw[l];exact rel.val k)
   exact Qa Mi dd.typeIs Ni (Ng _ _ _) (Ud (bP X.prog X.w) a (iD ry) hd ud)
    ⟨vs,dd,by rw[←rel.length];exact z,(fun v' hv'=>by rw[hw]at hv';cases hv';exact⟨r,H',I.tok _,rw',q⟩),(fun hn=>by rw[hw]at hn;cases hn)⟩
  ·cases (show uy=KJ b from ry)
   obtain⟨z,hd,xs,rel,dd⟩:=jq I.hok e
   obtain⟨w',hw,rw'⟩:=cF.some_of (v:=r) (o:=(atKey xs k).map (·.2)) (by rw[l];exact rel.val k)
   obtain⟨pp,hp,hp2⟩:=RB.mp hw
   refine LB Mi dd.typeIs Ni ?_ (Ng _ _ _)
   unfold NS.«dict.setdefault»
   refine cW ?_
   unfold Qc
   refine cW (PY dd.typeIs ?_)
   show wpAny _ _ (pure (a,KJ b,some ud)) _ _ s
   refine If ?_
   show wpAny _ _ (if (a==sysModules)=true then _ else(dictSetDefault a (.ref b) ud>>=_)) _ _ s
   rw[if_neg (by rw[hd];exact KN)]
   refine cW (fB (Nd hu) (gc I.hok eb) dd (fun p' hp'=>?_) (fun hn=>?_) (by rw[←Paired.length rel];exact z))
   ·rw[hp]at hp';cases hp'
    exact If ⟨_,rfl,⟨r,H',I.tok _,by rw[hp2];exact rw',q⟩⟩
   ·rw[hp]at hn;cases hn
 ·rcases g with⟨kvs,k,e,rfl,l⟩|⟨kvs,k,b,e,rfl,eb,l⟩
  ·rcases p with⟨kvs',k',e',ey,lz,rfl⟩|⟨kvs',k',b',e',ey,_⟩
   ·have ek:k=k':=by cases k<;>cases k'<;>first|(cases ey;rfl)|cases ey
    subst ek
    obtain⟨z,hd,vs,rel,dd⟩:=zL I.hok e'
    have ee:kvs=kvs':=by
     rcases e with e|⟨o,e⟩
     ·rw[e']at e;cases e;rfl
     ·rw[e']at e;cases e
    subst ee
    have hn:valueAt vs k=none:=cF.none_of (by rw[l];exact rel.val k)
    refine Qa Mi dd.typeIs Ni (Ng _ _ _) (Ud (bP X.prog X.w) a (iD ry) hd ud)
     ⟨vs,dd,by rw[←rel.length];exact z,(fun v' hv'=>by rw[hn]at hv';cases hv'),fun _ h' dd' hs=>?_⟩
    have he:∃q,h'.get? a=some q:=let ⟨q,_,_,hq,_⟩:=dd';⟨q,hq⟩
    have hl:(bx kvs k r).length≤sizeLine:=by have:=eK kvs k r;omega
    exact⟨r,_,kY I (by rw[e'];exact MF) hs he (vU hl hd (rel.put k rd) dd'),rd,q⟩
   ·cases k<;>cases ey
  ·rcases p with⟨kvs',k',e',ey,_⟩|⟨kvs',k',b',e',ey,eb',lz,rfl⟩
   ·cases k'<;>cases ey
   ·cases ey
    have ek:k=k':=iW (HO.tup.inj (KL (eb.symm.trans eb')))
    subst ek
    cases (show uy=KJ b from ry)
    obtain⟨z,hd,xs,rel,dd⟩:=tE I.hok e'
    have ee:kvs=kvs':=by
     rcases e with e|⟨o,e⟩
     ·rw[e']at e;cases e;rfl
     ·rw[e']at e;cases e
    subst ee
    have hn:atKey xs k=none:=by
     have:=cF.none_of (o:=(atKey xs k).map (·.2)) (by rw[l];exact rel.val k)
     exact Option.map_eq_none_iff.mp this
    refine LB Mi dd.typeIs Ni ?_ (Ng _ _ _)
    unfold NS.«dict.setdefault»
    refine cW ?_
    unfold Qc
    refine cW (PY dd.typeIs ?_)
    show wpAny _ _ (pure (a,KJ b,some ud)) _ _ s
    refine If ?_
    show wpAny _ _ (if (a==sysModules)=true then _ else(dictSetDefault a (.ref b) ud>>=_)) _ _ s
    rw[if_neg (by rw[hd];exact KN)]
    refine cW (fB (Nd hu) (gc I.hok eb) dd (fun p' hp'=>?_) (fun _ h' dd' hs=>?_) (by rw[←Paired.length rel];exact z))
    ·rw[hn]at hp';cases hp'
    ·obtain⟨q',es,ep,hq,h2,h3,h4,_,h5⟩:=dd'
     have hl:(bx kvs k r).length≤sizeLine:=by have:=eK kvs k r;omega
     refine If ⟨_,rfl,⟨r,_,kY (ob:=.dT (bx kvs k r)) I (by rw[e'];exact MF) hs ⟨q',hq⟩ ⟨hl,hd,_,(rel.put k eb rd).keeps fun c ys ec=>?_,q',es,ep,hq,h2,h3,h4,h5⟩,rd,q⟩⟩
     rw[ao (aW ec e' (fun z=>nomatch z))]
     exact ec
def Its (z:Str):It:=⟨fun i _=>i<z.length,fun i H x H'=>H'=H∧∃c,z.cps[i]?=some c∧x=.str ⟨#[c]⟩,fun i _=>z.length≤i⟩
theorem xJ {P:KS}{w:LI}{K:tx}{tg:Expr}(z:Str)(t:Tok)(it:Addr):kJ P w K tg (Its z) [it] it (fun i h=>h.IsStrIter it "str_ascii_iterator" z t i)where
 mem:=by simp
 obj:=fun i h st b hb=>by
  have e:b=it:=by simpa using hb
  subst e
  obtain⟨o,e,c,d⟩:=st
  exact⟨o,e,fun v z=>by rw[d]at z;cases z⟩
 keep:=fun i h h' st k=>let ⟨o,ho,r⟩:=st;⟨o,k it (by simp) o ho,r⟩
 item:=by
  intro X hP hw hK hc i pins s σ H E I hf st hg
  subst hP hw hK
  obtain⟨f0,f1,f2,f3,f4,f5⟩:=hf it (by simp)
  have hi:i<z.cps.size:=hg
  refine wpAny_pyNext_ascii_item st (c:=z.cps[i]) (Lz hi) fun h' st' sb=>?_
  have I1:Inv X pins σ H {s with heap:=h',toks:=s.toks+1}:=I.turned (t':=s.toks+1) (fun b o hb e=>(sb.2 b hb).trans e) f0 f1 f3 f4 f5
  obtain⟨o,e,c,d⟩:=id st'
  exact⟨_,rfl,lb (s:={s with heap:=h',toks:=s.toks+1}) e c d (by decide) ⟨.str ⟨#[z.cps[i]]⟩,H,I1,⟨_,rfl⟩,⟨rfl,_,Lz hi,rfl⟩,st',fun b hb=>(hf b hb).1⟩⟩
 done:=by
  intro X hP hw hK hc i pins s σ H E I hf st hg
  subst hP hw hK
  obtain⟨f0,f1,f2,f3,f4,f5⟩:=hf it (by simp)
  exact wpAny_pyNext_ascii_end (I.ok.hd hc) st (NU (show z.cps.size≤i from hg)) fun h' eb=>⟨rfl,I.turned (t':=s.toks) (fun b o hb e=>eb b o hb e) f0 f1 f3 f4 f5⟩
 self:=fun A i s Q E st h=>by
  refine QV st.typeIs QQ (LB QQ st.typeIs F.entry_str_ascii_iterator_iter ?_ (F.args_str_ascii_iterator_iter_1 _))
  show wpAny _ _ (ret (.ref it)) _ _ s
  exact If ⟨_,rfl,"str_ascii_iterator",_,st.typeIs,F.slot_str_ascii_iterator_next.lookup,h⟩
variable {a:Expr}{ta:TE}{tg:Expr}
def fo (K:tx)(tl:TE):TI:=fun σ H R=>tl σ H fun x H1=>match x with
 |.str z=>z.cps.all (·<128)=true∧R (Its z) H1
 |x=>∃a,x=.ref a∧(((∃xs,SqL K H1 a xs)∧R (Itl K a) H1)∨((∃xs,SqT K H1 a xs)∧R (Itt K a) H1))
theorem eI (h:QE X a ta):QI X tg a (fo X.K ta):=⟨fun pins s σ H R I hw=>by
 refine thn (h.out pins s σ H _ I hw) fun v s1 ⟨x,H1,I1,r1,q1⟩=>?_
 cases x with
 |str z=>
  obtain⟨t,rfl⟩:=r1
  refine wpAny_pyIter_ascii q1.1 ?_
  refine⟨s1.heap.objs.size,[s1.heap.objs.size],_,_,H1,rfl,I1.kept (t':=s1.toks) fun b o e=>gV _ e,xJ z t _,⟨_,KG _ rfl,rfl,rfl⟩,fun b hb=>?_,q1.2⟩
  have e:b=s1.heap.objs.size:=by simpa using hb
  subst e
  exact I1.fpOk (KA _) (I1.hok.fresh (KA _))
 |ref c=>
  obtain⟨a,e,q⟩:=q1
  cases e
  cases r1
  rcases q with⟨⟨xs,hq⟩,q⟩|⟨⟨xs,hq⟩,q⟩
  ·obtain⟨its,rv,p,hz⟩:=I1.list hq
   refine QX (yX p) ?_
   refine⟨s1.heap.objs.size,[s1.heap.objs.size],_,_,H1,rfl,I1.kept (t':=s1.toks) fun b o e=>gV _ e,vm _ _,⟨_,KG _ rfl,rfl,rfl⟩,fun b hb=>?_,q⟩
   have e:b=s1.heap.objs.size:=by simpa using hb
   subst e
   exact I1.fpOk (KA _) (I1.hok.fresh (KA _))
  ·obtain⟨its,rv,p,hz⟩:=I1.tuple hq
   refine Uq (show s1.heap.IsTuple c its.toArray from p) ?_
   refine⟨s1.heap.objs.size,[s1.heap.objs.size],_,_,H1,rfl,I1.kept (t':=s1.toks) fun b o e=>gV _ e,tG _ _,⟨_,KG _ rfl,rfl,rfl⟩,fun b hb=>?_,q⟩
   have e:b=s1.heap.objs.size:=by simpa using hb
   subst e
   exact I1.fpOk (KA _) (I1.hok.fresh (KA _))
 |_=>obtain⟨_,e,_⟩:=q1;cases e⟩
theorem Bg:OpR X (binaryOp .Mult) (fun x y H Q=>∃z n,x=.str z∧y=.int n∧(-1000≤n∧n≤1000∧z.length≤1000)∧Q (.str (Txt.mul z n)) H):=by
 intro pins s σ H x y v u Q I rx ry h
 obtain⟨z,n,rfl,rfl,⟨h1,h2,h3⟩,q⟩:=h
 obtain⟨t,rfl⟩:=rx
 obtain⟨t',rfl⟩:=ry
 refine SB.mul ⟨?_,fun hn _=>?_,fun hn _=>?_⟩ fun t' k=>⟨.str _,H,I.tok k,⟨_,rfl⟩,q⟩
 ·rw[decide_eq_false (by omega),decide_eq_false (by omega)];rfl
 ·intro hgt
  have h5:(1000:Int)≤(2^63- 1)/n:=Sy (by omega) (by omega)
  omega
 ·have h6:z.length*n.toNat≤1000*1000:=Uw h3 (by omega)
  exact decide_eq_false (by rw[Mt];omega)
end
theorem Cq {J:It}{n:Nat}{it:Nat→V}{Pk:Hp→Prop}{g:TG}{tb:TS}{D:gn}{σ:St}{H:Hp}(T:dc J n it Pk)(Pv:Nat→St→Hp→Prop)(h0:Pv 0 σ H)(hl:∀i σ H,i≤n→Pv i σ H→Pk H)
  (hs:∀i σ H,i<n→Pv i σ H→g (it i) σ H fun σ2 H2=>tb {D with nx:=Pv (i+1),ct:=Pv (i+1),bk:=D.nx} σ2 H2)(hd:∀σ H,Pv n σ H→D.nx σ H):
  ∃W:Nat→Nat→St→Hp→Prop,(∃m,W 0 m σ H)∧∀i m σ H,W i m σ H→
   (J.stop i H∧D.nx σ H)∨(J.go i H∧∃N:St→Hp→Prop,(∀σ' H',N σ' H'→∃m',m'<m∧W (i+1) m' σ' H')∧∀x H',J.yld i H x H'→g x σ H' fun σ2 H2=>tb {D with nx:=N,ct:=N,bk:=D.nx} σ2 H2):=by
 refine⟨fun i m σ H=>m=n- i∧i≤n∧Pv i σ H,⟨n,by simp,Ly _,h0⟩,?_⟩
 rintro i m σ H ⟨rfl,hi,p⟩
 have q:=hl i σ H hi p
 by_cases hlt:i<n
 ·refine .inr ⟨T.go i H hlt q,Pv (i+1),fun σ' H' p'=>⟨n- (i+1),by omega,rfl,hlt,p'⟩,fun x H' y=>?_⟩
  obtain⟨rfl,rfl⟩:=T.yld i H x H' hlt q y
  exact hs i σ _ hlt p
 ·have e:i=n:=by omega
  subst e
  exact .inl ⟨T.stop H q,hd σ H p⟩
theorem uL {α β:Type}(f:β→α→β)(b:β)(l:List α)(i:Nat)(x:α)(h:l[i]?=some x):(l.take (i+1)).foldl f b=f ((l.take i).foldl f b) x:=by
 rw[Ul,h];simp
theorem iV {α β:Type}{f:α→β}{l:List α}{i:Nat}{x:β}(h:(l.map f)[i]?=some x):∃a,l[i]?=some a∧x=f a:=by
 rw[La]at h
 cases e:l[i]? with
 |none=>rw[e]at h;cases h
 |some a=>rw[e]at h;cases h;exact⟨a,rfl,rfl⟩
theorem dh.keep {H H':Hp}{f:Addr}{t:cV}{cs:List Addr}{cvs:List V}(k:∀b φ,H b=some (.ext φ)→H' b=some (.ext φ))(c:dh H f t cs cvs):dh H' f t cs cvs:=by
 obtain⟨⟨a,h1,h2⟩,h3⟩:=c
 refine⟨⟨a,k _ _ h1,k _ _ h2⟩,?_⟩
 clear h1 h2
 induction h3 with
 |nil=>exact .nil
 |cons r t ih=>exact .cons (k _ _ r) ih
theorem oI (k:List Key):(k.map kV).all jQ=true:=by
 rw[Sf,Mc]
 intro x _
 cases x<;>rfl
def bJ:Key→Tt
 |.inl i=>.int i
 |.inr z=>.str z
theorem jd {K:tx}{H:Hp}:∀k:List Key,DatVs K H (k.map kV) (k.map bJ)
 |[]=>.nil
 |.inl i::r=>.cons (.int i) (jd r)
 |.inr z::r=>.cons (.str z) (jd r)
theorem fO {K:tx}{H:Hp}{a:Addr}{k:List Key}(h:H a=some (.tup (k.map kV))):dF K H (.ref a) (.tuple (k.map bJ)):=.tup (SqT.of h) (jd k)
theorem fW:∀k l:List Key,Rk (k.map bJ) (l.map bJ)=decide (k=l)
 |[],[]=>by rfl
 |[],_::_=>by rw[decide_eq_false (by simp)];rfl
 |_::_,[]=>by rw[decide_eq_false (by simp)];rfl
 |a::r,b::s=>by
  show((bJ a).eqv (bJ b)&&Rk (r.map bJ) (s.map bJ))=_
  rw[fW r s]
  have e:(bJ a).eqv (bJ b)=decide (a=b):=by
   cases a<;>cases b
   ·rename_i i j
    show decide (i=j)=decide (NH i=NH j)
    simp
   ·show false=_;simp
   ·show false=_;simp
   ·rename_i i j
    show(i==j)=decide ((NA i:Key)=NA j)
    by_cases h:i=j<;>simp[h]
  rw[e]
  by_cases h1:a=b<;>by_cases h2:r=s<;>simp[h1,h2]
def vG:Key→Bool
 |.inl _=>true
 |.inr z=>OZ z
theorem cS:∀{k:List Key},k.all vG=true→Nc (k.map bJ)=true
 |[],_=>rfl
 |.inl i::r,h=>cS (k:=r) (by rw[Nk]at h;exact h)
 |.inr z::r,h=>by
  rw[Nk,Lq]at h
  show(OZ z&&Nc (r.map bJ))=true
  rw[show OZ z=true from h.1,cS h.2];rfl
theorem fw:∀k:List Key,Mg (k.map bJ)=0
 |[]=>rfl
 |.inl i::r=>by show max 0 (Mg (r.map bJ))=0;rw[fw r];rfl
 |.inr i::r=>by show max 0 (Mg (r.map bJ))=0;rw[fw r];rfl
theorem tc1 {i:Nat}{σ:St}{x:V}{H:Hp}{R:List V→Hp→Prop}(e:σ[i]?=some (some x))(h:R [x] H):ag (af i) am σ H R:=by
 unfold ag am af
 rw[e];exact h
theorem CH (k:List Key):(NJ (k.map bJ)).depth≤150:=by show Mg (k.map bJ)+1≤150;rw[fw];decide
theorem vg {k l:List Key}(h:(!(NJ (k.map bJ)).eqv (.tuple (l.map bJ)))=true):k≠l:=fun e=>by
 have h:(!PyData.eqvAll (k.map bJ) (l.map bJ))=true:=h
 rw[fW,decide_eq_true e]at h;cases h
theorem Du {k l:List Key}(h:(!(NJ (k.map bJ)).eqv (.tuple (l.map bJ)))=false):k=l:=by
 have h:(!PyData.eqvAll (k.map bJ) (l.map bJ))=false:=h
 rw[fW]at h
 simpa using h
def oJ (K:tx)(ns:List Str):Bool:=decide ((ns.map fun n=>(Oq K n).map (·.2)).Nodup)
theorem xU {l:List Addr}(h:(l.map some).Nodup):l.Nodup:=Va some (fun a b h e=>h (congrArg some e)) h
section
variable {X:Cx}
def zO:R2:=fun _ _ _ _=>False
theorem Bc:OpR X (binaryOp .Mult) zO:=fun _ _ _ _ _ _ _ _ _ _ _ _ h=>h.elim
def kU:R2:=fun x y H Q=>match x,y with
 |.str z,.int n=>(-1000≤n∧n≤1000∧z.length≤1000)∧Q (.str (Txt.mul z n)) H
 |.ref a,.int n=>zO (.ref a) (.int n) H Q
 |x,y=>xS x y H Q
theorem pJ:OpR X (binaryOp .Mult) kU:=(Bg.or (Bc.or JZ)).imp fun x y H Q q=>by
 unfold kU at q
 split at q
 ·exact .inl ⟨_,_,rfl,rfl,q.1,q.2⟩
 ·exact .inr (.inl q)
 ·exact .inr (.inr q)
end
section
variable {X:Cx}
theorem vE:OpR X (compareOp .IsNot) (fun x y H Q=>∃b c,x=.bl b∧y=.bl c∧Q (.bl (!decide (b=c))) H):=by
 intro pins s σ H x y v u Q I rx ry h
 obtain⟨b,c,rfl,rfl,q⟩:=h
 cases rx
 cases ry
 refine wpAny_isNot_plain (by rfl) (bi I q ?_)
 cases b<;>cases c<;>rfl
def gH:R2:=fun x y H Q=>match x,y with
 |.bl b,.bl c=>Q (.bl (!decide (b=c))) H
 |x,y=>tY x y H Q
theorem kP:OpR X (compareOp .IsNot) gH:=(vE.or CN).imp fun x y H Q q=>by
 unfold gH at q
 split at q
 ·exact .inl ⟨_,_,rfl,rfl,q⟩
 ·exact .inr q
theorem wy {x y:Str}{px py ep pos:Pos}{ek:Nat}{e:Expr}{te:TE}(i j:Nat)(hN:X.N.Nodup)(hc:X.calm=true)(he:QE X e te)(hi:X.N[i]?=some x:=by rfl)(hj:X.N[j]?=some y:=by rfl)
  (hx:Loc X.env.scope x:=by first|exact .inl rfl|exact .inr rfl)(hy:Loc X.env.scope y:=by first|exact .inl rfl|exact .inr rfl)
  (fx:X.fn x=true∨X.env.scope.names.lookup x=some .local:=by first|exact .inl rfl|exact .inr rfl)(fy:X.fn y=true∨X.env.scope.names.lookup y=some .local:=by first|exact .inl rfl|exact .inr rfl)
  (hs:swapsWithSole [.Tuple [.Name x px,.Name y py] ek ep] e pos.line X.env=pure false:=by rfl)(hw:swappedStores [.Tuple [.Name x px,.Name y py] ek ep] e X.env=pure none:=by rfl):
  QS X (.Assign [.Tuple [.Name x px,.Name y py] ek ep] e pos) (aC te (kq X.K 2 (cg (aw i) (cg (aw j) ki)))):=
 ⟨mn he.out (rl hc (dq (dv hN hi hx fx) (dq (dv hN hj hy fy) nC))) hs hw⟩
end
end L2
namespace HT
open PySem PyProof.Rows
theorem sub_tuple_dict:isSubtype (.type "tuple") (.type "dict")=pure false:=by rw[Nx];kernel_rfl
theorem mZ:isSubtype (.type "dict") (.type "tuple")=pure false:=by rw[Nx];kernel_rfl
theorem uB (l b:Addr)(o:Obj)(hc:o.cls=.type "dict")(o2:Obj)(hc2:o2.cls=.type "tuple"):
  Meets (NS.«dict.__eq__» ⟨[.ref l,.ref b],[]⟩) (fun _ R s=>s.heap.get? l=some o∧s.heap.get? b=some o2∧R (.ok (.ret .notImplemented)) s):=
 .of_wp fun prog w A R s h=>by
  obtain⟨hp,g,d,tk,os⟩:=s;obtain⟨hl,hb,h⟩:=h;obtain⟨cls,dd,data,sl⟩:=o;obtain⟨cls2,dd2,data2,sl2⟩:=o2
  simp only at hc hc2;subst hc hc2
  have f1:=sub_tuple_dict;wp_walk using PZ hl,PZ hb;exact⟨_,rfl,h⟩
theorem rJ (l b:Addr)(o:Obj)(hc:o.cls=.type "tuple")(o2:Obj)(hc2:o2.cls=.type "dict"):
  Meets (NS.«tuple.__eq__» ⟨[.ref l,.ref b],[]⟩) (fun _ R s=>s.heap.get? l=some o∧s.heap.get? b=some o2∧R (.ok (.ret .notImplemented)) s):=
 .of_wp fun prog w A R s h=>by
  obtain⟨hp,g,d,tk,os⟩:=s;obtain⟨hl,hb,h⟩:=h;obtain⟨cls,dd,data,sl⟩:=o;obtain⟨cls2,dd2,data2,sl2⟩:=o2
  simp only at hc hc2;subst hc hc2
  have f1:=mZ;wp_walk using PZ hl,PZ hb;exact⟨_,rfl,h⟩
end HT
namespace L2
open PySem PySem.Spec PyProof.Rows
section
variable {X:Cx}
def zu (K:tx):R2:=fun x y H Q=>∃a b ys,x=.ref a∧y=.ref b∧((∃kvs,H a=some (.dK kvs))∨∃kvs,H a=some (.dT kvs))∧SqT K H b ys∧Q (.bl false) H
theorem An (hu:X.A.units<cLine):OpR X (compareOp .Eq) (zu X.K):=by
 intro pins s σ H x y v u Q I rx ry h
 obtain⟨a,b,ys,rfl,rfl,ha,hb,q⟩:=h
 cases rx
 cases ry
 obtain⟨its,_,p1,_⟩:=I.tuple hb
 obtain⟨o2,ho2,hc2,_⟩:=id p1
 obtain⟨o,ho,hc⟩:∃o,s.heap.get? a=some o∧o.cls=.type "dict":=by
  rcases ha with⟨kvs,e⟩|⟨kvs,e⟩
  ·obtain⟨_,_,_,_,o,_,_,h1,h2,_⟩:=(show aT X.prog X.w H s.heap a (.dK kvs)from I.hok a _ e)
   exact⟨o,h1,h2.1⟩
  ·obtain⟨_,_,_,_,o,_,_,h1,h2,_⟩:=(show aT X.prog X.w H s.heap a (.dT kvs)from I.hok a _ e)
   exact⟨o,h1,h2.1⟩
 have hne:a≠b:=fun e=>by
  subst e
  rw[ho]at ho2;cases ho2
  rw[hc]at hc2;exact absurd hc2 (by simp)
 show wpAny _ _ (richCompare .Eq (.ref a) (.ref b)) _ _ s
 exact SeqAt.rc_eq_decline_or (k:=false) ⟨_,ho,hc⟩ ⟨_,ho2,hc2⟩ (by decide) F.sub_tuple_dict F.slot_dict_eq Tf
  (fun _ hq=>UG F.slot_dict_eq ⟨_,ho,hc⟩ F.entry_dict_eq (F.args_dict_eq_2 _ _) (HT.uB a b o hc o2 hc2) ⟨ho,ho2,hq⟩)
  (fun _ hq=>UG Tf ⟨_,ho2,hc2⟩ F.entry_tuple_eq (F.args_tuple_eq_2 _ _) (HT.rJ b a o2 hc2 o hc) ⟨ho2,ho,hq⟩)
  (fun _ hq=>wpAny_isSame_ref_other hne ho ho2 (by rw[hc];simp) hq) (.inr hu) ⟨.bl false,H,I,rfl,q⟩
def cD (K:tx):R2:=fun x y H Q=>match x,y with
 |.ref a,.ref b=>DU K (.ref a) (.ref b) H Q∨tT K (.ref a) (.ref b) H Q∨zu K (.ref a) (.ref b) H Q
 |.ref a,y=>tT K (.ref a) y H Q
 |x,.ref b=>tT K x (.ref b) H Q
 |x,y=>mEq x y H Q
theorem cU (hu:X.A.units+150<cLine):OpR X (compareOp .Eq) (cD X.K):=((Dm (by omega)).or ((Ex hu).or ((An (by omega)).or oEq))).imp fun x y H Q q=>by
 unfold cD at q
 split at q
 ·exact q.elim .inl fun z=>z.elim (fun z=>.inr (.inl z)) fun z=>.inr (.inr (.inl z))
 ·exact .inr (.inl q)
 ·exact .inr (.inl q)
 ·exact .inr (.inr (.inr q))
end
end L2
namespace HT
open PySem PyProof.Rows
theorem lR:typeLookup (.type "tuple") "__reversed__"=pure none:=by rw[MS,Md];kernel_rfl
theorem jX:Manifest.owners.lookup (String.ofList ['d','e','s','r','e','v','e','r'].reverse)=some Manifest.sig_reversed:=by kernel_rfl
theorem dL:Slot "reversed" "__next__" "reversed.__next__":=
 .of (owner:="reversed") (n:="__next__") (by rw[MS,Md];kernel_rfl) (by decide+kernel) (by decide+kernel) (by decide+kernel)
  (by first|exact .inl (by decide+kernel)|exact .inr (by decide+kernel)) (by rw[Nx];kernel_rfl)
theorem iJ:entryFor table "reversed.__next__"=some NS.«reversed.__next__»:=entryFor_of_tree (by kernel_rfl)
theorem jJ (a:Gt):argsOk "reversed.__next__" ⟨[a],[]⟩:=by
 unfold argsOk;rw[SJ (id:="reversed.__next__") (n:=['_','_','t','x','e','n','_','_']) (o:=['d','e','s','r','e','v','e','r']) (by kernel_rfl) jX];kernel_rfl
theorem jK:Slot "reversed" "__iter__" "reversed.__iter__":=
 .of (owner:="reversed") (n:="__iter__") (by rw[MS,Md];kernel_rfl) (by decide+kernel) (by decide+kernel) (by decide+kernel)
  (by first|exact .inl (by decide+kernel)|exact .inr (by decide+kernel)) (by rw[Nx];kernel_rfl)
theorem oX (a:Gt):argsOk "reversed.__iter__" ⟨[a],[]⟩:=by
 unfold argsOk;rw[SJ (id:="reversed.__iter__") (n:=['_','_','r','e','t','i','_','_']) (o:=['d','e','s','r','e','v','e','r']) (by kernel_rfl) jX];kernel_rfl
theorem nv:entryFor table "reversed.__iter__"=some NS.«dict_keyiterator.__iter__»:=
 entryFor_alias (id':="dict_keyiterator.__iter__") (by kernel_rfl) (by first|rfl|decide+kernel|(unfold String.splitOn;simp+decide [String.splitOnAux])) (by decide+kernel) (by kernel_rfl)
theorem oU:Slot "reversed" "__init__" "object.__init__":=
 .of (owner:="object") (n:="__init__") (by rw[MS,Md];kernel_rfl) (by decide+kernel) (by decide+kernel) (by decide+kernel)
  (by first|exact .inl (by decide+kernel)|exact .inr (by decide+kernel)) (by rw[Nx];kernel_rfl)
theorem ue:TypeCalled "reversed" "reversed.__new__" "object.__init__":=
 ⟨by decide+kernel,PySem.F.create_reversed,⟨_,_,PySem.F.mro_reversed⟩,PySem.F.made_reversed,by decide+kernel,PySem.F.sub_reversed_self,oU⟩
theorem qm:isSubtype (.type "tuple") (.type "dict")=pure false:=by rw[Nx];kernel_rfl
def lA (t:Addr)(i:Int):Obj:={cls:=.type "reversed",data:=.fields #[.ref t,rawInt i]}
theorem oS (t:Addr)(items:Array Gt):Meets (NS.«reversed.__new__» ⟨[.type "reversed",.ref t],[]⟩) (fun _ R s=>QK s.heap t items∧(items.size:Int)<2^63∧
  R (.ok (.ret (.ref s.heap.objs.size))) {s with heap:=s.heap.push (lA t ((items.size:Int)- 1)),toks:=s.toks+1+1}):=
 .of_wp fun prog w A R s h=>by
  obtain⟨ht,hz,h⟩:=h
  unfold NS.«reversed.__new__»
  refine cW (MR (newClass_reversed _) ?_)
  try dsimp only
  refine cW (MR (a:=()) (by first|rfl|kernel_rfl) ?_)
  refine cW (MR (a:=()) (by first|rfl|kernel_rfl) ?_)
  try dsimp only
  refine cW (Nm ht.typeIs lR ?_)
  try dsimp only
  refine cW (cW (Oz (T:="tuple") (b:=false) ht.typeIs qm ?_))
  rw[if_neg (by simp)]
  refine cW (Nm (r:=some (.builtin "tuple.__getitem__")) ht.typeIs slot_tuple_getitem.lookup ?_)
  show wpAny _ _ (if (["tuple.__getitem__","str.__getitem__","bytes.__getitem__","bytearray.__getitem__","memoryview.__getitem__","numpy.ndarray.__getitem__","sqlite3.Row.__getitem__"].contains "tuple.__getitem__")=true then _ else _) _ _ s
  rw[if_pos (by decide)]
  refine If ?_
  rw[if_neg (by simp)]
  refine cW (len_tuple ht hz ?_)
  refine cW (MR (a:=some ((items.size:Nat):Int)) rfl ?_)
  show wpAny _ _ (newObj (.type "reversed") (.fields #[.ref t,rawInt ((items.size:Int)- 1)])>>=_) _ _ _
  exact cW (LJ (If ⟨_,rfl,h⟩))
section
variable {prog:KS}{w:LI}{A:Lj}{E:Gt→Ky→Prop}{s:Ky}
theorem fD {t:Addr}{items:Array Gt}{Q:Gt→Ky→Prop}(ht:QK s.heap t items)(hz:(items.size:Int)<2^63)
  (h:Q (.ref s.heap.objs.size) {s with heap:=s.heap.push (lA t ((items.size:Int)- 1)),toks:=s.toks+1+1}):wpAny (model prog w) A (call (.type "reversed") [.ref t]) Q E s:=
 callType_new ue (by decide) (PySem.F.typeCall_reversed_1 _) (PySem.F.newCall_reversed_1 _) (fun obj=>RE obj _) PySem.F.entry_reversed_new (oS t items) ⟨ht,hz,⟨_,KG _ rfl,rfl⟩,h⟩
def fu (h:Heap)(a t:Addr)(i:Int):Prop:=h.get? a=some (lA t i)
theorem fu.typeIs {a t:Addr}{i:Int}(x:fu s.heap a t i):s.TypeIs (.ref a) "reversed":=⟨_,x,rfl⟩
theorem jI {it t:Addr}{i:Nat}{items:Array Gt}{x:Gt}{Q:Option Gt→Ky→Prop}(hit:fu s.heap it t (i:Int))(ht:QK s.heap t items)(hz:(items.size:Int)<2^63)(hx:items[i]?=some x)
  (hQ:∀h',fu h' it t ((i:Int)- 1)→MK it s.heap h'→Q (some x) {s with heap:=h',toks:=s.toks+1}):wpAny (model prog w) A (pyNext (.ref it)) Q E s:=by
 have hi:i<items.size:=by
  rcases MV i items.size with h|h
  ·exact h
  ·rw[NU h]at hx;cases hx
 unfold pyNext
 refine cW (Nt (LA (name:=Mf "__next__") hit.typeIs dL
  (LB dL hit.typeIs iJ ?_ (jJ _))))
 unfold NS.«reversed.__next__»
 refine cW (MR (a:=(KJ it,[])) rfl ?_)
 try dsimp only
 refine cW (Lp hit rfl (x:=.ref t) rfl ?_)
 refine cW (Lp hit rfl (x:=rawInt (i:Int)) rfl ?_)
 show wpAny _ _ (if (i:Int)<0 then _ else _) _ _ s
 rw[if_neg (by omega)]
 refine cW (Nm (r:=some (.builtin "tuple.__getitem__")) ht.typeIs slot_tuple_getitem.lookup ?_)
 rw[if_neg (by simp)]
 refine cW (Ua ?_)
 refine cW (Nt (getItem_tuple (j:=i) (x:=x) ht (by omega) (by omega) ?_ hx ?_))
 ·unfold seqIndex?
  simp
  omega
 ·refine cW (Lp (s:={s with toks:=s.toks+1}) hit rfl (x:=rawInt (i:Int)) rfl ?_)
  refine cW (Mr hit (by simp) fun h' y sb=>?_)
  exact If ⟨x,rfl,If (hQ h' y sb)⟩
theorem jU {it t:Addr}{Q:Option Gt→Ky→Prop}(hh:A.handled=none)(hit:fu s.heap it t (-1))
  (hQ:∀h',QP it s.heap h'→Q none {s with heap:=h'}):wpAny (model prog w) A (pyNext (.ref it)) Q E s:=by
 unfold pyNext
 refine cW (Nt (LA (name:=Mf "__next__") hit.typeIs dL
  (LB dL hit.typeIs iJ ?_ (jJ _))))
 unfold NS.«reversed.__next__»
 refine cW (MR (a:=(KJ it,[])) rfl ?_)
 try dsimp only
 refine cW (Lp hit rfl (x:=.ref t) rfl ?_)
 refine cW (Lp hit rfl (x:=rawInt (-1)) rfl ?_)
 show wpAny _ _ (if (-1:Int)<0 then _ else _) _ _ s
 rw[if_pos (by decide)]
 refine cW (OF ?_)
 refine cW (cW (Mr hit (by simp) fun h1 y1 s1=>?_))
 refine Mr y1 (by simp) fun h2 y2 s2=>?_
 first
 |show wpAny _ _ (newExc (.type "StopIteration") []>>=_) _ _ _
 |(refine cW ?_;show wpAny _ _ (newExc (.type "StopIteration") []>>=_) _ _ _)
 refine cW ?_
 simp only[newExc,newTuple]
 refine cW (LJ ?_ (by size_fits))
 refine cW (m:=firstArgMember _ _) (MR (a:=Ml) (by first|rfl|(simp only[firstArgMember];rfl)) ?_)
 refine LJ ?_ (by size_fits)
 simp only[raiseNew]
 refine cW (wpAny_handled ?_)
 first|rw[show A.in1.handled=none from hh]|rw[hh]
 refine cW (If (wpAny_throw ?_))
 refine cW (Oz (T:="StopIteration") (b:=true) ⟨_,KG _ rfl,rfl⟩ Sh ?_)
 have eb:QP it s.heap h2:=fun c o hc e=>s2.extBut _ _ hc (s1.extBut _ _ hc e)
 exact If (hQ _ ((eb.push _).push _))
theorem lL {it t:Addr}{i:Int}{Q:Gt→Ky→Prop}(hit:fu s.heap it t i)(h:Q (.ref it) s):wpAny (model prog w) A (pyIter (.ref it)) Q E s:=by
 refine QV hit.typeIs jK (LB jK hit.typeIs nv ?_ (oX _))
 show wpAny _ _ (ret (.ref it)) _ _ s
 exact If ⟨_,rfl,"reversed",_,hit.typeIs,dL.lookup,h⟩
end
end HT
namespace L2
open PySem PySem.Spec PyProof.Rows
def Ep (K:tx)(a:Addr)(xs:List V):It:=
 ⟨fun i H=>SqT K H a xs∧i<xs.length,fun i H x H'=>H'=H∧xs.reverse[i]?=some x,fun i _=>xs.length≤i⟩
theorem yM {P:KS}{w:LI}{K:tx}{tg:Expr}(a it:Addr)(xs:List V):kJ P w K tg (Ep K a xs) [it] it (fun i h=>i≤xs.length∧HT.fu h it a ((xs.length:Int)- 1- i))where
 mem:=by simp
 obj:=fun i h st b hb=>by
  have e:b=it:=by simpa using hb
  subst e
  exact⟨_,st.2,fun v z=>by cases z⟩
 keep:=fun i h h' st k=>⟨st.1,k it (by simp) _ st.2⟩
 item:=by
  intro X hP hw hK hc i pins s σ H E I hf st hg
  subst hP hw hK
  obtain⟨hq,hi⟩:=hg
  obtain⟨its,rv,p,hz⟩:=I.tuple hq
  obtain⟨f0,f1,f2,f3,f4,f5⟩:=hf it (by simp)
  have hl:=rv.length
  obtain⟨x,hx⟩:∃x,xs[xs.length- 1- i]?=some x:=⟨_,KB (by omega)⟩
  obtain⟨u,hu,ru⟩:=rv.get hx
  have hrx:xs.reverse[i]?=some x:=by rw[Nz hi];exact hx
  have e1:(xs.length:Int)- 1- i=((xs.length- 1- i:Nat):Int):=by omega
  have st2:=st.2
  rw[e1]at st2
  refine HT.jI st2 (show QK s.heap a its.toArray from p) (by rw[KH];rw[Mt]at hz;omega) (x:=u) (by simpa using hu) fun h' st' sb=>?_
  have I1:Inv X pins σ H {s with heap:=h',toks:=s.toks+1}:=I.turned (t':=s.toks+1) (fun b o hb e=>(sb.2 b hb).trans e) f0 f1 f3 f4 f5
  have e2:((xs.length- 1- i:Nat):Int)- 1=(xs.length:Int)- 1- ((i+1:Nat):Int):=by omega
  rw[e2]at st'
  exact⟨u,rfl,lb (s:={s with heap:=h',toks:=s.toks+1}) st' rfl rfl (by decide) ⟨x,H,I1,ru,⟨rfl,hrx⟩,⟨hi,st'⟩,fun b hb=>(hf b hb).1⟩⟩
 done:=by
  intro X hP hw hK hc i pins s σ H E I hf st hg
  subst hP hw hK
  obtain⟨f0,f1,f2,f3,f4,f5⟩:=hf it (by simp)
  have hi:xs.length≤i:=hg
  have e1:(xs.length:Int)- 1- i= -1:=by have:=st.1;omega
  have st2:=st.2
  rw[e1]at st2
  exact HT.jU (I.ok.hd hc) st2 fun h' eb=>⟨rfl,I.turned (t':=s.toks) (fun b o hb e=>eb b o hb e) f0 f1 f3 f4 f5⟩
 self:=fun A i s Q E st h=>HT.lL st.2 h
theorem lw:bootBuiltins "reversed"=some (.type "reversed"):=by decide+kernel
section
variable {X:Cx}{a:Expr}{t:TA}{p pos:Pos}{tg:Expr}
theorem xW:OpR X (binaryOp .FloorDiv) (rI (fun _ j=>0<j∧j<1267650600228229401496703205376) fun i j=>.int (i/j)):=opI fun i j _ _ _ _ _ hc q=>by
 have h1:(0:Int)<j:=hc.1
 have h2:j<1267650600228229401496703205376:=hc.2
 have h3:j.natAbs.log2<100:=(SZ (by omega)).mpr (Nat.lt_of_lt_of_eq (m:=1267650600228229401496703205376) (by omega) (by decide))
 exact floordiv_int (by omega) (by rw[Int.fdiv_eq_ediv_of_nonneg i (by omega)];exact q) (.inl (PyProof.noPylong_of_log2 (by omega)))
def eu:R2:=fun x y H Q=>match x,y with|.int i,.int j=>(0<j∧j<1267650600228229401496703205376)∧Q (.int (i/j)) H|_,_=>False
theorem fA:OpR X (binaryOp .FloorDiv) eu:=xW.imp fun x y H Q q=>by
 unfold eu at q
 split at q
 ·exact⟨_,_,rfl,rfl,q.1,q.2⟩
 ·exact q.elim
end
section
variable {α:Type}{l:List α}
theorem tX (h:l.length=0):l=[]:=List.length_eq_zero_iff.mp h
theorem dH (h:l.length=1):∃a0,l=[a0]:=by
 cases l with
 |nil=>simp at h
 |cons a l=>
  obtain rfl:=tX (l:=l) (by simpa using h)
  exact⟨a,rfl⟩
theorem zy (h:l.length=2):∃a0 a1,l=[a0,a1]:=by
 cases l with
 |nil=>simp at h
 |cons a l=>
  obtain⟨b0,rfl⟩:=dH (l:=l) (by simpa using h)
  exact⟨a,b0,rfl⟩
theorem uA (h:l.length=3):∃a0 a1 a2,l=[a0,a1,a2]:=by
 cases l with
 |nil=>simp at h
 |cons a l=>
  obtain⟨b0,b1,rfl⟩:=zy (l:=l) (by simpa using h)
  exact⟨a,b0,b1,rfl⟩
theorem zI (h:l.length=4):∃a0 a1 a2 a3,l=[a0,a1,a2,a3]:=by
 cases l with
 |nil=>simp at h
 |cons a l=>
  obtain⟨b0,b1,b2,rfl⟩:=uA (l:=l) (by simpa using h)
  exact⟨a,b0,b1,b2,rfl⟩
theorem Ab (h:l.length=5):∃a0 a1 a2 a3 a4,l=[a0,a1,a2,a3,a4]:=by
 cases l with
 |nil=>simp at h
 |cons a l=>
  obtain⟨b0,b1,b2,b3,rfl⟩:=zI (l:=l) (by simpa using h)
  exact⟨a,b0,b1,b2,b3,rfl⟩
theorem FH (h:l.length=6):∃a0 a1 a2 a3 a4 a5,l=[a0,a1,a2,a3,a4,a5]:=by
 cases l with
 |nil=>simp at h
 |cons a l=>
  obtain⟨b0,b1,b2,b3,b4,rfl⟩:=Ab (l:=l) (by simpa using h)
  exact⟨a,b0,b1,b2,b3,b4,rfl⟩
end
section
variable {X:Cx}
def zM:V→List V→Hp→VK→Prop:=fun x vs H Q=>∃a y d o,x=.ref a∧vs=[y,d]∧cB H a y o∧Q (o.getD d) H
theorem AM (hu:X.A.units+1<cLine):MtR X "dict.get" zM:=by
 intro pins s σ H x vs v us Q I rx rv h
 obtain⟨a,y,d,o,rfl,rfl,g,q⟩:=h
 obtain rfl:v=KJ a:=rx
 obtain⟨uy,ud,rfl,ry,rd⟩:=rv.two
 exact CW hu I g ry rd fun w' s' I' r'=>⟨_,H,I',r',q⟩
end
theorem bc.le {A:Lj}{m n:Nat}(h:bc m A)(d:n≤m:=by first|decide|omega):bc n A:=h.mono d
theorem scF {N P:List Str}{sc:Scope}(h1:sc.kind=.function:=by rfl)(h2:sc.isCoroutine=false:=by rfl)(h3:sc.isGenerator=false:=by rfl)(h4:N.Nodup:=by decide+kernel)(h5:N.take P.length=P:=by rfl)
 (h6:∀x∈P,sc.names.lookup x=some .local∨sc.names.lookup x=some .cell:=by decide+kernel)(h7:∀y∈sc.names,y.2≠.free:=by decide+kernel):aA N P sc:=⟨h1,h2,h3,h4,h5,h6,h7⟩
structure Fm (K:tx)(mg:Str→Option Gt)(x qual:Str)(st:Stmt)(a:Addr)(d:KP)(ps:List Str):Prop where
 f:Fun K x qual st a d
 m:mg x=some (.ref a)
 b:br K d ps []
structure Fa (K:tx)(x qual:Str)(st:Stmt)(a:Addr)(d:KP):Prop where
 m:NV K mainGlobals x=some (some (.ref a))
 f:Fun K x qual st a d
section
variable {P:KS}{w:LI}{K:tx}{mg:Str→Option Gt}{base h:Heap}{x qual:Str}{st:Stmt}{a:Addr}{d:KP}{ps:List Str}
theorem bg {oc:Gt}{od an:Option Addr}{osl:Array (Option Gt)}{kV doc pm cdv ct:Gt}(m:NV K mainGlobals x=some (some (.ref a)))(l:K.lookup a=some ⟨oc,od,.func (NL x qual (bE st) (aM st) (ak st) .none kV doc pm an cdv ct),osl⟩)
 (c:TL K cdv qual=true)(k:Oh K (.ref a)=true):Fa K x qual st a (NL x qual (bE st) (aM st) (ak st) .none kV doc pm an cdv ct):=⟨m,dz l c k⟩
theorem Fa.code (F:Fa K x qual st a d)(X:K.In h)(G:h.Ns mainGlobals mg){z t:Addr}(ht:Oq K x=some (z,t)):d.code=.ref z:=by
 obtain⟨oc,od,kV,doc,pm,an,cdv,ct,osl,e,lk,hcd⟩:=F.f.ex
 exact W.law_code X G ht (NW X G F.m) (X _ _ lk) rfl
theorem Fun.bt {p:Str}(F:Fun K x qual st a d)(hb:∀(kV doc pm:Gt)(an:Option Addr)(cdv ct v:Gt),bindArgs (NL x qual (bE st) (aM st) (ak st) .none kV doc pm an cdv ct) ⟨[v],[]⟩=pure [(p,v)]:=by intros;rfl)(s:Ky)(v:Gt):SV s d ⟨[v],[]⟩ [(p,v)]:=by
 obtain⟨oc,od,kV,doc,pm,an,cdv,ct,osl,rfl,lk,hcd⟩:=F.ex
 exact .of_eq (hb kV doc pm an cdv ct v)
theorem Fun.b0 (F:Fun K x qual st a d)(hb:∀(kV doc pm:Gt)(an:Option Addr)(cdv ct:Gt),bindArgs (NL x qual (bE st) (aM st) (ak st) .none kV doc pm an cdv ct) ⟨[],[]⟩=pure (NK [] []):=by intros;rfl):br K d [] []:=F.binds fun kV doc pm an cdv ct us hl=>by
 obtain rfl:=L2.tX hl
 exact hb kV doc pm an cdv ct
theorem Fa.fm0 (F:Fa K x qual st a d)(X:K.In h)(G:h.Ns mainGlobals mg)(hb:∀(kV doc pm:Gt)(an:Option Addr)(cdv ct:Gt),bindArgs (NL x qual (bE st) (aM st) (ak st) .none kV doc pm an cdv ct) ⟨[],[]⟩=pure (NK [] []):=by intros;rfl):Fm K mg x qual st a d []:=⟨F.f,NW X G F.m,F.f.b0 hb⟩
theorem Fun.b1 {p0:Str}(F:Fun K x qual st a d)(hb:∀(kV doc pm:Gt)(an:Option Addr)(cdv ct u0:Gt),bindArgs (NL x qual (bE st) (aM st) (ak st) .none kV doc pm an cdv ct) ⟨[u0],[]⟩=pure (NK [p0] [u0]):=by intros;rfl):br K d [p0] []:=F.binds fun kV doc pm an cdv ct us hl=>by
 obtain⟨u0,rfl⟩:=L2.dH hl
 exact hb kV doc pm an cdv ct u0
theorem Fa.fm1 {p0:Str}(F:Fa K x qual st a d)(X:K.In h)(G:h.Ns mainGlobals mg)(hb:∀(kV doc pm:Gt)(an:Option Addr)(cdv ct u0:Gt),bindArgs (NL x qual (bE st) (aM st) (ak st) .none kV doc pm an cdv ct) ⟨[u0],[]⟩=pure (NK [p0] [u0]):=by intros;rfl):Fm K mg x qual st a d [p0]:=⟨F.f,NW X G F.m,F.f.b1 hb⟩
theorem Fun.b2 {p0 p1:Str}(F:Fun K x qual st a d)(hb:∀(kV doc pm:Gt)(an:Option Addr)(cdv ct u0 u1:Gt),bindArgs (NL x qual (bE st) (aM st) (ak st) .none kV doc pm an cdv ct) ⟨[u0,u1],[]⟩=pure (NK [p0,p1] [u0,u1]):=by intros;rfl):br K d [p0,p1] []:=F.binds fun kV doc pm an cdv ct us hl=>by
 obtain⟨u0,u1,rfl⟩:=L2.zy hl
 exact hb kV doc pm an cdv ct u0 u1
theorem Fa.fm2 {p0 p1:Str}(F:Fa K x qual st a d)(X:K.In h)(G:h.Ns mainGlobals mg)(hb:∀(kV doc pm:Gt)(an:Option Addr)(cdv ct u0 u1:Gt),bindArgs (NL x qual (bE st) (aM st) (ak st) .none kV doc pm an cdv ct) ⟨[u0,u1],[]⟩=pure (NK [p0,p1] [u0,u1]):=by intros;rfl):Fm K mg x qual st a d [p0,p1]:=⟨F.f,NW X G F.m,F.f.b2 hb⟩
theorem Fun.b3 {p0 p1 p2:Str}(F:Fun K x qual st a d)(hb:∀(kV doc pm:Gt)(an:Option Addr)(cdv ct u0 u1 u2:Gt),bindArgs (NL x qual (bE st) (aM st) (ak st) .none kV doc pm an cdv ct) ⟨[u0,u1,u2],[]⟩=pure (NK [p0,p1,p2] [u0,u1,u2]):=by intros;rfl):br K d [p0,p1,p2] []:=F.binds fun kV doc pm an cdv ct us hl=>by
 obtain⟨u0,u1,u2,rfl⟩:=L2.uA hl
 exact hb kV doc pm an cdv ct u0 u1 u2
theorem Fa.fm3 {p0 p1 p2:Str}(F:Fa K x qual st a d)(X:K.In h)(G:h.Ns mainGlobals mg)(hb:∀(kV doc pm:Gt)(an:Option Addr)(cdv ct u0 u1 u2:Gt),bindArgs (NL x qual (bE st) (aM st) (ak st) .none kV doc pm an cdv ct) ⟨[u0,u1,u2],[]⟩=pure (NK [p0,p1,p2] [u0,u1,u2]):=by intros;rfl):Fm K mg x qual st a d [p0,p1,p2]:=⟨F.f,NW X G F.m,F.f.b3 hb⟩
theorem Fun.b4 {p0 p1 p2 p3:Str}(F:Fun K x qual st a d)(hb:∀(kV doc pm:Gt)(an:Option Addr)(cdv ct u0 u1 u2 u3:Gt),bindArgs (NL x qual (bE st) (aM st) (ak st) .none kV doc pm an cdv ct) ⟨[u0,u1,u2,u3],[]⟩=pure (NK [p0,p1,p2,p3] [u0,u1,u2,u3]):=by intros;rfl):br K d [p0,p1,p2,p3] []:=F.binds fun kV doc pm an cdv ct us hl=>by
 obtain⟨u0,u1,u2,u3,rfl⟩:=L2.zI hl
 exact hb kV doc pm an cdv ct u0 u1 u2 u3
theorem Fa.fm4 {p0 p1 p2 p3:Str}(F:Fa K x qual st a d)(X:K.In h)(G:h.Ns mainGlobals mg)(hb:∀(kV doc pm:Gt)(an:Option Addr)(cdv ct u0 u1 u2 u3:Gt),bindArgs (NL x qual (bE st) (aM st) (ak st) .none kV doc pm an cdv ct) ⟨[u0,u1,u2,u3],[]⟩=pure (NK [p0,p1,p2,p3] [u0,u1,u2,u3]):=by intros;rfl):Fm K mg x qual st a d [p0,p1,p2,p3]:=⟨F.f,NW X G F.m,F.f.b4 hb⟩
theorem Fun.b5 {p0 p1 p2 p3 p4:Str}(F:Fun K x qual st a d)(hb:∀(kV doc pm:Gt)(an:Option Addr)(cdv ct u0 u1 u2 u3 u4:Gt),bindArgs (NL x qual (bE st) (aM st) (ak st) .none kV doc pm an cdv ct) ⟨[u0,u1,u2,u3,u4],[]⟩=pure (NK [p0,p1,p2,p3,p4] [u0,u1,u2,u3,u4]):=by intros;rfl):br K d [p0,p1,p2,p3,p4] []:=F.binds fun kV doc pm an cdv ct us hl=>by
 obtain⟨u0,u1,u2,u3,u4,rfl⟩:=L2.Ab hl
 exact hb kV doc pm an cdv ct u0 u1 u2 u3 u4
theorem Fa.fm5 {p0 p1 p2 p3 p4:Str}(F:Fa K x qual st a d)(X:K.In h)(G:h.Ns mainGlobals mg)(hb:∀(kV doc pm:Gt)(an:Option Addr)(cdv ct u0 u1 u2 u3 u4:Gt),bindArgs (NL x qual (bE st) (aM st) (ak st) .none kV doc pm an cdv ct) ⟨[u0,u1,u2,u3,u4],[]⟩=pure (NK [p0,p1,p2,p3,p4] [u0,u1,u2,u3,u4]):=by intros;rfl):Fm K mg x qual st a d [p0,p1,p2,p3,p4]:=⟨F.f,NW X G F.m,F.f.b5 hb⟩
theorem Fun.b6 {p0 p1 p2 p3 p4 p5:Str}(F:Fun K x qual st a d)(hb:∀(kV doc pm:Gt)(an:Option Addr)(cdv ct u0 u1 u2 u3 u4 u5:Gt),bindArgs (NL x qual (bE st) (aM st) (ak st) .none kV doc pm an cdv ct) ⟨[u0,u1,u2,u3,u4,u5],[]⟩=pure (NK [p0,p1,p2,p3,p4,p5] [u0,u1,u2,u3,u4,u5]):=by intros;rfl):br K d [p0,p1,p2,p3,p4,p5] []:=F.binds fun kV doc pm an cdv ct us hl=>by
 obtain⟨u0,u1,u2,u3,u4,u5,rfl⟩:=L2.FH hl
 exact hb kV doc pm an cdv ct u0 u1 u2 u3 u4 u5
theorem Fa.fm6 {p0 p1 p2 p3 p4 p5:Str}(F:Fa K x qual st a d)(X:K.In h)(G:h.Ns mainGlobals mg)(hb:∀(kV doc pm:Gt)(an:Option Addr)(cdv ct u0 u1 u2 u3 u4 u5:Gt),bindArgs (NL x qual (bE st) (aM st) (ak st) .none kV doc pm an cdv ct) ⟨[u0,u1,u2,u3,u4,u5],[]⟩=pure (NK [p0,p1,p2,p3,p4,p5] [u0,u1,u2,u3,u4,u5]):=by intros;rfl):Fm K mg x qual st a d [p0,p1,p2,p3,p4,p5]:=⟨F.f,NW X G F.m,F.f.b6 hb⟩
theorem Fun.okS {CX:CXT}{N:List Str}{k:Nat}{sp:Sp}{t:TS}(F:Fun K x qual st a d)(S:aA N ps (ak st))(len:∀vs H Q E,sp vs H Q E→vs.length=ps.length)
  (hrd:∀(vs:List V)(H:Hp)(Q:VK)(E:XK),sp vs H Q E→t {nx:=fun _ H'=>Q .non H',rt:=Q} (start N vs) H)
  (hq:∀(cdv:Gt)(A:Lj)(outer:List Env)(s:Ky)(H:Hp)(E:XK),bc k (A.deeper (envOfC qual (ak st) s.heap.objs.size a cdv))→QSs (cw CX P w K mg base N qual (ak st) a cdv A outer s H E).nox (aM st) t):aL P w K mg base CX (k+1) a d ps sp:=
 F.okN S len fun cdv A outer s H vs Q E hr h=>⟨t,(hq cdv A outer s H E hr).out,hrd vs H Q E h⟩
end
section
variable {X:Cx}{x q:Str}{e:Expr}{es:List Expr}{t:TA}{p pos:Pos}{st:Stmt}{f:Addr}{fd:KP}{ps:List Str}{k:Nat}{sp:Sp}
theorem aQ {P:KS}{w:LI}(F:aL X.prog X.w X.K X.mg X.base (CX1 P w) k f fd ps sp)(hr:bc k X.A)(M:Fm X.K X.mg x q st f fd ps)
 (ha:QA X (e::es) t)(hg:Gl X x:=by rfl)(hdb:(x==("__debug__":Str))=false:=by decide)(hs:aU (e::es)=true:=by rfl):QE X (.Call (.Name x p) (e::es) [] pos) (az sp (fun _=>E0) t):=lm F hr M.m M.f.kp M.b bu ha hg hdb hs
end
section
variable {X:Cx}
theorem De {x y z:Str}{px py pz ep pos:Pos}{ek:Nat}{e:Expr}{te:TE}(i j k:Nat)(hN:X.N.Nodup)(hc:X.calm=true)(he:QE X e te)(hi:X.N[i]?=some x:=by rfl)(hj:X.N[j]?=some y:=by rfl)(hk:X.N[k]?=some z:=by rfl)
  (hx:Loc X.env.scope x:=by first|exact .inl rfl|exact .inr rfl)(hy:Loc X.env.scope y:=by first|exact .inl rfl|exact .inr rfl)(hz:Loc X.env.scope z:=by first|exact .inl rfl|exact .inr rfl)
  (fx:X.fn x=true∨X.env.scope.names.lookup x=some .local:=by first|exact .inl rfl|exact .inr rfl)(fy:X.fn y=true∨X.env.scope.names.lookup y=some .local:=by first|exact .inl rfl|exact .inr rfl)(fz:X.fn z=true∨X.env.scope.names.lookup z=some .local:=by first|exact .inl rfl|exact .inr rfl)
  (hs:swapsWithSole [.Tuple [.Name x px,.Name y py,.Name z pz] ek ep] e pos.line X.env=pure false:=by rfl)(hw:swappedStores [.Tuple [.Name x px,.Name y py,.Name z pz] ek ep] e X.env=pure none:=by rfl):
  QS X (.Assign [.Tuple [.Name x px,.Name y py,.Name z pz] ek ep] e pos) (aC te (kq X.K 3 (cg (aw i) (cg (aw j) (cg (aw k) ki))))):=
 ⟨mn he.out (rl hc (dq (dv hN hi hx fx) (dq (dv hN hj hy fy) (dq (dv hN hk hz fz) nC)))) hs hw⟩
end
def qK (ks:jB)(C:Addr)(m:Str)(E:St→XK)(ta:TE)(t:TA):TE:=fun σ H Q=>ta σ H fun x H1=>∃a dx fs f,x=.ref a∧H1 a=some (.ins C dx fs)∧fs.lookup m=some (.ref f)∧(∃ts∈ks,∃cs cvs,dh H1 f ts.1 cs cvs)∧t σ H1 fun vs H2=>qd ks f vs H2 Q (E σ)
section
variable {X:Cx}{pins:List (Addr×Obj)}{σ:St}{H:Hp}{s:Ky}{A:Lj}{E:Gt→Ky→Prop}{a C dx:Addr}{fs:List (Str×V)}{v:V}
theorem vb {m:Str}{pl:Sem Bool}{Q:Gt×List Gt→Ky→Prop}(I:Inv X pins σ H s)(e:H a=some (.ins C dx fs))(c:Cls X.K C)(n:dM X.K C m)(l:fs.lookup m=some v)
  (h:∀u s',Inv X pins σ H s'→aK v u→Q (u,[]) s'):wpAny (model X.prog X.w) A (getMethod (.ref a) m pl) Q E s:=by
 obtain⟨mA,O,r,_,_,_⟩:=ja I.hok e
 obtain⟨od,J,hl⟩:=O.look
 exact W.method_usual (r:=none) I.kIn J (Pe (c.get m)).1 (Pe (c.get m)).2 n rfl (mr I e c n l h)
end
section
variable {X:Cx}{k:Nat}{C:Addr}{E:St→XK}{m:Str}{pos apos:Pos}{e o:Expr}{es:List Expr}{ta:TE}{t:TA}
theorem sS {pl:Sem Bool}{ks:jB}(hk:ny X.prog X.w X.K X.mg X.base k ks)(hr:bc k X.A)(hx:dR (CX1 X.prog X.w) X E)(he:QE X o ta)(c:Cls X.K C)(n:dM X.K C m)(ha:QA X (e::es) t)
  (hs:aU (e::es)=true:=by rfl)
  (ht:eval (.Call (.Attribute o m apos) (e::es) [] pos) X.env=(do
   let ov←eval o X.env
   standAt apos.atName
   let (f,first)←holding [ov] (getMethod ov m pl)
   callWith pos f first (backTo pos (starEach (e::es) X.env)) (backToKw pos (keywordEach [] X.env))):=by rfl):
  QE X (.Call (.Attribute o m apos) (e::es) [] pos) (qK ks C m E ta t):=⟨fun pins s σ H Q I h=>by
 have h':(bA e&&aU es)=true:=hs
 refine Rx (pl:=pl) (thn (he.out pins s σ H _ I h) fun u s1 ⟨x,H1,I1,rx,a,dx,fs,f,ex,ea,l,⟨ts,hts,cs,cvs,ca⟩,q⟩=>?_) ht
 subst ex
 obtain rfl:u=KJ a:=rx
 refine vb I1 ea c n l fun w s2 I2 rw2=>?_
 obtain rfl:w=KJ f:=rw2
 refine W.callWith_F (mG I2.hok ca) (thn (ha.out pos pins s2 σ H1 _ I2 q) fun us s3 ⟨vs,H2,I3,rv,ts2,hm2,cs2,cvs2,ca2,hl,hsp⟩=>⟨mG I3.hok ca2,?_⟩)
  (aP (KD.mp h').1 es X.env) (bv (KD.mp h').2)
 refine Pc (MG ((hk ts2 hm2).run X.A X.stack s3 H2 f cs2 us vs cvs2 Q (E σ) hr I3.env0 ca2 rv hl hsp) fun r s' hq=>?_)
 cases r with
 |error e=>exact hx pins σ H2 s3 e s' I3 hq
 |ok fl=>
  cases fl with
  |ret u=>exact I3.after hq
  |next=>exact Ll hq
  |brk=>exact Ll hq
  |cont=>exact Ll hq⟩
end
section
variable {X:Cx}{a:Expr}{t:TA}{p1 p2 pos1 pos2:Pos}
theorem sF:bootBuiltins "list"=some (.type "list"):=by decide+kernel
end
end L2
namespace HT
open PySem PyProof.Rows
abbrev jh (f0 f1:Gt)(TI TO:Addr):Obj:={cls:=.type "zip",dict:=none,data:=.fields #[f0,f1,.bool false,.ref TI,.ref TO],slots:=#[]}
structure fR (h:Heap)(z TI TO i1 i2 l t S:Addr)(k:Nat):Prop where
 z:(k=0∧h.get? z=some (jh .none (.bool false) TI TO))∨∃T f oT,h.get? z=some (jh (rawInt (T:Addr)) (.bool f) TI TO)∧h.get? T=some oT∧T≠z∧T≠TO∧T≠i1∧T≠i2∧T≠S
 ti:Ou h TI (.ref i1) (.ref i2)
 to:∃a b,Ou h TO a b
 j1:h.IsListIter i1 l k
 j2:h.IsTupleIter i2 t k
section
variable {prog:KS}{w:LI}{A:Lj}{E:Gt→Ky→Prop}{s:Ky}
theorem sg {z TI TO T:Addr}{f:Bool}{oT:Obj}(hz:s.heap.get? z=some (jh (rawInt T) (.bool f) TI TO))(hTt:s.heap.get? T=some oT):
  wpAny (model prog w) A (Li (.ref z)) (fun b s1=>b=false∧∃h₁,s1={s with heap:=h₁}∧h₁.get? z=some (jh (rawInt T) (.bool true) TI TO)∧MK z s.heap h₁) (fun _ _=>False) s:=by
 unfold Li
 refine cW (Lp hz rfl (x:=rawInt T) rfl ?_)
 show wpAny _ _ (loadIfAlive ((T:Int).toNat) >>= _) _ _ _
 rw[MB]
 refine cW (W.kdx_alive hTt ?_)
 simp only[Option.isNone_some,Mo,if_false]
 refine cW (Lp hz rfl (x:=.bool f) rfl ?_)
 cases f with
 |true=>
  rw[if_neg (show ¬((MJ true !=MJ true)=true)from KN)]
  exact If ⟨rfl,s.heap,rfl,hz,Heap.SameBut.refl _ _⟩
 |false=>
  rw[if_pos (show(MJ false !=MJ true)=true from rfl)]
  exact cW (Mr hz (by simp) fun h₃ he₃ hs₃=>If ⟨rfl,h₃,rfl,he₃,hs₃⟩)
theorem tu {z TI TO i1 i2 l t S:Addr}{k:Nat}{xs ys:Array Gt}{x y a b:Gt}{Q:Option Gt→Ky→Prop}(D:Qf z TI TO i1 i2 l t)(hz:UM s.heap z TI TO .none)(hTI:Ou s.heap TI (.ref i1) (.ref i2))(hTO:Ou s.heap TO a b)
  (h1:s.heap.IsListIter i1 l k)(h2:s.heap.IsTupleIter i2 t k)(ht1:s.heap.IsList l xs)(ht2:s.heap.IsTuple t ys)(hx:xs[k]? =some x)(hy:ys[k]? =some y)(hS:S<s.heap.objs.size)
  (hQ:∀h',fR h' z TI TO i1 i2 l t S (k+1)→Ou h' s.heap.objs.size x y→
   (∀c o,c≠z→c≠TO→c≠i1→c≠i2→s.heap.get? c=some o→h'.get? c=some o)→Q (some (.ref s.heap.objs.size)) {s with heap:=h'}):
  wpAny (model prog w) A (pyNext (.ref z)) Q E s:=by
 have hT:s.TypeIs (.ref z) "zip":=⟨_,hz,rfl⟩
 unfold pyNext
 refine cW (Nt (LA (name:=Mf "__next__") hT NY (LB NY hT Rc ?_ (QG _))))
 show wpAny _ _ (field (.ref z) 2 >>= _) _ _ _
 refine cW (Lp hz rfl (x:=.bool false) rfl ?_)
 show wpAny _ _ (field (.ref z) 3 >>= _) _ _ _
 refine cW (Lp hz rfl (x:=.ref TI) rfl (cW (Nh hTI rfl ?_)))
 show wpAny _ _ (Li (.ref z) >>= _) _ _ _
 refine cW ?_
 unfold Li
 refine cW (Lp hz rfl (x:=.none) rfl (If ?_))
 simp only[if_true]
 refine cW (OF (cW (Lp hz rfl (x:=.ref TO) rfl (cW (Mr hz (by simp) fun ha hza hsa=>cW ?_)))))
 replace hza:UM ha z TI TO .ellipsis:=hza
 simp only[Tz,TV,NP,OI]
 refine cW (cW (SI ?_))
 show wpAny _ _ (LQ (.ref i1) >>= _) _ _ _
 refine cW (Td (h1.at fun o e=>hsa.extBut _ _ D.i1z e) (ht1.at fun o e=>hsa.extBut _ _ D.l1z e) hx fun hb h1b hsb=>If ?_)
 have hTOb:Ou hb TO a b:=hsb.extBut _ _ D.TOi1 (hsa.extBut _ _ D.TOz hTO)
 refine cW (Nh hTOb rfl (cW (TF hTOb fun hc hTOc hsc=>?_)))
 replace hTOc:Ou hc TO x b:=hTOc
 refine cW (RM (If ?_))
 refine cW (cW (SI ?_))
 show wpAny _ _ (LQ (.ref i2) >>= _) _ _ _
 refine cW (qG (h2.at fun o e=>hsc.extBut _ _ D.TOi2.symm (hsb.extBut _ _ D.i12.symm (hsa.extBut _ _ D.i2z e)))
  (ht2.at fun o e=>hsc.extBut _ _ D.l2TO (hsb.extBut _ _ D.l2i1 (hsa.extBut _ _ D.l2z e))) hy fun hd h2d hsd=>If ?_)
 have hTOd:Ou hd TO x b:=hsd.extBut _ _ D.TOi2 hTOc
 refine cW (Nh hTOd rfl (cW (TF hTOd fun he hTOe hse=>?_)))
 replace hTOe:Ou he TO x y:=hTOe
 refine cW (RM (If (If ?_)))
 refine cW (Nh hTOe rfl (cW (wpAny_newTuple ?_)))
 have hsz:he.objs.size=s.heap.objs.size:=by rw[hse.1,hsd.1,hsc.1,hsb.1,hsa.1]
 have hze:UM he z TI TO .ellipsis:=hse.extBut _ _ D.TOz.symm (hsd.extBut _ _ D.i2z.symm (hsc.extBut _ _ D.TOz.symm (hsb.extBut _ _ D.i1z.symm hza)))
 have hke:∀c o,c≠z→c≠TO→c≠i1→c≠i2→s.heap.get? c=some o→he.get? c=some o:=fun c o c1 c2 c3 c4 e=>
  hse.extBut _ _ c2 (hsd.extBut _ _ c4 (hsc.extBut _ _ c2 (hsb.extBut _ _ c3 (hsa.extBut _ _ c1 e))))
 have h1e:he.IsListIter i1 l (k+1):=h1b.at fun o e=>hse.extBut _ _ D.TOi1.symm (hsd.extBut _ _ D.i12 (hsc.extBut _ _ D.TOi1.symm e))
 have h2e:he.IsTupleIter i2 t (k+1):=h2d.at fun o e=>hse.extBut _ _ D.TOi2.symm e
 show wpAny _ _ (OC (.ref z) (.ref he.objs.size) >>= _) _ _ _
 refine cW ?_
 unfold OC
 have hzf:UM (he.push {cls:=.type "tuple",data:=.seq #[x,y]}) z TI TO .ellipsis:=gV _ hze
 refine cW (Mr hzf (by simp) fun hg hzg hsg=>?_)
 replace hzg:UM hg z TI TO (rawInt he.objs.size):=hzg
 refine Mr hzg (by simp) fun hh hzh hsh=>?_
 replace hzh:UM hh z TI TO (rawInt he.objs.size):=hzh
 have up:∀c o,c≠z→he.get? c=some o→hh.get? c=some o:=fun c o c1 e=>hsh.extBut _ _ c1 (hsg.extBut _ _ c1 (gV _ e))
 have hTh:Ou hh he.objs.size x y:=hsh.extBut _ _ (MN (KF hze)) (hsg.extBut _ _ (MN (KF hze)) (KG _ rfl))
 have n1:he.objs.size≠z:=MN (KF hze)
 have n2:he.objs.size≠TO:=MN (KF hTOe)
 have n3:he.objs.size≠i1:=by obtain⟨o,eo,_⟩:=h1e;exact MN (KF eo)
 have n4:he.objs.size≠i2:=by obtain⟨o,eo,_⟩:=h2e;exact MN (KF eo)
 have n5:he.objs.size≠S:=by rw[hsz];exact MN hS
 rw[hsz]at hzh hTh n1 n2 n3 n4 n5
 have fin:=hQ hh ⟨.inr ⟨s.heap.objs.size,false,_,hzh,hTh,n1,n2,n3,n4,n5⟩,up _ _ D.TIz (hke _ _ D.TIz D.TITO D.TIi1 D.TIi2 hTI),⟨x,y,up _ _ D.TOz hTOe⟩,h1e.at fun o e=>up _ o D.i1z e,h2e.at fun o e=>up _ o D.i2z e⟩ hTh fun c o c1 c2 c3 c4 e=>up c o c1 (hke c o c1 c2 c3 c4 e)
 rw[←hsz]at fin
 exact If ⟨_,rfl,If fin⟩
theorem wO {z TI TO i1 i2 l t S T:Addr}{f:Bool}{oT:Obj}{k:Nat}{xs ys:Array Gt}{x y:Gt}{Q:Option Gt→Ky→Prop}(D:Qf z TI TO i1 i2 l t)(hz:s.heap.get? z=some (jh (rawInt T) (.bool f) TI TO))(hTt:s.heap.get? T=some oT)
  (nT:T≠z∧T≠TO∧T≠i1∧T≠i2∧T≠S)(hTI:Ou s.heap TI (.ref i1) (.ref i2))(hTO:∃a b,Ou s.heap TO a b)
  (h1:s.heap.IsListIter i1 l k)(h2:s.heap.IsTupleIter i2 t k)(ht1:s.heap.IsList l xs)(ht2:s.heap.IsTuple t ys)(hx:xs[k]? =some x)(hy:ys[k]? =some y)
  (hQ:∀h',fR h' z TI TO i1 i2 l t S (k+1)→Ou h' s.heap.objs.size x y→
   (∀c o,c≠z→c≠TO→c≠i1→c≠i2→s.heap.get? c=some o→h'.get? c=some o)→Q (some (.ref s.heap.objs.size)) {s with heap:=h'}):
  wpAny (model prog w) A (pyNext (.ref z)) Q E s:=by
 have hT:s.TypeIs (.ref z) "zip":=⟨_,hz,rfl⟩
 unfold pyNext
 refine cW (Nt (LA (name:=Mf "__next__") hT NY (LB NY hT Rc ?_ (QG _))))
 show wpAny _ _ (field (.ref z) 2 >>= _) _ _ _
 refine cW (Lp hz rfl (x:=.bool false) rfl ?_)
 show wpAny _ _ (field (.ref z) 3 >>= _) _ _ _
 refine cW (Lp hz rfl (x:=.ref TI) rfl (cW (Nh hTI rfl ?_)))
 show wpAny _ _ (Li (.ref z) >>= _) _ _ _
 refine cW (Le (sg hz hTt) (fun b s1 hb=>?_) fun _ _ e=>e.elim)
 obtain⟨rfl,ha,rfl,hza,hsa⟩:=hb
 simp only[Mo,if_false]
 refine cW ?_
 rw[←SH]
 simp only[NP,OI]
 refine cW (cW (Ms ?_))
 show wpAny _ _ (LQ (.ref i1) >>= _) _ _ _
 refine cW (Td (h1.at fun o e=>hsa.extBut _ _ D.i1z e) (ht1.at fun o e=>hsa.extBut _ _ D.l1z e) hx fun hb h1b hsb=>If (If ?_))
 refine cW (cW (Ms ?_))
 show wpAny _ _ (LQ (.ref i2) >>= _) _ _ _
 refine cW (qG (h2.at fun o e=>hsb.extBut _ _ D.i12.symm (hsa.extBut _ _ D.i2z e)) (ht2.at fun o e=>hsb.extBut _ _ D.l2i1 (hsa.extBut _ _ D.l2z e)) hy fun hd h2d hsd=>If (If (If ?_)))
 refine cW (wpAny_newTuple (hsz:=by show 2≤sizeLine;decide) ?_)
 have hsz:hd.objs.size=s.heap.objs.size:=by rw[hsd.1,hsb.1,hsa.1]
 have hk:∀c o,c≠z→c≠TO→c≠i1→c≠i2→s.heap.get? c=some o→(hd.push {cls:=.type "tuple",data:=.seq #[x,y]}).get? c=some o:=fun c o c1 c2 c3 c4 e=>
  gV _ (hsd.extBut _ _ c4 (hsb.extBut _ _ c3 (hsa.extBut _ _ c1 e)))
 obtain⟨a,b,hTO⟩:=hTO
 have fin:=hQ (hd.push {cls:=.type "tuple",data:=.seq #[x,y]}) ⟨.inr ⟨T,true,oT,gV _ (hsd.extBut _ _ D.i2z.symm (hsb.extBut _ _ D.i1z.symm hza)),hk T oT nT.1 nT.2.1 nT.2.2.1 nT.2.2.2.1 hTt,nT⟩,
  hk _ _ D.TIz D.TITO D.TIi1 D.TIi2 hTI,⟨a,b,gV _ (hsd.extBut _ _ D.TOi2 (hsb.extBut _ _ D.TOi1 (hsa.extBut _ _ D.TOz hTO)))⟩,
  h1b.at fun o e=>gV _ (hsd.extBut _ _ D.i12 e),h2d.at fun o e=>gV _ e⟩ (by rw[←hsz];exact KG _ rfl) hk
 rw[←hsz]at fin
 exact If ⟨_,rfl,If fin⟩
theorem yG {z TI TO i1 i2 l t S:Addr}{k:Nat}{xs:Array Gt}{Q:Option Gt→Ky→Prop}(hh:A.handled=none)(D:Qf z TI TO i1 i2 l t)(Z:fR s.heap z TI TO i1 i2 l t S k)
  (ht1:s.heap.IsList l xs)(hend:xs[k]?=none)
  (hQ:∀h',(∀c o,c≠z→c≠TO→c≠i1→c≠i2→s.heap.get? c=some o→h'.get? c=some o)→Q none {s with heap:=h'}):wpAny (model prog w) A (pyNext (.ref z)) Q E s:=by
 obtain⟨Zz,hTI,⟨a,b,hTO⟩,h1,h2⟩:=Z
 have hT:s.TypeIs (.ref z) "zip":=by rcases Zz with⟨_,e⟩|⟨_,_,_,e,_⟩<;>exact⟨_,e,rfl⟩
 have fin:∀h' e,(∀c o,c≠z→c≠TO→c≠i1→c≠i2→s.heap.get? c=some o→h'.get? c=some o)→(∃o,h'.get? e=some o∧o.cls=.type "StopIteration")→
   wpAny (model prog w) A (do if←isInstance (.ref e) (.type "StopIteration")then pure none else throw (.ref e)) Q E {s with heap:=h'}:=fun h' e hk ⟨o,ho,hc⟩=>
  cW (Oz (T:="StopIteration") (b:=true) ⟨o,ho,hc⟩ Sh (If (hQ _ hk)))
 unfold pyNext
 refine cW (Nt (LA (name:=Mf "__next__") hT NY (LB NY hT Rc ?_ (QG _))))
 show wpAny _ _ (field (.ref z) 2>>=_) _ _ _
 rcases Zz with⟨_,hz⟩|⟨T,f,oT,hz,hTt,nT⟩
 ·refine cW (Lp hz rfl (x:=.bool false) rfl ?_)
  show wpAny _ _ (field (.ref z) 3>>=_) _ _ _
  refine cW (Lp hz rfl (x:=.ref TI) rfl (cW (Nh hTI rfl ?_)))
  show wpAny _ _ (Li (.ref z)>>=_) _ _ _
  refine cW ?_
  unfold Li
  refine cW (Lp hz rfl (x:=.none) rfl (If ?_))
  simp only[if_true]
  refine cW (OF (cW (Lp hz rfl (x:=.ref TO) rfl (cW (Mr hz (by simp) fun ha hza hsa=>cW ?_)))))
  replace hza:UM ha z TI TO .ellipsis:=hza
  simp only[Tz,TV,NP,OI]
  refine cW (cW (SI ?_))
  show wpAny _ _ (LQ (.ref i1)>>=_) _ _ _
  refine cW (Tn hh (h1.at fun o e=>hsa.extBut _ _ D.i1z e) (ht1.at fun o e=>hsa.extBut _ _ D.l1z e) hend fun hb e hsb he=>?_)
  obtain⟨oe,hoe,hce⟩:=he
  have hzb:UM hb z TI TO .ellipsis:=hsb _ _ D.i1z.symm hza
  have hez:e≠z:=fun x=>by subst x;rw[hzb]at hoe;cases hoe;simp at hce
  exact Mr hzb (by simp) fun hc _ hsc=>fin hc e (fun c o c1 _ c3 _ x=>hsc.extBut _ _ c1 (hsb _ _ c3 (hsa.extBut _ _ c1 x))) ⟨oe,hsc.extBut _ _ hez hoe,hce⟩
 ·refine cW (Lp hz rfl (x:=.bool false) rfl ?_)
  show wpAny _ _ (field (.ref z) 3>>=_) _ _ _
  refine cW (Lp hz rfl (x:=.ref TI) rfl (cW (Nh hTI rfl ?_)))
  show wpAny _ _ (Li (.ref z)>>=_) _ _ _
  refine cW (Le (sg hz hTt) (fun b s1 hb=>?_) fun _ _ e=>e.elim)
  obtain⟨rfl,ha,rfl,hza,hsa⟩:=hb
  simp only[Mo,if_false]
  refine cW ?_
  rw[←SH]
  simp only[NP,OI]
  refine cW (cW (Ms ?_))
  show wpAny _ _ (LQ (.ref i1)>>=_) _ _ _
  refine cW (Tn hh (h1.at fun o e=>hsa.extBut _ _ D.i1z e) (ht1.at fun o e=>hsa.extBut _ _ D.l1z e) hend fun hb e hsb he=>?_)
  exact fin hb e (fun c o c1 _ c3 _ x=>hsb _ _ c3 (hsa.extBut _ _ c1 x)) he
structure kG (xs ys:Array Gt)(lo:Addr)(h:Heap)(as:List Addr):Prop where
 rise:as.Pairwise (·<·)
 above:∀a∈as,lo≤a
 pairs:∀(j:Nat)(a:Addr),as[j]?=some a→∃x y,xs[j]?=some x∧ys[j]?=some y∧Ou h a x y
theorem kG.there {xs ys:Array Gt}{lo:Addr}{h:Heap}{as:List Addr}(g:kG xs ys lo h as){a:Addr}(ha:a∈as):a<h.objs.size:=by
 obtain⟨j,hj⟩:=ME.mp ha
 obtain⟨_,_,_,_,e⟩:=g.pairs j a hj
 exact KF e
theorem fR.keepS {h h':Heap}{z TI TO i1 i2 l t S:Addr}{k:Nat}(Z:fR h z TI TO i1 i2 l t S k)(nS:S≠z∧S≠TI∧S≠TO∧S≠i1∧S≠i2)(hk:∀b o,b≠S→h.get? b=some o→h'.get? b=some o):fR h' z TI TO i1 i2 l t S k:=by
 obtain⟨Zz,hTI,⟨a,b,hTO⟩,h1,h2⟩:=Z
 refine⟨?_,hk _ _ nS.2.1.symm hTI,⟨a,b,hk _ _ nS.2.2.1.symm hTO⟩,h1.at fun o e=>hk _ o nS.2.2.2.1.symm e,h2.at fun o e=>hk _ o nS.2.2.2.2.symm e⟩
 rcases Zz with⟨e,hz⟩|⟨T,f,oT,hz,hTt,nT⟩
 ·exact .inl ⟨e,hk _ _ nS.1.symm hz⟩
 ·exact .inr ⟨T,f,oT,hk _ _ nS.1.symm hz,hk _ _ nT.2.2.2.2 hTt,nT⟩
theorem fR.item {z TI TO i1 i2 l t S:Addr}{k:Nat}{xs ys:Array Gt}{x y:Gt}{Q:Option Gt→Ky→Prop}(Z:fR s.heap z TI TO i1 i2 l t S k)(D:Qf z TI TO i1 i2 l t)
  (ht1:s.heap.IsList l xs)(ht2:s.heap.IsTuple t ys)(hx:xs[k]? =some x)(hy:ys[k]? =some y)(hS:S<s.heap.objs.size)
  (hQ:∀h',fR h' z TI TO i1 i2 l t S (k+1)→Ou h' s.heap.objs.size x y→
   (∀c o,c≠z→c≠TO→c≠i1→c≠i2→s.heap.get? c=some o→h'.get? c=some o)→Q (some (.ref s.heap.objs.size)) {s with heap:=h'}):
  wpAny (model prog w) A (pyNext (.ref z)) Q E s:=by
 obtain⟨Zz,hTI,⟨a,b,hTO⟩,h1,h2⟩:=Z
 rcases Zz with⟨_,hz⟩|⟨T,f,oT,hz,hTt,nT⟩
 ·exact tu D hz hTI hTO h1 h2 ht1 ht2 hx hy hS hQ
 ·exact wO D hz hTt nT hTI ⟨a,b,hTO⟩ h1 h2 ht1 ht2 hx hy hQ
end
section
variable {prog:KS}{w:LI}{A:Lj}{s:Ky}{R:Rj→Ky→Prop}{xs ys:Array Gt}
theorem vA {z TI TO i1 i2 l t S lo:Addr}(hh:A.handled=none)(D:Qf z TI TO i1 i2 l t)(nS:S≠z∧S≠TI∧S≠TO∧S≠i1∧S≠i2)(nl:l≠S)(nt:t≠S)(below:∀b∈[z,TI,TO,i1,i2,S],b<lo)(hn:xs.size≤sizeLine)(hlen:xs.size=ys.size)(res:Gt){h₁:Heap}
  (hR:∀h' tk acc c as,(∀b o,b∉[z,TI,TO,i1,i2,S]→h₁.get? b=some o→h'.get? b=some o)→h'.get? S=some {cls:=.type "list",dict:=none,data:=.seq acc c,slots:=#[]}→as.length=xs.size→kG xs ys lo h' as→
   acc.toList=as.map KJ→R (.ok (.ret res)) {s with heap:=h',toks:=tk}):
  ∀(k i:Nat)(h:Heap)(tk c:Nat)(acc:Array Gt)(as:List Addr),xs.size- i=k→i≤xs.size→fR h z TI TO i1 i2 l t S i→h.IsList l xs→h.IsTuple t ys→(∀b o,b∉[z,TI,TO,i1,i2,S]→h₁.get? b=some o→h.get? b=some o)→
   h.get? S=some {cls:=.type "list",dict:=none,data:=.seq acc c,slots:=#[]}→acc.toList=as.map KJ→as.length=i→kG xs ys lo h as→lo≤h.objs.size→
   codeAny (model prog w) A (.builtin "list.extend.loop" ⟨[.ref S,.ref z,res],[]⟩) R {s with heap:=h,toks:=tk}:=by
 have inb:∀b,b∉[z,TI,TO,i1,i2,S]→b≠z∧b≠TO∧b≠i1∧b≠i2∧b≠S:=fun b hb=>by
  simp only[KY,Mb,or_false,not_or]at hb
  exact⟨hb.1,hb.2.2.1,hb.2.2.2.1,hb.2.2.2.2.1,hb.2.2.2.2.2⟩
 have above:∀b,lo≤b→b≠z∧b≠TO∧b≠i1∧b≠i2∧b≠S:=fun b hb=>by
  have f:∀c∈[z,TI,TO,i1,i2,S],b≠c:=fun c hc=>MN (KU (below c hc) hb)
  exact⟨f z (by simp),f TO (by simp),f i1 (by simp),f i2 (by simp),f S (by simp)⟩
 intro k
 induction k with
 |zero=>
  intro i h tk c acc as hk hi hst hl ht hkeep hS hacc hal hG hIs
  have hin:i=xs.size:=by omega
  refine OK QF ?_
  rw[NF Mn _]
  show wpAny _ A.in1 (pyNext (.ref z) >>= _) _ _ _
  refine cW (yG (s:={s with heap:=h,toks:=tk}) (A:=A.in1) hh D hst hl (NU (by omega)) fun h' he=>?_)
  refine If (hR h' tk acc c as (fun b o h1 e=>?_) (he S _ nS.1 nS.2.2.1 nS.2.2.2.1 nS.2.2.2.2 hS) (by omega) ⟨hG.rise,hG.above,fun j a hj=>?_⟩ hacc)
  ·obtain⟨n1,n2,n3,n4,n5⟩:=inb b h1
   exact he b o n1 n2 n3 n4 (hkeep b o h1 e)
  ·obtain⟨x,y,e1,e2,e3⟩:=hG.pairs j a hj
   obtain⟨n1,n2,n3,n4,n5⟩:=above a (hG.above a (KM hj))
   exact⟨x,y,e1,e2,he a _ n1 n2 n3 n4 e3⟩
 |succ k ih=>
  intro i h tk c acc as hk hi hst hl ht hkeep hS hacc hal hG hIs
  have hlt:i<xs.size:=by omega
  obtain⟨x,hx⟩:∃p,xs[i]? =some p:=⟨xs[i],Lz hlt⟩
  obtain⟨y,hy⟩:∃p,ys[i]? =some p:=⟨ys[i],Lz (by omega)⟩
  have hsz:acc.size=i:=by rw[←Mx,hacc,Kz,hal]
  refine OK QF ?_
  rw[NF Mn _]
  show wpAny _ A.in1 (pyNext (.ref z) >>= _) _ _ _
  refine cW (fR.item (s:={s with heap:=h,toks:=tk}) (S:=S) hst D hl ht hx hy (KF hS) fun h' hst' hT hkp=>?_)
  dsimp only at hT hkp⊢
  have hS':=hkp S _ nS.1 nS.2.2.1 nS.2.2.2.1 nS.2.2.2.2 hS
  have up:∀b o,b≠S→h'.get? b=some o→(h'.update S (MA (·.push (KJ h.objs.size)))).get? b=some o:=fun b o hb e=>(LG _ _ (Lg hb)).trans e
  obtain⟨m1,m2,m3,m4,m5⟩:=above h.objs.size hIs
  have kl:∀o,h.get? l=some o→(h'.update S (MA (·.push (KJ h.objs.size)))).get? l=some o:=fun o e=>up l o nl (hkp l o D.l1z D.l1TO D.l1i1 D.l1i2 e)
  have kt:∀o,h.get? t=some o→(h'.update S (MA (·.push (KJ h.objs.size)))).get? t=some o:=fun o e=>up t o nt (hkp t o D.l2z D.l2TO D.l2i1 D.l2i2 e)
  show wpAny _ A.in1 (updateSeq S (·.push (KJ h.objs.size)) >>= _) _ _ _
  refine cW ?_
  refine Oa hS' rfl (If ⟨Ob Mn _,ih (i+1) _ tk _ (acc.push (KJ h.objs.size)) (as++[h.objs.size]) (by omega) hlt (hst'.keepS nS up) (hl.at kl) (ht.at kt)
   (fun b o h1 e=>?_) (Ls _ hS' rfl) (by rw[Array.toList_push,hacc,Lc];rfl) (by rw[KI,hal];rfl) ⟨?_,?_,?_⟩ ?_⟩) (by rw[hsz];omega) (by show(acc.push (KJ h.objs.size)).size≤sizeLine+1;rw[Array.size_push,hsz];omega)
  ·obtain⟨n1,n2,n3,n4,n5⟩:=inb b h1
   exact up b o n5 (hkp b o n1 n2 n3 n4 (hkeep b o h1 e))
  ·refine List.pairwise_append.mpr ⟨hG.rise,List.pairwise_singleton _ _,fun a ha b hb=>?_⟩
   rw[KW.mp hb]
   exact hG.there ha
  ·intro a ha
   rcases LY.mp ha with ha|ha
   ·exact hG.above a ha
   ·rw[KW.mp ha];exact hIs
  ·intro j b hj
   rcases Tx j as.length with h1|h1|h1
   ·rw[LN h1]at hj
    obtain⟨x',y',e1,e2,e3⟩:=hG.pairs j b hj
    obtain⟨n1,n2,n3,n4,n5⟩:=above b (hG.above b (KM hj))
    exact⟨x',y',e1,e2,up b _ n5 (hkp b _ n1 n2 n3 n4 e3)⟩
   ·subst h1
    have hb:h.objs.size=b:=by simpa using hj
    subst hb
    exact⟨x,y,by rw[hal];exact hx,by rw[hal];exact hy,up _ _ m5 hT⟩
   ·have hnone:(as++[h.objs.size])[j]? =none:=Lh (by rw[KI,Se];omega)
    rw[hnone]at hj;cases hj
  ·have e:(h'.update S (MA (·.push (KJ h.objs.size)))).get? h.objs.size=_:=up _ _ m5 hT
   exact Mq (Mh hIs (KF e))
end
theorem vi:typeLookup (.type "zip") "__len__"=pure none:=by rw[MS,Md];kernel_rfl
theorem uV:typeLookup (.type "zip") "__length_hint__"=pure none:=by rw[MS,Md];kernel_rfl
section
variable {prog:KS}{w:LI}{A:Lj}{s:Ky}{R:Rj→Ky→Prop}{xs ys:Array Gt}{z TI TO i1 i2 l t S:Addr}
theorem rD (hh:A.handled=none)(D:Qf z TI TO i1 i2 l t)(nS:S≠z∧S≠TI∧S≠TO∧S≠i1∧S≠i2)(nl:l≠S)(nt:t≠S)(hn:xs.size≤sizeLine)(hlen:xs.size=ys.size)(res:Gt)(c₀:Nat)
  (Z:fR s.heap z TI TO i1 i2 l t S 0)(hz0:s.heap.get? z=some (jh .none (.bool false) TI TO))(hl:s.heap.IsList l xs)(ht:s.heap.IsTuple t ys)(hS:s.heap.get? S=some {cls:=.type "list",data:=.seq #[] c₀})
  (hR:∀h' tk acc c as,(∀b o,b∉[z,TI,TO,i1,i2,S]→s.heap.get? b=some o→h'.get? b=some o)→h'.get? S=some {cls:=.type "list",dict:=none,data:=.seq acc c,slots:=#[]}→as.length=xs.size→kG xs ys s.heap.objs.size h' as→
   acc.toList=as.map KJ→R (.ok (.ret res)) {s with heap:=h',toks:=tk}):
  wpAny (model prog w) A.in1 (Mj (.ref S) (.ref z) res)
   (fun fin s'=>match fin with|.done f=>R (.ok f) s'|.again c'=>c'.quiet=true∧codeAny (model prog w) A c' R s') (fun e s'=>R (.error e) s') s:=by
 have hT:s.TypeIs (.ref z) "zip":=⟨_,hz0,rfl⟩
 have below:∀b∈[z,TI,TO,i1,i2,S],b<s.heap.objs.size:=fun b hb=>by
  obtain⟨_,hTI,⟨x,y,hTO⟩,⟨o1,e1,_⟩,⟨o2,e2,_⟩⟩:=Z
  simp only[KY,Mb,or_false]at hb
  rcases hb with rfl|rfl|rfl|rfl|rfl|rfl
  ·exact KF hz0
  ·exact KF hTI
  ·exact KF hTO
  ·exact KF e1
  ·exact KF e2
  ·exact KF hS
 have key:∀(h:Heap)(c₁ tk:Nat),h.objs.size=s.heap.objs.size→(∀b o,b≠S→s.heap.get? b=some o→h.get? b=some o)→
   h.get? S=some {cls:=.type "list",data:=.seq #[] c₁}→codeAny (model prog w) A (.builtin "list.extend.loop" ⟨[.ref S,.ref z,res],[]⟩) R {s with heap:=h,toks:=tk}:=by
  intro h c₁ tk hz hk hS₁
  refine vA (s:=s) (h₁:=s.heap) hh D nS nl nt below hn hlen res (fun h' tk' acc c as hk' hS' hl hG hacc=>hR h' tk' acc c as hk' hS' hl hG hacc)
   xs.size 0 h tk c₁ #[] [] (NC _) (Ly _) (Z.keepS nS hk) (hl.at fun o e=>hk l o nl e) (ht.at fun o e=>hk t o nt e) (fun b o hb e=>hk b o (fun q=>hb (by rw[q];simp)) e) hS₁ rfl rfl
   ⟨Rg,(fun _ ha=>nomatch ha),(fun j a hj=>by simp at hj)⟩ (PB hz.symm)
 unfold Mj
 refine cW (OT (T:="zip") hT ?_)
 have h1:NB (.ref S) (.ref z)=false:=by simp[NB,nS.1]
 have h2:(Po "zip"==Po "list")=false:=by decide
 have h3:(Po "zip"==Po "tuple")=false:=by decide
 simp only[h1,h2,h3,Uz,Mo,if_false]
 refine cW (wpAny_pyIter_zip hz0 ?_)
 refine cW (Ms ?_)
 unfold PV
 refine cW (Nm hT vi ?_)
 show wpAny _ A.in1 (specialOf (KJ z) (Mf "__length_hint__")>>=_) _ _ _
 refine cW (Nm hT uV ?_)
 refine If ?_
 refine wpAny_ite_split (fun _=>?_) (fun _=>If ⟨Ob Mn _,key _ c₀ _ rfl (fun b o _ e=>e) hS⟩)
 refine cW (OF ?_)
 refine cW ?_
 show wpAny _ _ (updateSeq S (·.push .none)>>=fun _=>updateSeq S (·.pop)) _ _ _
 refine cW (Oa hS rfl ?_)
 have hS₂:=Ls (MA (·.push Ml)) hS rfl
 refine Oa (hz:=by seq_fits) hS₂ rfl ?_
 have hS₃:=Ls (MA (·.pop)) hS₂ rfl
 refine If ⟨Ob Mn _,key _ _ _ ?_ (fun b o hb e=>?_) hS₃⟩
 ·rw[Qy,Qy]
 ·exact(LG _ _ (Lg hb)).trans ((LG _ _ (Lg hb)).trans e)
theorem vL (hh:A.handled=none)(D:Qf z TI TO i1 i2 l t)(nS:S≠z∧S≠TI∧S≠TO∧S≠i1∧S≠i2)(nl:l≠S)(nt:t≠S)(hn:xs.size≤sizeLine)(hlen:xs.size=ys.size)
  (Z:fR s.heap z TI TO i1 i2 l t S 0)(hz0:s.heap.get? z=some (jh .none (.bool false) TI TO))(hl:s.heap.IsList l xs)(ht:s.heap.IsTuple t ys)(hS:s.heap.get? S=some {cls:=.type "list",data:=.seq #[]})
  (hR:∀h' tk acc c as,(∀b o,b∉[z,TI,TO,i1,i2,S]→s.heap.get? b=some o→h'.get? b=some o)→h'.get? S=some {cls:=.type "list",dict:=none,data:=.seq acc c,slots:=#[]}→as.length=xs.size→kG xs ys s.heap.objs.size h' as→
   acc.toList=as.map KJ→R (.ok (.ret .none)) {s with heap:=h',toks:=tk}):
  wpAny (model prog w) A.in1 (NS.«list.__init__» ⟨[.ref S,.ref z],[]⟩)
   (fun fin s'=>match fin with|.done f=>R (.ok f) s'|.again c'=>c'.quiet=true∧codeAny (model prog w) A c' R s') (fun e s'=>R (.error e) s') s:=by
 show wpAny _ _ (do let old←Qv (.ref S);Builtin.List.listUpdate (.ref S) (fun _=>#[]);letGo old.toList.reverse;Mj (.ref S) (.ref z) .none) _ _ s
 refine cW ?_
 unfold Qv
 refine cW (Nh hS rfl (If ?_))
 show wpAny _ _ (updateSeq S (fun _=>#[]) >>= fun _=>letGo (#[]:Array Gt).toList.reverse >>= fun _=>Mj (.ref S) (.ref z) .none) _ _ s
 refine cW (Oa hS rfl ?_)
 have hS₂:=Ls (MA (fun _=>(#[]:Array Gt))) hS rfl
 have oth:∀b o,b≠S→s.heap.get? b=some o→(s.heap.update S (MA (fun _=>(#[]:Array Gt)))).get? b=some o:=
  fun b o hb e=>(LG _ _ (Lg hb)).trans e
 refine cW (RM ?_)
 refine rD (s:={s with heap:=s.heap.update S (MA (fun _=>(#[]:Array Gt)))}) hh D nS nl nt hn hlen .none _ (Z.keepS nS oth) (oth _ _ nS.1.symm hz0) (hl.at fun o e=>oth l o nl e) (ht.at fun o e=>oth t o nt e) hS₂ (fun h' tk acc c as hk hS' hl hG hacc=>?_)
 refine hR h' tk acc c as (fun b o hb e=>hk b o hb (oth b o (fun q=>hb (by rw[q];simp)) e)) hS' hl ?_ hacc
 have:(s.heap.update S (MA (fun _=>(#[]:Array Gt)))).objs.size=s.heap.objs.size:=Qy ..
 rw[←this];exact hG
end
section
variable {prog:KS}{w:LI}{A:Lj}{E:Gt→Ky→Prop}{s:Ky}{xs ys:Array Gt}{z TI TO i1 i2 l t:Addr}
theorem ww {Q:Gt→Ky→Prop}(hh:A.handled=none)(D:Qf z TI TO i1 i2 l t)(hn:xs.size≤sizeLine)(hlen:xs.size=ys.size)
  (hz0:s.heap.get? z=some (jh .none (.bool false) TI TO))(hTI:Ou s.heap TI (.ref i1) (.ref i2))(hTO:∃a b,Ou s.heap TO a b)(j1:s.heap.IsListIter i1 l 0)(j2:s.heap.IsTupleIter i2 t 0)(hl:s.heap.IsList l xs)(ht:s.heap.IsTuple t ys)
  (hQ:∀h' tk acc c as,(∀b o,b∉[z,TI,TO,i1,i2]→s.heap.get? b=some o→h'.get? b=some o)→h'.get? s.heap.objs.size=some {cls:=.type "list",dict:=none,data:=.seq acc c,slots:=#[]}→as.length=xs.size→kG xs ys (s.heap.objs.size+1) h' as→
   acc.toList=as.map KJ→Q (.ref s.heap.objs.size) {s with heap:=h',toks:=tk}):
  wpAny (model prog w) A (call (.type "list") [.ref z]) Q E s:=by
 refine callType_codes (Q₁:=fun obj s₁=>obj=.ref s.heap.objs.size∧s₁={s with heap:=s.heap.push {cls:=.type "list",data:=.seq #[]}}) PySem.F.called_list (PySem.F.typeCall_list_1 _) PySem.F.entry_list_init
  (code_list_new _ ⟨rfl,rfl⟩) fun obj s₁ h₁=>?_
 obtain⟨rfl,rfl⟩:=h₁
 have hS:(s.heap.push {cls:=.type "list",data:=.seq #[]}).get? s.heap.objs.size=some {cls:=.type "list",data:=.seq #[]}:=KG _ rfl
 have up:∀b o,s.heap.get? b=some o→(s.heap.push {cls:=.type "list",data:=.seq #[]}).get? b=some o:=fun b o e=>gV _ e
 obtain⟨a,b,hTO⟩:=hTO
 have nn:∀b o,s.heap.get? b=some o→s.heap.objs.size≠b:=fun b o e=>MN (KF e)
 have nS:s.heap.objs.size≠z∧s.heap.objs.size≠TI∧s.heap.objs.size≠TO∧s.heap.objs.size≠i1∧s.heap.objs.size≠i2:=by
  obtain⟨o1,e1,_⟩:=j1
  obtain⟨o2,e2,_⟩:=j2
  exact⟨nn _ _ hz0,nn _ _ hTI,nn _ _ hTO,nn _ _ e1,nn _ _ e2⟩
 have nl:l≠s.heap.objs.size:=by obtain⟨o,e,_⟩:=hl;exact(nn _ _ e).symm
 have nt:t≠s.heap.objs.size:=by obtain⟨o,e,_⟩:=ht;exact(nn _ _ e).symm
 refine⟨⟨_,hS,rfl⟩,PySem.F.args_list_init_2 _ _,vL (s:={s with heap:=s.heap.push {cls:=.type "list",data:=.seq #[]}}) (A:=A.in1) hh D nS nl nt hn hlen
  ⟨.inl ⟨rfl,up _ _ hz0⟩,up _ _ hTI,⟨a,b,up _ _ hTO⟩,j1.at fun o e=>up _ o e,j2.at fun o e=>up _ o e⟩ (up _ _ hz0) (hl.at fun o e=>up _ o e) (ht.at fun o e=>up _ o e) hS (fun h' tk acc c as hk hS' hl hG hacc=>?_)⟩
 refine⟨rfl,hQ h' tk acc c as (fun b o hb e=>hk b o (fun q=>?_) (up b o e)) hS' hl ?_ hacc⟩
 ·simp only[KY,Mb,or_false]at q hb
  rcases q with q|q|q|q|q|q
  ·exact hb (.inl q)
  ·exact hb (.inr (.inl q))
  ·exact hb (.inr (.inr (.inl q)))
  ·exact hb (.inr (.inr (.inr (.inl q))))
  ·exact hb (.inr (.inr (.inr (.inr q))))
  ·exact nn b o e q.symm
 ·have:(s.heap.push {cls:=.type "list",data:=.seq #[]}).objs.size=s.heap.objs.size+1:=MY ..
  rw[←this];exact hG
abbrev Ei (l:Addr):Obj:={cls:=.type "list_iterator",data:=.fields #[.ref l,.int 0 0]}
abbrev zm1 (h:Heap)(t1:Addr):Heap:=h.push (Ei t1)
abbrev zm2 (h:Heap)(t1 t2:Addr):Heap:=(zm1 h t1).push (itO t2)
abbrev zm3 (h:Heap)(t1 t2:Addr):Heap:=(zm2 h t1 t2).push {cls:=.type "tuple",data:=.seq #[.ref h.objs.size,.ref (zm1 h t1).objs.size]}
abbrev zm4 (h:Heap)(t1 t2:Addr):Heap:=(zm3 h t1 t2).push {cls:=.type "tuple",data:=.seq #[.none,.none]}
abbrev zm5 (h:Heap)(t1 t2:Addr):Heap:=(zm4 h t1 t2).push {cls:=.type "zip",data:=.fields #[.none,.bool false,.bool false,.ref (zm2 h t1 t2).objs.size,.ref (zm3 h t1 t2).objs.size]}
theorem yP (t1 t2:Addr)(xs ys:Array Gt):
  Meets (NS.«zip.__new__» ⟨[.type "zip",.ref t1,.ref t2],[]⟩) (fun _ R s=>s.heap.IsList t1 xs∧s.heap.IsTuple t2 ys∧R (.ok (.ret (.ref (zm4 s.heap t1 t2).objs.size))) {s with heap:=zm5 s.heap t1 t2}):=
 .of_wp fun prog w A R s h=>by
  obtain⟨hp,g,d,tk,os⟩:=s;obtain⟨hl1,hl2,h⟩:=h
  have hsub:=sub_zip
  have hL1:Heap.IsList (Ur ⟨hp,g,d,tk,os⟩) t1 xs:=hl1
  have hL2:Heap.IsTuple (Ur ⟨hp.push (Ei t1),g,d,tk,os⟩) t2 ys:=hl2.at fun o e=>gV _ e
  wp_walk using QX hL1,Uq hL2
  exact⟨_,rfl,h⟩
theorem wA {t1 t2:Addr}{Q:Gt→Ky→Prop}(hl1:s.heap.IsList t1 xs)(hl2:s.heap.IsTuple t2 ys)
  (h:∀h',h'.get? (s.heap.objs.size+4)=some (jh .none (.bool false) (s.heap.objs.size+2) (s.heap.objs.size+3))→Ou h' (s.heap.objs.size+2) (.ref s.heap.objs.size) (.ref (s.heap.objs.size+1))→(∃a b,Ou h' (s.heap.objs.size+3) a b)→
   h'.IsListIter s.heap.objs.size t1 0→h'.IsTupleIter (s.heap.objs.size+1) t2 0→h'.objs.size=s.heap.objs.size+5→(∀c o,s.heap.get? c=some o→h'.get? c=some o)→Q (.ref (s.heap.objs.size+4)) {s with heap:=h'}):
  wpAny (model prog w) A (call (.type "zip") [.ref t1,.ref t2]) Q E s:=by
 refine callType_new F.called_zip (by decide) (F.typeCall_zip_2 _ _) (F.newCall_zip_2 _ _) (fun obj=>F.args_object_init_3 obj _ _) F.entry_zip_new (yP t1 t2 xs ys) ⟨hl1,hl2,?_⟩
 have z1:(zm1 s.heap t1).objs.size=s.heap.objs.size+1:=MY ..
 have z2:(zm2 s.heap t1 t2).objs.size=s.heap.objs.size+2:=by rw[MY,z1]
 have z3:(zm3 s.heap t1 t2).objs.size=s.heap.objs.size+3:=by rw[MY,z2]
 have z4:(zm4 s.heap t1 t2).objs.size=s.heap.objs.size+4:=by rw[MY,z3]
 have z5:(zm5 s.heap t1 t2).objs.size=s.heap.objs.size+5:=by rw[MY,z4]
 have g5:(zm5 s.heap t1 t2).get? (zm4 s.heap t1 t2).objs.size=some _:=KG _ rfl
 have g4:(zm5 s.heap t1 t2).get? (zm3 s.heap t1 t2).objs.size=some _:=gV _ (KG _ rfl)
 have g3:(zm5 s.heap t1 t2).get? (zm2 s.heap t1 t2).objs.size=some _:=gV _ (gV _ (KG _ rfl))
 have g2:(zm5 s.heap t1 t2).get? (zm1 s.heap t1).objs.size=some _:=gV _ (gV _ (gV _ (KG _ rfl)))
 have g1:(zm5 s.heap t1 t2).get? s.heap.objs.size=some _:=gV _ (gV _ (gV _ (gV _ (KG _ rfl))))
 show _∧_
 rw[z2,z3,z4]at g5
 rw[z1,z2]at g3
 rw[z3]at g4
 rw[z1]at g2
 rw[z4]
 exact⟨⟨_,g5,rfl⟩,h _ g5 g3 ⟨_,_,g4⟩ ⟨_,g1,rfl,rfl⟩ ⟨_,g2,rfl,rfl⟩ z5 fun c o x=>gV _ (gV _ (gV _ (gV _ (gV _ x))))⟩
end
end HT
namespace L2
open PySem PySem.Spec PyProof.Rows
section
variable {X:Cx}{pins:List (Addr×Obj)}{σ:St}{H:Hp}{s:Ky}{h':Heap}
theorem rA {tk:Nat}{us vs:List V}{xs ys:List Gt}{lo:Addr}{as:List Addr}(I:Inv X pins σ H s)(k:∀b o,s.heap.get? b=some o→h'.get? b=some o)(hlo:s.heap.objs.size≤lo)(r1:aO us xs)(r2:aO vs ys)(G:HT.kG xs.toArray ys.toArray lo h' as):
  ∀n,n≤as.length→∃H',au H H'∧(∀j a x y,j<n→as[j]? =some a→us[j]? =some x→vs[j]? =some y→H' a=some (.tup [x,y]))∧(∀b,H b=none→b∉as.take n→H' b=none)∧Inv X pins σ H' {s with heap:=h',toks:=tk}:=by
 intro n
 induction n with
 |zero=>intro _;exact⟨H,au.rfl',fun j a x y h=>absurd h (by omega),fun b e _=>e,I.kept (t':=tk) k⟩
 |succ n ih=>
  intro hn
  obtain⟨H1,S1,t1,f1,I1⟩:=ih (by omega)
  have hlt:n<as.length:=hn
  have ea:as[n]? =some as[n]:=KB hlt
  obtain⟨x,y,e1,e2,e3⟩:=G.pairs n _ ea
  have hxl:n<xs.length:=by have:=(MQ.mp e1).1;simpa using this
  have hyl:n<ys.length:=by have:=(MQ.mp e2).1;simpa using this
  obtain⟨u,hu⟩:∃u,us[n]? =some u:=⟨_,KB (by rw[r1.length];exact hxl)⟩
  obtain⟨v,hv⟩:∃v,vs[n]? =some v:=⟨_,KB (by rw[r2.length];exact hyl)⟩
  obtain⟨x',gx,rx⟩:=r1.get hu
  obtain⟨y',gy,ry⟩:=r2.get hv
  have ex:x'=x:=by have:xs[n]? =some x:=by simpa using e1
                   exact KL (gx.symm.trans this)
  have ey:y'=y:=by have:ys[n]? =some y:=by simpa using e2
                   exact KL (gy.symm.trans this)
  subst ex ey
  have ge:s.heap.objs.size≤as[n]:=KR hlo (G.above _ (KM ea))
  have nin:as[n]∉as.take n:=fun hm=>by
   obtain⟨j,hj⟩:=ME.mp hm
   have hjn:j<n:=by have:=(KC.mp hj).1;rw[Lf]at this;omega
   rw[Tb,if_pos hjn]at hj
   have:=List.pairwise_iff_getElem.mp G.rise j n (by omega) hlt hjn
   rw[(KC.mp hj).2]at this
   exact ML _ this
  have hfree:H1 as[n]=none:=f1 _ (I.hok.fresh ge) nin
  have I2:Inv X pins σ (upd H1 as[n] (.tup [u,v])) {s with heap:=h',toks:=tk}:=Inv.track2 I I1 ge hfree ⟨by show 2≤sizeLine;decide,[x',y'],.cons rx (.cons ry .nil),⟨_,e3,rfl,_,rfl⟩⟩
  refine⟨_,S1.trans (au.upd hfree),fun j a x y hj ha hx hy=>?_,fun b e hb=>?_,I2⟩
  ·rcases Nat.lt_or_eq_of_le (Nat.le_of_lt_succ hj)with h|h
   ·exact au.upd hfree _ _ (t1 j a x y h ha hx hy)
   ·subst h
    rw[ea]at ha;cases ha
    rw[hu]at hx;cases hx
    rw[hv]at hy;cases hy
    exact ai
  ·have nb:b≠as[n]:=fun q=>hb (by rw[q];exact ME.mpr ⟨n,by rw[Tb,if_pos (Ol _)];exact ea⟩)
   rw[ao nb]
   exact f1 b e fun q=>hb (by rw[Ul];exact On _ q)
def rp (K:tx):List V→Hp→VK→Prop:=fun xs H Q=>∃c d us vs,xs=[.ref c,.ref d]∧SqL K H c us∧SqT K H d vs∧us.length=vs.length∧
 ∀(l:Addr)(ps:List Addr)(H':Hp),H l=none→au H H'→ps.length=us.length→(∀(j:Nat)(p:Addr)(x y:V),ps[j]?=some p→us[j]?=some x→vs[j]?=some y→H' p=some (.tup [x,y]))→H' l=some (.lst (ps.map V.ref))→Q (.ref l) H'
theorem xX {Q:VK}{c d:Addr}{us vs:List V}(hc:X.calm=true)(I:Inv X pins σ H s)(hx:SqL X.K H c us)(hy:SqT X.K H d vs)(hl:us.length=vs.length)
  (q:∀(l:Addr)(ps:List Addr)(H':Hp),H l=none→au H H'→ps.length=us.length→(∀(j:Nat)(p:Addr)(x y:V),ps[j]?=some p→us[j]?=some x→vs[j]?=some y→H' p=some (.tup [x,y]))→H' l=some (.lst (ps.map V.ref))→Q (.ref l) H'):
  wpAny (model X.prog X.w) X.A (call (.type "zip") [.ref c,.ref d]) (fun u s2=>wpAny (model X.prog X.w) X.A (call (.type "list") [u]) (EP X pins σ Q) X.xe s2) X.xe s:=by
 obtain⟨its,r1,p1,hz1⟩:=I.list hx
 obtain⟨its2,r2,p2,_⟩:=I.tuple hy
 have l1:=r1.length
 have l2:=r2.length
 have hL:s.heap.IsList c its.toArray:=p1.isList
 have hT:s.heap.IsTuple d its2.toArray:=p2
 have lt1:c<s.heap.objs.size:=by obtain⟨o,e,_⟩:=hL;exact KF e
 have lt2:d<s.heap.objs.size:=by obtain⟨o,e,_⟩:=hT;exact KF e
 refine HT.wA hL hT fun h1 y1 y2 y3 y4 y5 hsz hk=>?_
 refine HT.ww (s:={s with heap:=h1}) (I.ok.hd hc) (zipApart_new lt1 lt2) (by rw[KH];omega) (by rw[KH,KH];omega) y1 y2 y3 y4 y5 (hL.at fun o e=>hk _ o e) (hT.at fun o e=>hk _ o e) fun h2 tk acc cc as hk2 hS hla hG hacc=>?_
 have hsz1:({s with heap:=h1}:Ky).heap.objs.size=s.heap.objs.size+5:=hsz
 rw[hsz1]at hS hG⊢
 have kk:∀b o,s.heap.get? b=some o→h2.get? b=some o:=fun b o e=>hk2 b o (fun z=>by
  have hb:=KF e
  simp only[KY,Mb,or_false]at z
  rcases z with rfl|rfl|rfl|rfl|rfl<;>exact absurd hb (Nat.not_lt.mpr (by first|exact KA _|exact Om _ _))) (hk b o e)
 obtain⟨H',S',tr,fr,I'⟩:=rA (tk:=tk) I kk (KR (Om _ 5) (Np _)) r1 r2 hG as.length (KA _)
 have hSfree:H' (s.heap.objs.size+5)=none:=fr _ (I.hok.fresh (Om _ _)) fun hm=>by
  have:=hG.above _ (Ss hm)
  exact absurd this (Nat.not_le.mpr (Ol _))
 have rr:aO (as.map V.ref) (as.map KJ):=by
  clear q tr fr hla hG hacc
  induction as with
  |nil=>exact .nil
  |cons a r ih=>exact .cons rfl ih
 have hla':as.length=us.length:=by rw[hla,KH];omega
 have I2:Inv X pins σ (upd H' (s.heap.objs.size+5) (.lst (as.map V.ref))) {s with heap:=h2,toks:=tk}:=Inv.track2 I I' (Om _ _) hSfree ⟨by rw[Kz,hla'];exact hz1,as.map KJ,cc,rr,by rw[hS,←hacc]⟩
 exact⟨.ref (s.heap.objs.size+5),_,I2,rfl,q _ as _ (I.hok.fresh (Om _ _)) (S'.trans (au.upd hSfree)) hla' (fun j p x y hj hx hy=>au.upd hSfree _ _ (tr j p x y (KC.mp hj).1 hj hx hy)) ai⟩
end
section
variable {X:Cx}{a b:Expr}{t:TA}{p1 p2 pos1 pos2:Pos}
theorem vh (hm1:X.mg "list"=none)(hm2:X.mg "zip"=none)(hc:X.calm=true)(ha:QA X [a,b] t)(hg1:Gl X "list":=by rfl)(hg2:Gl X "zip":=by rfl)(hs:aU [a,b]=true:=by rfl):
  QE X (.Call (.Name "list" p1) [.Call (.Name "zip" p2) [a,b] [] pos2] [] pos1) (tCB (rp X.K) t):=⟨fun pins s σ H Q I h=>by
 have h':(bA a&&aU [b])=true:=hs
 refine LF (eJ I hg1 hm1 sF ?_ (by decide) (by decide))
 refine LK ?_ rfl rfl
 show wpAny _ _ (spliced ((false,eval (.Call (.Name "zip" p2) [a,b] [] pos2) X.env)::backTo pos1 (starEach [] X.env))) _ _ s
 refine Qb ?_
 refine LF (eJ I hg2 hm2 BG ?_ (by decide) (by decide))
 refine LK (thn (ha.out pos2 pins s σ H _ I h) fun us s1 ⟨vs,H1,I1,r1,q1⟩=>?_)
  (aP (KD.mp h').1 [b] X.env) (bv (KD.mp h').2)
 obtain⟨c,d,xs,ys,rfl,hx,hy,hl,q⟩:=q1
 obtain⟨u,w',rfl,ru,rw'⟩:=pq r1
 cases ru
 cases rw'
 refine Le (xX hc I1 hx hy hl q) (fun u s2 z=>?_) fun _ _ z=>z
 exact Ql z⟩
end
def za (K:tx)(a:Addr)(n:Nat):It where
 go:=fun i H=>i<n∧∃xs,SqL K H a xs∧xs.length=n
 yld:=fun i H x H'=>H'=H∧∀xs,SqL K H a xs→xs[n- 1- i]?=some x
 stop:=fun i _=>n≤i
theorem vT {P:KS}{w:LI}{K:tx}{tg:Expr}(a it:Addr)(n:Nat):kJ P w K tg (za K a n) [it] it (fun i h=>i≤n∧h.IsRevIter it a ((n:Int)- 1- i))where
 mem:=by simp
 obj:=fun i h st b hb=>by
  have e:b=it:=by simpa using hb
  subst e
  obtain⟨_,o,e,c,d⟩:=st
  exact⟨o,e,fun v z=>by rw[d]at z;cases z⟩
 keep:=fun i h h' st k=>⟨st.1,st.2.at fun o e=>k it (by simp) o e⟩
 item:=by
  intro X hP hw hK hc i pins s σ H E I hf st hg
  subst hP hw hK
  obtain⟨hi,xs,hq,hl⟩:=hg
  obtain⟨its,rv,p,hz⟩:=I.list hq
  obtain⟨x,hx⟩:∃x,xs[n- 1- i]?=some x:=⟨_,KB (by omega)⟩
  obtain⟨u,hu,ru⟩:=rv.get hx
  obtain⟨f0,f1,f2,f3,f4,f5⟩:=hf it (by simp)
  have st2:=st.2
  rw[show(n:Int)- 1- i=((n- 1- i:Nat):Int)by omega]at st2
  refine wpAny_pyNext_rev_item st2 p.isList (x:=u) (by simpa using hu) fun h' st' sb=>?_
  have I1:Inv X pins σ H {s with heap:=h'}:=I.turned (t':=s.toks) (fun b o hb e=>(sb.2 b hb).trans e) f0 f1 f3 f4 f5
  obtain⟨o,e1,c,d⟩:=id st'
  refine⟨u,rfl,lb (s:={s with heap:=h'}) e1 c d (by decide) ⟨x,H,I1,ru,⟨rfl,fun ys hy=>by rw[I.list_inj hy hq];exact hx⟩,⟨hi,?_⟩,fun b hb=>(hf b hb).1⟩⟩
  rw[show(n:Int)- 1- ((i+1:Nat):Int)=((n- 1- i:Nat):Int)- 1 by omega];exact st'
 done:=by
  intro X hP hw hK hc i pins s σ H E I hf st hg
  subst hP hw hK
  obtain⟨f0,f1,f2,f3,f4,f5⟩:=hf it (by simp)
  have hg:n≤i:=hg
  have hi:=st.1
  have st2:=st.2
  rw[show(n:Int)- 1- i= -1 by omega]at st2
  exact wpAny_pyNext_rev_end (I.ok.hd hc) st2 fun h' eb=>⟨rfl,I.turned (t':=s.toks) (fun b o hb e=>eb b o hb e) f0 f1 f3 f4 f5⟩
 self:=fun _ _ _ _ _ st h=>TJ st.2 h
theorem dc.revL {K:tx}{a:Addr}{xs:List V}(d:V):dc (za K a xs.length) xs.length (fun i=>xs.reverse.getD i d) (fun H=>SqL K H a xs)where
 go:=fun i H hi h=>⟨hi,xs,h,rfl⟩
 yld:=fun i H x H' hi h y=>⟨y.1,by rw[Lb,Nz hi,y.2 xs h];rfl⟩
 stop:=fun H h=>KA _
section
variable {X:Cx}{a:Expr}{t:TA}{p pos:Pos}{tg:Expr}
def Aa (K:tx)(t:TA):TI:=fun σ H R=>t σ H fun vs H1=>∃c xs,vs=[.ref c]∧((SqL K H1 c xs∧R (za K c xs.length) H1)∨(SqT K H1 c xs∧R (Ep K c xs) H1))
theorem Bv (hm:X.mg "reversed"=none)(ha:QA X [a] t)(hg:Gl X "reversed":=by rfl)(hs:aU [a]=true:=by rfl):QI X tg (.Call (.Name "reversed" p) [a] [] pos) (Aa X.K t):=⟨fun pins s σ H R I h=>by
 have h':(bA a&&aU [])=true:=hs
 refine LF (eJ I hg hm lw ?_ (by decide) (by decide))
 refine LK (thn (ha.out pos pins s σ H _ I h) fun us s1 ⟨vs,H1,I1,r1,q1⟩=>?_)
  (aP (KD.mp h').1 [] X.env) (bv (KD.mp h').2)
 obtain⟨c,xs,rfl,q1⟩:=q1
 obtain⟨u,rfl,ru⟩:=eN r1
 cases ru
 rcases q1 with⟨hq,q⟩|⟨hq,q⟩
 ·obtain⟨its,rv,p,hz⟩:=I1.list hq
  have hl:=rv.length
  refine call_reversed_list p.isList ?_
  have st:(s1.heap.push (revObj c ((its.toArray.size:Int)- 1))).IsRevIter s1.heap.objs.size c ((xs.length:Int)- 1- ((0:Nat):Int)):=by
   refine⟨_,KG _ rfl,rfl,?_⟩
   have e:(xs.length:Int)- 1- ((0:Nat):Int)=(its.toArray.size:Int)- 1:=by rw[KH];omega
   rw[e];rfl
  refine TJ (s:={s1 with heap:=s1.heap.push (revObj c ((its.toArray.size:Int)- 1))}) st ?_
  refine⟨s1.heap.objs.size,[s1.heap.objs.size],_,_,H1,rfl,I1.kept (t':=s1.toks) fun b o e=>gV _ e,vT c _ xs.length,⟨Ly _,st⟩,fun b hb=>?_,q⟩
  have e:b=s1.heap.objs.size:=by simpa using hb
  subst e
  exact I1.fpOk (KA _) (I1.hok.fresh (KA _))
 ·obtain⟨its,rv,p,hz⟩:=I1.tuple hq
  have hl:=rv.length
  refine HT.fD (show QK s1.heap c its.toArray from p) (by rw[KH];rw[Mt]at hz;omega) ?_
  have st:HT.fu (s1.heap.push (HT.lA c ((its.toArray.size:Int)- 1))) s1.heap.objs.size c ((xs.length:Int)- 1- ((0:Nat):Int)):=by
   show(s1.heap.push _).get? _=_
   have e:(xs.length:Int)- 1- ((0:Nat):Int)=(its.toArray.size:Int)- 1:=by rw[KH];omega
   rw[e]
   exact KG _ rfl
  refine HT.lL (s:={s1 with heap:=s1.heap.push (HT.lA c ((its.toArray.size:Int)- 1)),toks:=s1.toks+1+1}) st ?_
  refine⟨s1.heap.objs.size,[s1.heap.objs.size],_,_,H1,rfl,I1.kept (t':=s1.toks+1+1) fun b o e=>gV _ e,yM c _ xs,⟨Ly _,st⟩,fun b hb=>?_,q⟩
  have e:b=s1.heap.objs.size:=by simpa using hb
  subst e
  exact I1.fpOk (KA _) (I1.hok.fresh (KA _))⟩
end
end L2
namespace HT
open PySem PySem.W PyProof.Rows
abbrev lH (C t:Addr)(d:Option Addr):Obj:={cls:=.ref C,dict:=d,data:=.fields #[.ref t,.none,.none,.none,.bool false,.none]}
abbrev iG (h:Heap)(C:Addr)(us:List Gt):Heap:=(h.push {cls:=.type "tuple",data:=.seq us.toArray}).push (lH C h.objs.size none)
section
variable {prog:KS}{w:LI}{A:Lj}{K:Frag}{C f:Addr}{R:Rj→Ky→Prop}{h:Heap}{g:Array SQ}{d:Drawn}{t:Nat}{os:OsState}
theorem yc {us:List Gt}(X:K.In h)(hC:L2.cL K C)(hi:findIn K (.ref C) "__init__"=some (some (.ref f)))(hf:typeIn K (.ref f)=some (.type "function"))(hus:us.length≤sizeLine)
  (hq:codeAny (model prog w) (A.under (.builtin "type.__call__" ⟨.ref C::us,[]⟩)) (.call (.ref f) ⟨.ref (h.objs.size+1)::us,[]⟩) (InitBack (h.objs.size+1) R) ⟨iG h C us,g,d,t,os⟩):
  codeAny (model prog w) A (.call (.ref C) ⟨us,[]⟩) R ⟨h,g,d,t,os⟩:=by
 obtain⟨bm,N,nm,qn,bs,hdct,sn,sub,ab,col,dd,k0,k1,k2,k3,k5,mN,oC,hN,_,T,_⟩:=L2.gT X hC
 have f1:=tc_lookup
 have f2:=tc_bind (.ref C)
 have hT:(⟨h,g,d,t,os⟩:Ky).TypeIs (.ref C) "type":=⟨_,oC,rfl⟩
 have FB:=Ow
 have hBn:(L2.veM).contains (.type "ValueError")=true:=by decide+kernel
 refine codeAny_of_tree ?_
 show wpAny _ _ (callAny (.ref C) _) _ _ _
 repeat (any_goals (first|assumption|with_reducible refine Nn oC ?_ |wp_step))
 refine⟨rfl,?_⟩
 refine codeAny_call_builtin_at (SU _ (by decide+kernel)) entry_typeCall (wpAny_check_type_call_sub oC ?_)
 repeat (first|with_reducible refine Nn oC ?_ |with_reducible refine wpAny_madeBy_exc oC ?_ |wp_step)
 refine codeAny_call_builtin_code (SU _ FB.quiet) (wpAny_check_new_subU FB hBn T oC ?_)
 refine codeAny_exc_new_subU FB hBn FB T oC ?_ hus
 show wpAny _ _ _ _ _ _
 have k:∀b o,h.get? b=some o→(iG h C us).get? b=some o:=fun b o e=>gV _ (gV _ e)
 have hx:(iG h C us).get? (h.objs.size+1)=some (lH C h.objs.size none):=by heap_get
 have oC1:=k _ _ oC
 have hcC:(KJ C::bm).contains (.ref C)=true:=by simp
 have t1:Looks (model prog w) (iG h C us) (typeOf (.ref (h.objs.size+1))) (.ref C):=(Looks.ld hx).andThen .now
 have i1:=(looks_findIn (M:=model prog w) X hi).keeps k
 have b1:=(bind_fn (M:=model prog w) X (.ref (h.objs.size+1)) hf).keeps k
 unfold isInstance
 repeat (first|with_reducible refine Nn hx ?_ |(with_reducible refine Nr oC1 ?_;rw[hcC])|wp_step)
 show wpAny _ _ (isSubtype (.ref C) (.ref C)) _ _ ⟨iG h C us,g,d,t,os⟩
 refine Nr oC1 ?_
 rw[hcC,if_neg (by decide)]
 unfold callSpecial? specialOf
 repeat (first|with_reducible refine Pc ?_ |lk)
 refine MG hq fun r s' z=>?_
 rcases r with e|(v|_|_|_)<;>first|exact z|exact z.elim|skip
 obtain⟨rfl,z⟩:=z
 exact If (If z)
end
end HT
namespace HT
open PySem PySem.W PyProof.Rows
open Builtin Builtin.ObjectAttr
theorem rG (self:Gt){h:Heap}{bm:List Gt}(T:OwnTail h L2.veM bm):refuseLoop self "__setattr__" bm=pure ():=by
 induction T with
 |base=>exact PySem.F.store_ValueError.passes self
 |own _ _ _ _ ih=>rw[refuseLoop_ref];exact ih
structure iN (K:Frag)(C:Addr)(name:Str):Prop where
 ok:L2.cL K C
 sa:findIn K (.ref C) "__setattr__"=some (some (.builtin "object.__setattr__"))
 eg:L2.mj K C
 no:findIn K (.ref C) name=some none
 hd:hasDictIn K C=true
section
variable {prog:KS}{w:LI}{A:Lj}{E:Gt→Ky→Prop}{s:Ky}{K:Frag}{x C:Addr}{name:Str}{v:Gt}
theorem sT {ox:Obj}{od:Option Obj}{tk:Tok}{R:Rj→Ky→Prop}(X:K.In s.heap)(I:InstAt s.heap x ox C od)(G:iN K C name)
  (h:wpAny (model prog w) A.in1 (storeInOwnDict (.ref x) (.ref C) (.str name tk) name v false)
   (fun fin s'=>match fin with|.done f=>R (.ok f) s'|.again c'=>c'.quiet=true∧codeAny (model prog w) A c' R s') (fun e s'=>R (.error e) s') s):
  codeAny (model prog w) A (.call (.builtin "object.__setattr__") ⟨[.ref x,.str name tk,v],[]⟩) R s:=by
 have SF:=PySem.F.store_object
 obtain⟨bm,N,nm,qn,bs,hdct,sn,sub,ab,col,dd,k0,k1,k2,k3,k5,mN,oC,hN,_,T,_⟩:=L2.gT X G.ok
 have hm:Looks (model prog w) s.heap (mroOf (.ref C)) (.ref C::bm):=((Looks.ld (part:=none) oC).andThen .now).andThen .now
 have hsub:Looks (model prog w) s.heap (isSubtype (.ref C) (.type "object")) true:=fun A' Q' E' s' k q=>by
  obtain⟨hh,g,d,t,os⟩:=s'
  refine Nr (k _ _ oC) ?_
  rw[Qi,T.hasType (X:="object") (b:=true) (by decide+kernel),Qx];exact q
 have hsub':Looks (model prog w) s.heap (isInstance (.ref x) (.type "object")) true:=I.type.andThen hsub
 refine codeAny_call_builtin SF.slot.plain SF.entry (@check_slot (model prog w) _ _ s "object.__setattr__" "object" "__setattr__" (.ref x) [.str name tk,v] [] _ SF.kind SF.split hsub' (SF.args (.ref x) (.str name tk) v) ?_)
 rw[osa_eq,refuse_eq]
 refine cW (cW (I.type.here (cW (hm.here ?_))))
 rw[refuseLoop_ref,rG _ T]
 exact If (cW (I.type.here (cW ((looks_findIn X G.no).here (cW (If h))))))
theorem AB {ox:Obj}{dx:Addr}{mA:Str→Option Gt}{ns:List Str}{Q:Unit→Ky→Prop}(X:K.In s.heap)(hx:s.heap.get? x=some ox)(hc:ox.cls=.ref C)(hdx:ox.dict=some dx)(hf:∃vs,ox.data=.fields vs)(hn:s.heap.Ns1 dx mA)(ne:dx≠x)(G:iN K C name)
  (hw:Within mA ns)(hsz:ns.length≤sizeLine)(h:∀h' t',h'.Ns1 dx (fun y=>if y=name then some v else mA y)→MK dx s.heap h'→Q () {s with heap:=h',toks:=t'}):wpAny (model prog w) A (setAttr (.ref x) name v) Q E s:=by
 obtain⟨vs,hvs⟩:=hf
 obtain⟨oc,od,odt,osl⟩:=ox
 dsimp only at hc hdx hvs
 subst hc hdx hvs
 obtain⟨oD0,esD0,epD0,hoD0,_⟩:=id hn
 have J:InstAt s.heap x _ C (some oD0):=⟨hx,rfl,rfl,hoD0⟩
 refine set_plain X J G.sa (sT (s:={s with toks:=s.toks+1}) X J G ?_)
 obtain⟨cd,hcc,hd'⟩:=any_some G.hd
 refine cW (If (cW (cW (Sg hx (cW (Looks.here (s:={s with toks:=s.toks+1}) (looks_clsIn X hcc) ?_))))))
 rw[hd']
 refine If (a:=some dx) (cW (If (cW ?_)))
 refine Tl (s:={s with toks:=s.toks+1}) hn fun h' hn2 hs2=>?_
 obtain⟨oD,esD,epD,hoD,hdD,hcD⟩:=hn2.count (QN name v hw)
 refine cW (Rt hoD (by rw[hdD];exact Ru (KR hcD (by rw[LO];omega))) ?_)
 exact If (h _ _ hn2 hs2)
theorem yC {ox:Obj}{Q:Unit→Ky→Prop}(X:K.In s.heap)(hx:s.heap.get? x=some ox)(hc:ox.cls=.ref C)(hdx:ox.dict=none)(hf:∃vs,ox.data=.fields vs)(G:iN K C name)
  (h:∀h' t',h'.get? x=some {ox with dict:=some s.heap.objs.size}→h'.Ns1 s.heap.objs.size (fun y=>if y=name then some v else none)→(∀b o,b≠x→s.heap.get? b=some o→h'.get? b=some o)→Q () {s with heap:=h',toks:=t'}):
  wpAny (model prog w) A (setAttr (.ref x) name v) Q E s:=by
 obtain⟨vs,hvs⟩:=hf
 obtain⟨oc,od,odt,osl⟩:=ox
 dsimp only at hc hdx hvs
 subst hc hdx hvs
 have J:InstAt s.heap x _ C none:=⟨hx,rfl,rfl,trivial⟩
 refine set_plain X J G.sa (sT (s:={s with toks:=s.toks+1}) X J G ?_)
 obtain⟨cd,hcc,hd'⟩:=any_some G.hd
 refine cW (If (cW (cW (Sg hx (cW (Looks.here (s:={s with toks:=s.toks+1}) (looks_clsIn X hcc) ?_))))))
 rw[hd']
 show wpAny _ _ (alloc {cls:=.type "dict",data:=.dict #[]}>>=fun d=>update x (fun o=>{o with dict:=some d})>>=fun _=>pure (some d)) _ _ _
 have xs:x≠s.heap.objs.size:=KZ (KF hx)
 have hx1:(s.heap.push {cls:=.type "dict",data:=.dict #[]}).get? x=some _:=gV _ hx
 refine cW (wpAny_alloc' (cW (wpAny_update' hx1 (If ?_))))
 generalize hh2:((s.heap.push {cls:=.type "dict",data:=.dict #[]}).update x fun o=>{o with dict:=some s.heap.objs.size})=h2
 have hx2:h2.get? x=some ⟨.ref C,some s.heap.objs.size,.fields vs,osl⟩:=by rw[←hh2];exact Ls _ hx1 rfl
 have hd2:h2.get? s.heap.objs.size=some {cls:=.type "dict",data:=.dict #[]}:=by rw[←hh2];exact(SE _ _ _ _ xs.symm).trans (Heap.get?_push_at rfl rfl)
 have k2:∀b o,b≠x→s.heap.get? b=some o→h2.get? b=some o:=fun b o nb e=>by rw[←hh2];exact(SE _ _ _ _ nb).trans (gV _ e)
 have n2:h2.Ns s.heap.objs.size (fun _=>none):=⟨_,#[],_,hd2,rfl,fun e he=>absurd he (by simp),fun _=>rfl⟩
 show wpAny _ _ (storeInDict s.heap.objs.size (.str name s.toks) name v) _ _ {s with heap:=h2,toks:=s.toks+1}
 unfold storeInDict newKeyGuard
 refine cW (If (cW (Tl (s:={s with heap:=h2,toks:=s.toks+1}) (RX n2) fun h' hn' hs=>?_)))
 obtain⟨oD,esD,epD,hoD,hdD,hcD⟩:=hn'.count (QN name v Within.nil)
 refine cW (Rt hoD (by rw[hdD];exact Ru (KR hcD (by rw[LO,TZ,Mt];omega))) ?_)
 exact If (h _ _ ((hs.2 x xs).trans hx2) hn' fun b o nb e=>(hs.2 b (KZ (KF e))).trans (k2 b o nb e))
end
end HT
namespace L2
open PySem PySem.Spec PyProof.Rows
def fF (C a:Addr)(d:Option Addr):HO:=.ext fun h=>∃t,h.get? a=some (HT.lH C t d)
theorem sk {P:KS}{w:LI}{H:Hp}{h:Heap}{C a t:Addr}{d:Option Addr}(e:h.get? a=some (HT.lH C t d)):aT P w H h a (fF C a d):=⟨⟨t,e⟩,⟨_,e⟩,fun h1 h2 ⟨t1,e1⟩ k=>⟨t1,k _ e1⟩⟩
theorem nG {P:KS}{w:LI}{H:Hp}{h:Heap}{C a:Addr}{d:Option Addr}(x:aT P w H h a (fF C a d)):∃t,h.get? a=some (HT.lH C t d):=x.1
def ly (fs:List (Str×V))(dx:Addr):HO:=.ext fun h=>∃mA,h.Ns1 dx mA∧∀f,cF (fs.lookup f) (mA f)
theorem sM {P:KS}{w:LI}{H:Hp}{h:Heap}{dx:Addr}{fs:List (Str×V)}{mA:Str→Option Gt}(n:h.Ns1 dx mA)(r:∀f,cF (fs.lookup f) (mA f)):aT P w H h dx (ly fs dx):=by
 refine⟨⟨mA,n,r⟩,?_,fun h1 h2 ⟨m1,n1,r1⟩ k=>⟨m1,?_,r1⟩⟩
 ·obtain⟨o,es,ep,e,_⟩:=n
  exact⟨o,e⟩
 ·obtain⟨o,es,ep,e,c⟩:=n1
  exact⟨o,es,ep,k _ e,c⟩
theorem AY {P:KS}{w:LI}{H:Hp}{h:Heap}{dx:Addr}{fs:List (Str×V)}(x:aT P w H h dx (ly fs dx)):∃mA,h.Ns1 dx mA∧∀f,cF (fs.lookup f) (mA f):=x.1
theorem rL {fs:List (Str×V)}{mA:Str→Option Gt}(r:∀f,cF (fs.lookup f) (mA f)):Qn mA (fs.map (·.1)):=fun y h=>by
 have ry:=r y
 cases e:fs.lookup y with
 |none=>
  rw[e]at ry
  cases q:mA y with
  |none=>exact absurd q h
  |some u=>rw[q]at ry;exact ry.elim
 |some v=>
  have:∀(l:List (Str×V)),l.lookup y=some v→y∈l.map (·.1):=by
   intro l
   induction l with
   |nil=>intro z;cases z
   |cons p l ih=>
    intro z
    obtain⟨k,x⟩:=p
    rw[MT]at z
    by_cases hk:(y==k)=true
    ·rw[Lm];exact KY.mpr (.inl (beq_iff_eq.mp hk))
    ·rw[Bool.not_eq_true]at hk
     rw[hk]at z
     exact KQ _ (ih z)
  exact this fs e
def sZ (K:tx)(C:Addr)(ta tv:TE)(f:Str):TS:=fun D σ H=>tv σ H fun y H1=>ta σ H1 fun x H2=>∃a,x=.ref a∧HT.iN K C f∧
 ((H2 a=some (fF C a none)∧∀dx,H2 dx=none→dx≠a→D.nx σ (upd (upd H2 a (fF C a (some dx))) dx (ly [(f,y)] dx)))∨
  (∃dx fs,H2 a=some (fF C a (some dx))∧H2 dx=some (ly fs dx)∧dx≠a∧fs.length<1000∧D.nx σ (upd H2 dx (ly (dQ f y fs) dx))))
section
variable {X:Cx}{o value:Expr}{ta tv:TE}{f:Str}{pos pos':Pos}{C:Addr}
theorem wj (ho:QE X o ta)(hv:QE X value tv)(hs:swapsWith value (some (.Attribute o f pos')) pos.line X.env=pure false:=by rfl):QS X (.Assign [.Attribute o f pos'] value pos) (sZ X.K C ta tv f):=by
 refine⟨fun pins s σ H D I h=>?_⟩
 refine Ra (thn (hv.out pins s σ H _ I h) fun u s1 ⟨y,H1,I1,ry,q⟩=>thn (ho.out pins s1 σ H1 _ I1 q) fun ov s2 ⟨x,H2,I2,rx,a,ex,G,q2⟩=>?_) hs
 subst ex
 obtain rfl:ov=KJ a:=rx
 rcases q2 with⟨ea,q2⟩|⟨dx,fs,ea,ed,ne,hl,q2⟩
 ·obtain⟨t,et⟩:=nG (P:=X.prog) (w:=X.w) (I2.hok a _ ea)
  refine HT.yC I2.kIn et rfl rfl ⟨_,rfl⟩ G fun h' t' e1 e2 k=>?_
  have I3:Inv X pins σ (upd H2 a (fF C a (some s2.heap.objs.size))) {s2 with heap:=h',toks:=t'}:=I2.write (x:=a) (e:=a) (by rw[ea];exact MF) (.inl rfl) (fun b u nb e=>k b u nb e) ⟨_,e1⟩ (sk e1)
  have na:s2.heap.objs.size≠a:=MN (KF et)
  have hn:upd H2 a (fF C a (some s2.heap.objs.size)) s2.heap.objs.size=none:=by rw[ao na];exact I2.hok.fresh (KA _)
  exact⟨σ,_,Inv.track2 I2 I3 (KA _) hn (sM e2 fun g=>by
   show cF (My g [(f,y)]) (if g=f then some u else none)
   by_cases hg:g=f
   ·rw[if_pos hg,hg]
    simp only[My,beq_self_eq_true];exact ry
   ·have hb:(g==f)=false:=beq_eq_false_iff_ne.mpr hg
    rw[if_neg hg]
    simp only[My,hb];exact MF),q2 _ (I2.hok.fresh (KA _)) na⟩
 ·obtain⟨t,et⟩:=nG (P:=X.prog) (w:=X.w) (I2.hok a _ ea)
  obtain⟨mA,n1,r1⟩:=AY (P:=X.prog) (w:=X.w) (I2.hok dx _ ed)
  refine HT.AB (ns:=fs.map (·.1)) I2.kIn et rfl rfl ⟨_,rfl⟩ n1 ne G (rL r1) (by rw[Kz,Mt];omega) fun h' t' e2 sb=>?_
  have hd:∃u,h'.get? dx=some u:=let ⟨o,_,_,e',_⟩:=e2;⟨o,e'⟩
  exact⟨σ,_,I2.write (x:=dx) (e:=dx) (by rw[ed];exact MF) (.inl rfl) (fun b u nb e=>(sb.2 b nb).trans e) hd (sM e2 fun g=>by
   rw[iH]
   by_cases hg:g=f
   ·rw[if_pos hg,if_pos hg];exact ry
   ·rw[if_neg hg,if_neg hg];exact r1 g),q2⟩
end
def jS (a:Addr)(H:Hp):Hp:=fun b=>if b=a then none else H b
theorem jY {a:Addr}{H:Hp}:jS a H a=none:=by unfold jS;rw[if_pos rfl]
theorem eV {a b:Addr}{H:Hp}(h:b≠a):jS a H b=H b:=by unfold jS;rw[if_neg h]
theorem HOk.off {P:KS}{w:LI}{H:Hp}{h:Heap}{a:Addr}{φ:Heap→Prop}(k:HOk P w H h)(ha:H a=some (.ext φ)):HOk P w (jS a H) h:=fun b o e=>by
 by_cases hb:b=a
 ·subst hb;rw[jY]at e;cases e
 ·rw[eV hb]at e
  exact(k b o e).stay (fun c u _ q=>q) (fun c q=>by rw[eV (fun z=>by rw[z,ha]at q;cases q)];exact q) fun c xs q=>by rw[eV (fun z=>by rw[z,ha]at q;cases q)];exact q
theorem Un.off {fs:List Addr}{H H':Hp}{h h':Heap}{a:Addr}(u:Un fs [] H H' h h')(ha:H a=none):Un fs [] H (jS a H') h h' where
 keep:=u.keep
 slot:=u.slot
 free:=fun b o e n hx=>by
  by_cases hb:b=a
  ·rw[hb];exact jY
  ·rw[eV hb];exact u.free b o e n hx
 there:=u.there
 tups:=fun b xs e=>by rw[eV (av e ha)];exact u.tups b xs e
 frzs:=fun b o v e=>by rw[eV (av e ha)];exact u.frzs b o v e
 tbls:=fun b ps e=>by rw[eV (av e ha)];exact u.tbls b ps e
end L2
namespace HT
open PySem PyProof.Rows
section
variable {M:UL}{A:Lj}{E:Gt→Ky→Prop}{env:Env}{K:tx}{C:Addr}
theorem vp {s:Ky}{x:Sem Gt}{Q:Flow→Ky→Prop}(hC:L2.cL K C)(hh:A.handled=none)
  (h:wpAny M A x (fun v s₁=>∃e t d,v=.ref e∧K.In s₁.heap∧s₁.heap.get? e=some (lH C t d)∧E (.ref e) s₁) E s):wpAny M A (raiseStmt env (some x) none) Q E s:=by
 unfold raiseStmt
 refine cW (Le h (fun v s₁ h₁=>?_) fun _ _ x=>x)
 obtain⟨e,t,d,rfl,X,he,hE⟩:=h₁
 obtain⟨bm,N,nm,qn,bs,hdct,sn,sub,ab,col,dd,k0,k1,k2,k3,k5,mN,oC,hN,_,T,_⟩:=L2.gT X hC
 have hcB:(KJ C::bm).contains (.type "BaseException")=true:=by rw[Qi,T.hasType (X:="BaseException") (b:=true) (by decide+kernel),Qx]
 obtain⟨hp,g,dr,tk,os⟩:=s₁
 repeat (first|with_reducible refine Nn he ?_ |with_reducible refine Nn oC ?_ |(with_reducible refine Nr oC ?_;rw[hcB])|wp_step)
 exact wpAny_raiseNew_none hh hE
theorem vn {prog:KS}{w:LI}{A:Lj}{K:tx}{C f:Addr}{R:Rj→Ky→Prop}{s:Ky}{us:List Gt}(X:K.In s.heap)(hC:L2.cL K C)(hi:Lr K (.ref C) "__init__"=some (some (.ref f)))(hf:W.typeIn K (.ref f)=some (.type "function"))(hus:us.length≤sizeLine)
  (hq:codeAny (model prog w) (A.under (.builtin "type.__call__" ⟨.ref C::us,[]⟩)) (.call (.ref f) ⟨.ref (s.heap.objs.size+1)::us,[]⟩) (W.InitBack (s.heap.objs.size+1) R) {s with heap:=iG s.heap C us}):
  codeAny (model prog w) A (.call (.ref C) ⟨us,[]⟩) R s:=by
 obtain⟨h,g,d,t,os⟩:=s
 exact yc X hC hi hf hus hq
end
end HT
namespace L2
open PySem PySem.Spec PyProof.Rows
def sR (C:Addr)(sp:Sp)(E:St→XK)(t:TA):TS:=fun _ σ H=>t σ H fun vs H1=>∀a,H1 a=none→sp (.ref a::vs) (upd H1 a (fF C a none)) (fun v H2=>v=.non∧∃d,H2 a=some (fF C a d)∧E σ (.ref C) d (jS a H2)) E0
structure zU (K:tx)(C f:Addr):Prop where
 ok:cL K C
 init:Lr K (.ref C) "__init__"=some (some (.ref f))
 fn:OO K (.ref f)=true
 kp:Oh K (.ref C)=true
section
variable {X:Cx}{k:Nat}{f C:Addr}{fd:KP}{ps:List Str}{sp:Sp}{E:St→XK}{x:Str}{np cpos pos:Pos}{e:Expr}{es:List Expr}{t:TA}
theorem yU (Y:zU X.K C f)(F:aL X.prog X.w X.K X.mg X.base (CX1 X.prog X.w) k f fd ps sp)(hr:bc (k+1) X.A)(hb:br X.K fd ps [])(hm:X.mg x=some (.ref C))(hR:qr X E)(ha:QA X (e::es) t)
  (hc:X.calm=true:=by rfl)(hg:Gl X x:=by rfl)(hdb:(x==("__debug__":Str))=false:=by decide)(hs:aU (e::es)=true:=by rfl)(hps:ps.length≤1000:=by decide):QS X (.Raise (some (.Call (.Name x np) (e::es) [] cpos)) none pos) (sR C sp E t):=by
 refine⟨fun pins s σ H D I h=>?_⟩
 have h':(bA e&&aU es)=true:=hs
 rw[arm_exec_Raise]
 refine cW (OD (HT.vp Y.ok (I.ok.hd hc) ?_))
 refine cW (Le ?_ (fun v s₃ h₃=>cW (OD (If h₃))) fun _ _ x=>x)
 refine LF (eY I hg hm ?_ hdb)
 refine PD (h₀:=X.base) I.ok.mod.kin Y.kp (thn (ha.out cpos pins s σ H _ I h) fun us s1 ⟨vs,H1,I1,r,q⟩=>⟨I1.kIn,?_⟩) (aP (KD.mp h').1 es X.env) (bv (KD.mp h').2)
 have ka:∀b u,s1.heap.get? b=some u→(HT.iG s1.heap C us).get? b=some u:=fun b u eb=>gV _ (gV _ eb)
 have ex:(HT.iG s1.heap C us).get? (s1.heap.objs.size+1)=some (HT.lH C s1.heap.objs.size none):=by heap_get
 have hfr:H1 (s1.heap.objs.size+1)=none:=I1.hok.fresh (Np _)
 have I2:Inv X pins σ (upd H1 (s1.heap.objs.size+1) (fF C (s1.heap.objs.size+1) none)) {s1 with heap:=HT.iG s1.heap C us,toks:=s1.toks}:=I1.laid ka (Np _) (sk ex)
 have hq:=q (s1.heap.objs.size+1) hfr
 have r2:aO (V.ref (s1.heap.objs.size+1)::vs) (KJ (s1.heap.objs.size+1)::us):=.cons rfl r
 have hl:(KJ (s1.heap.objs.size+1)::us).length=ps.length:=by rw[←r2.length];exact F.len _ _ _ _ hq
 have hb':=hb {s1 with heap:=HT.iG s1.heap C us} (KJ (s1.heap.objs.size+1)::us) I2.kIn (by rw[LW];exact hl)
 rw[LW]at hb'
 have husz:us.length≤sizeLine:=by
  rw[LO]at hl
  rw[Mt];omega
 refine Pc (HT.vn I1.kIn Y.ok Y.init (beq_iff_eq.mp Y.fn) husz (MG (F.run _ X.stack _ _ ⟨KJ (s1.heap.objs.size+1)::us,[]⟩ (KJ (s1.heap.objs.size+1)::us) _ _ _ (hr.make C us []) (I2.env0.make C us []) hb' r2 hq) fun rr s' hq'=>?_))
 cases rr with
 |error e'=>
  obtain⟨_,_,_,_,_,_,z⟩:=hq'
  exact z.elim
 |ok fl=>
  cases fl with
  |next=>exact Ll hq'
  |brk=>exact Ll hq'
  |cont=>exact Ll hq'
  |ret u=>
   obtain⟨v,H',os,bare,un,hok,rv,rfl,d,hd,hE⟩:=hq'
   obtain⟨t,et⟩:=nG (P:=X.prog) (w:=X.w) (hok _ _ hd)
   have u1:Un (frs X.stack) [] H1 H' s1.heap s'.heap:=(Un.laid (o:=fF C (s1.heap.objs.size+1) none) ka (Np _) hfr).trans un
   have kin:X.K.In s'.heap:=by
    have I3:Inv X pins σ H' s':=I1.call' (ch:=[]) os u1 hok bare fun b z=>absurd z (by simp)
    exact I3.kIn
   refine⟨rv,s1.heap.objs.size+1,t,d,rfl,kin,et,hR pins σ H1 s1 C (s1.heap.objs.size+1) d (jS (s1.heap.objs.size+1) H') s' I1 ⟨os,bare,u1.off hfr,hok.off hd,So (Np _),jY,⟨_,_,.ref t,et,rfl,rfl,rfl,⟨rfl,rfl⟩,rfl⟩⟩ hE⟩
end
end L2
namespace HT
open PySem PySem.Spec PyProof.Rows
theorem vW:typeLookup (.type "reversed") "__len__"=pure none:=by rw[MS,Md];kernel_rfl
theorem xm:typeLookup (.type "reversed") "__length_hint__"=pure (some (.builtin "reversed.__length_hint__")):=by rw[MS,Md];kernel_rfl
theorem jL:Slot "reversed" "__length_hint__" "reversed.__length_hint__":=
 .of (owner:="reversed") (n:="__length_hint__") (by rw[MS,Md];kernel_rfl) (by decide+kernel) (by decide+kernel) (by decide+kernel)
  (by first|exact .inl (by decide+kernel)|exact .inr (by decide+kernel)) (by rw[Nx];kernel_rfl)
theorem nH:entryFor table "reversed.__length_hint__"=some NS.«reversed.__length_hint__»:=entryFor_of_tree (by kernel_rfl)
theorem oR (a:Gt):argsOk "reversed.__length_hint__" ⟨[a],[]⟩:=by
 unfold argsOk;rw[SJ (id:="reversed.__length_hint__") (n:="__length_hint__".toList.reverse) (o:=['d','e','s','r','e','v','e','r']) (by kernel_rfl) jX];kernel_rfl
theorem oY {prog:KS}{w:LI}{A:Lj}{E:Gt→Ky→Prop}{s:Ky}{it t:Addr}{items:Array Gt}{Q:Gt→Ky→Prop}(hit:fu s.heap it t ((items.size:Int)- 1))(ht:QK s.heap t items)(hz:(items.size:Int)<2^63)
  (h:∀tk tk',s.toks≤tk→Q (.int items.size tk') {s with toks:=tk}):wpAny (model prog w) A (call (.builtin "reversed.__length_hint__") [.ref it]) Q E s:=by
 refine LB jL hit.typeIs nH ?_ (oR _)
 unfold NS.«reversed.__length_hint__»
 refine cW (MR (a:=KJ it) rfl ?_)
 refine cW (Lp hit rfl (x:=.ref t) rfl ?_)
 rw[if_neg (by simp)]
 refine cW (len_tuple ht hz ?_)
 refine cW (MR (a:=some ((items.size:Nat):Int)) rfl ?_)
 try dsimp only
 refine cW (Lp (s:={s with toks:=s.toks+1+1}) hit rfl (x:=rawInt ((items.size:Int)- 1)) rfl ?_)
 show wpAny _ _ (if (items.size:Int)<(items.size:Int)- 1+1 then _ else _) _ _ _
 rw[if_neg (by omega),show(items.size:Int)- 1+1=items.size from by omega]
 refine cW (Ua ?_)
 exact If ⟨_,rfl,h _ _ (by show s.toks≤s.toks+1+1+1;omega)⟩
theorem qj {prog:KS}{w:LI}{A:Lj}(hh:A.handled=none)(I t:Addr)(hne:t≠I)(items:Array Gt)(hz:(items.size:Int)<2^63):
  Walks prog w A I [I,t] [I] items.size (fun i v=>items[items.size- 1- i]?=some v) (fun i h=>i≤items.size∧fu h I t ((items.size:Int)- 1- (i:Int))∧QK h t items)where
 sub:=fun b hb=>by simp at hb;simp[hb]
 frame:=fun _ _ _ x hk=>⟨x.1,hk I (by simp) _ x.2.1,let ⟨o,ho,r⟩:=x.2.2;⟨o,hk t (by simp) _ ho,r⟩⟩
 item:=fun i s Q E hi x hQ=>by
  have e:(items.size:Int)- 1- (i:Int)=((items.size- 1- i:Nat):Int):=by omega
  have hit:=x.2.1
  rw[e]at hit
  have hx:items[items.size- 1- i]?=some (items[items.size- 1- i]'(by omega)):=Lz (by omega)
  refine jI hit x.2.2 hz hx fun h' hit' hs'=>?_
  have e2:((items.size- 1- i:Nat):Int)- 1=(items.size:Int)- 1- ((i+1:Nat):Int):=by omega
  rw[e2]at hit'
  exact hQ _ h' _ hx ⟨hi,hit',x.2.2.extBut hs'.extBut hne⟩ fun b o hb eo=>hs'.extBut b o (fun h=>hb (by simp[h])) eo
 done:=fun s Q E x hQ=>by
  have e:(items.size:Int)- 1- (items.size:Int)= -1:=by omega
  have hit:=x.2.1
  rw[e]at hit
  exact jU hh hit fun h' he'=>hQ h' s.toks fun b o hb eo=>he' b o (fun h=>hb (by simp[h])) eo
 self:=fun _ _ _ _ x hQ=>lL x.2.1 hQ
section
variable {prog:KS}{w:LI}{A:Lj}{E:Gt→Ky→Prop}{s:Ky}{I:Addr}{fp wr:List Addr}{G:Array SQ→Array SQ→Prop}{n:Nat}{P:Nat→Gt→Prop}{St:Nat→Ky→Prop}
theorem rq {Q:List Gt→Ky→Prop}(hH:∀(A':Lj)(s:Ky)(Q:Gt→Ky→Prop)(E:Gt→Ky→Prop),St 0 s→(∀tk tk',s.toks≤tk→Q (.int n tk') {s with toks:=tk})→wpAny (model prog w) A' (call (.builtin "reversed.__length_hint__") [.ref I]) Q E s)(W:WalksS prog w A.in1 I fp wr G n P St)(hT:∀i s,St i s→s.TypeIs (.ref I) "reversed")(hst:St 0 s)(hfp:∀b∈fp,b<s.heap.objs.size)(hI:I∈fp)
  (hQ:∀s' acc,Moved wr G s s'→ItemsOf P acc n→Q acc.toList s')(hn:n≤sizeLine):wpAny (model prog w) A (collect (.ref I)) Q E s:=by
 have hSf:s.heap.objs.size∉fp:=fun hm=>ML _ (hfp _ hm)
 have hSI:s.heap.objs.size≠I:=fun e=>hSf (e▸hI)
 unfold collect
 refine cW (wpAny_runValue (OK F.entry_proto_collect ?_))
 rw[NF F.plain_proto_collect _]
 show wpAny _ A.in1 (newList []>>=fun l=>again (.builtin "list.__iadd__" ⟨[l,.ref I],[]⟩)) _ _ s
 refine cW (LJ ?_)
 refine If ⟨Ob Uh _,OK F.entry_list_iadd ?_⟩
 rw[NF Uh _]
 have hst₁:=W.frame 0 s (s.heap.push {cls:=.type "list",data:=.seq ([]:List Gt).toArray}) s.toks hst (KA _) fun b _ o e=>gV _ e
 show wpAny _ A.in1 (Mj (.ref s.heap.objs.size) (.ref I) (.ref s.heap.objs.size)) _ _ _
 unfold Mj
 refine cW (OT (hT 0 _ hst₁) ?_)
 have h1:NB (.ref s.heap.objs.size) (.ref I)=false:=by simp[NB,hSI]
 rw[if_neg (by rw[h1];decide)]
 refine cW (W.self 0 _ _ _ hst₁ ?_)
 refine cW (Ms ?_)
 unfold PV
 refine cW (Nm (hT 0 _ hst₁) vW ?_)
 show wpAny _ A.in1 (specialOf (KJ I) (Mf "__length_hint__")>>=_) _ _ _
 refine cW (Nm (hT 0 _ hst₁) xm ?_)
 generalize hid:("reversed.__length_hint__":String)=id0
 wp_delta
 rw[show splitId id0=some ("reversed","__length_hint__")from by subst hid;decide+kernel]
 subst hid
 refine cW (Oz (b:=true) (hT 0 _ hst₁) (by rw[Nx];kernel_rfl) ?_)
 rw[if_neg (by decide)]
 try dsimp only
 rw[if_neg (by decide+kernel)]
 refine cW (OF ?_)
 refine cW (MR (jL.bind _) ?_)
 try dsimp only
 refine cW (Nt (hH _ _ _ _ hst₁ fun tk tk' htk=>?_))
 show wpAny _ _ (asInt? (OL (n:Int) tk')>>=_) _ _ _
 rw[show asInt? (OL (n:Int) tk')=pure (some (n:Int))from rfl]
 rw[RV]
 try dsimp only
 rw[if_neg (by unfold Builtin.List.listFitsIndex;rw[Mt]at hn;simp;omega)]
 try dsimp only
 rw[if_neg (by omega)]
 try dsimp only
 rw[if_neg (by unfold Builtin.List.listTooLong;simp;omega)]
 refine If ?_
 have hS₁:(s.heap.push {cls:=.type "list",data:=.seq ([]:List Gt).toArray}).get? s.heap.objs.size=some {cls:=.type "list",data:=.seq ([]:List Gt).toArray}:=KG _ rfl
 have key:∀(h:Heap)(c₁:Nat),(∀b o,b≠s.heap.objs.size→(s.heap.push {cls:=.type "list",data:=.seq ([]:List Gt).toArray}).get? b=some o→h.get? b=some o)→h.get? s.heap.objs.size=some {cls:=.type "list",data:=.seq #[] c₁}→
   codeAny (model prog w) A (.builtin "list.extend.loop" ⟨[.ref s.heap.objs.size,.ref I,.ref s.heap.objs.size],[]⟩) (fun r s'=>r=.ok (.ret (.ref s.heap.objs.size))∧∃acc' c',Moved wr G s s'∧s'.heap.get? s.heap.objs.size=some {cls:=.type "list",dict:=none,data:=.seq acc' c',slots:=#[]}∧ItemsOf P acc' n) {s with heap:=h,toks:=tk}:=by
  intro h c₁ hk hS
  refine codeAny_extend_loopS W hn _ hSf _ n 0 _ _ _ rfl (Ly _) (W.frame 0 ({s with heap:=s.heap.push {cls:=.type "list",data:=.seq ([]:List Gt).toArray}}:Ky) h tk hst₁ htk fun b hb o e=>hk b o (fun z=>hSf (z▸hb)) e) hS (ItemsOf.nil P) fun s' acc' c' hm hS' hacc=>?_
  refine⟨rfl,acc',c',Moved.drop_new (o:={cls:=.type "list",data:=.seq ([]:List Gt).toArray}) (tk:=s.toks) (Moved.trans W.gtrans ((Moved.refl W.grefl).then_heap htk fun b o hb e=>?_) hm) (KA _),hS',hacc⟩
  exact hk b o (fun z=>hb (by rw[z];exact Lv)) e
 refine wpAny_ite_split (fun _=>?_) (fun _=>If ⟨Ob Mn _,MG (key _ _ (fun b o _ e=>e) hS₁) fun r s' hr=>?_⟩)
 ·refine cW (OF ?_)
  refine cW ?_
  show wpAny _ A.in1 (updateSeq s.heap.objs.size (·.push .none)>>=fun _=>updateSeq s.heap.objs.size (·.pop)) _ _ _
  refine cW (Oa hS₁ rfl ?_)
  have hS₂:=Ls (MA (·.push Ml)) hS₁ rfl
  refine Oa hS₂ rfl ?_
  have hS₃:=Ls (MA (·.pop)) hS₂ rfl
  refine If ⟨Ob Mn _,MG (key _ _ (fun b o hb e=>(LG _ _ (Lg hb)).trans ((LG _ _ (Lg hb)).trans e)) hS₃) fun r s' hr=>?_⟩
  obtain⟨rfl,acc',c',hm,hS',hacc⟩:=hr
  show wpAny _ A (load s.heap.objs.size>>=_) _ _ s'
  exact cW (UD hS' (If (hQ s' acc' hm hacc)))
 ·obtain⟨rfl,acc',c',hm,hS',hacc⟩:=hr
  show wpAny _ A (load s.heap.objs.size>>=_) _ _ s'
  exact cW (UD hS' (If (hQ s' acc' hm hacc)))
theorem nj {Q:Gt→Ky→Prop}(hH:∀(A':Lj)(s:Ky)(Q:Gt→Ky→Prop)(E:Gt→Ky→Prop),St 0 s→(∀tk tk',s.toks≤tk→Q (.int n tk') {s with toks:=tk})→wpAny (model prog w) A' (call (.builtin "reversed.__length_hint__") [.ref I]) Q E s)(W:WalksS prog w A.in1.in1.in1 I fp wr G n P St)(hT:∀i s,St i s→s.TypeIs (.ref I) "reversed")(hst:St 0 s)(hfp:∀b∈fp,b<s.heap.objs.size)(hI:I∈fp)
  (hQ:∀s' acc,Moved wr G s s'→ItemsOf P acc n→Q (.ref s'.heap.objs.size) {s' with heap:=s'.heap.push {cls:=.type "tuple",data:=.seq acc}})(hsz:n≤sizeLine):
  wpAny (model prog w) A (call (.type "tuple") [.ref I]) Q E s:=by
 refine callType_codes (Q₁:=fun obj s₁=>s₁.TypeIs obj "tuple"∧Q obj s₁) RP (F.typeCall_tuple_1 _) F.entry_object_init ?_ fun obj s₁ h₁=>?_
 ·refine codeAny_of_tree ?_
  show wpAny _ A.in1.in1 (do checkBuiltinCall "tuple.__new__" ⟨[.type "tuple",.ref I],[]⟩;again (.builtin "tuple.__new__" ⟨[.type "tuple",.ref I],[]⟩)) _ _ s
  refine cW (MR (F.newCall_tuple_1 _) (If ⟨Ob Ug _,OK F.entry_tuple_new ?_⟩))
  rw[NF Ug _]
  have hsub:=sub_tuple_self
  have hinit:=init_tuple_lookup
  have hmh:=madeHere_tuple
  have hTI:=hT 0 s hst
  wp_walk using OT hTI,rq (hn:=hsz) hH W hT hst hfp hI
  intro s' acc hm hacc
  show wpAny _ _ (Mv acc.toList.toArray>>=fun v=>ret v) _ _ _
  unfold Mv
  refine cW (LJ ?_ (by show acc.toList.toArray.size≤sizeLine;simp only[Array.toArray_toList];rw[hacc.1];exact hsz))
  refine If ?_
  have e:acc.toList.toArray=acc:=by simp
  rw[e]
  exact⟨⟨_,KG _ rfl,rfl⟩,hQ s' acc hm hacc⟩
 ·exact⟨h₁.1,RE obj _,object_init_meets RP.init.lookup RP.made (by decide) prog w A.in1 _ s₁ ⟨h₁.1,rfl,h₁.2⟩⟩
end
end HT
namespace L2
open PySem PySem.Spec PyProof.Rows
def sr (K:tx):List V→Hp→VK→Prop:=fun xs H Q=>∃c ys,xs=[.ref c]∧SqT K H c ys∧∀l,H l=none→Q (.ref l) (upd H l (.tup ys.reverse))
section
variable {X:Cx}{pins:List (Addr×Obj)}{σ:St}{H:Hp}{s:Ky}
theorem Ax {Q:VK}{c:Addr}{ys:List V}(hc:X.calm=true)(I:Inv X pins σ H s)(hq:SqT X.K H c ys)(q:∀l,H l=none→Q (.ref l) (upd H l (.tup ys.reverse))):
  wpAny (model X.prog X.w) X.A (call (.type "reversed") [.ref c]) (fun u s2=>wpAny (model X.prog X.w) X.A (call (.type "tuple") [u]) (EP X pins σ Q) X.xe s2) X.xe s:=by
 obtain⟨its,r',pl,hz⟩:=I.tuple hq
 have hlen:=r'.length
 have hz63:(its.toArray.size:Int)<2^63:=by rw[KH];rw[Mt]at hz;omega
 refine HT.fD (show QK s.heap c its.toArray from pl) hz63 ?_
 have hcs:c<s.heap.objs.size:=pl.lt
 have hne:c≠s.heap.objs.size:=KZ hcs
 have W:=(HT.qj (prog:=X.prog) (w:=X.w) (A:=X.A.in1.in1.in1) (I.ok.hd hc) s.heap.objs.size c hne its.toArray hz63).toS
 have hz':its.toArray.size≤sizeLine:=by rw[KH];omega
 have hsz:(s.heap.push (HT.lA c ((its.toArray.size:Int)- 1))).objs.size=s.heap.objs.size+1:=MY _ _
 refine HT.nj (s:={s with heap:=s.heap.push (HT.lA c ((its.toArray.size:Int)- 1)),toks:=s.toks+1+1}) (fun A' s3 Q' E' st h=>HT.oY (by have:=st.2.1;rwa [show(its.toArray.size:Int)- 1- ((0:Nat):Int)=(its.toArray.size:Int)- 1 from by omega]at this) st.2.2 hz63 h) W (fun i s3 st=>HT.fu.typeIs st.2.1) ⟨Ly _,?_,pl.push _⟩ (fun b hb=>?_) (by simp) (fun s' acc' hm hacc=>?_) hz'
 ·show(s.heap.push _).get? _=_
  have e:(its.toArray.size:Int)- 1- ((0:Nat):Int)=(its.toArray.size:Int)- 1:=by omega
  rw[e]
  exact KG _ rfl
 ·show b<(s.heap.push _).objs.size
  rw[hsz]
  rcases KY.mp hb with z|z
  ·rw[z];exact Ol _
  ·rw[KW.mp z];exact Nat.lt_succ_of_lt hcs
 ·have e1:acc'.toList=its.reverse:=by
   refine OQ fun j=>?_
   by_cases hj:j<its.length
   ·have hj2:j<acc'.size:=by rw[hacc.1,KH];exact hj
    have ea:acc'[j]?=some acc'[j]:=Lz hj2
    have hp:its.toArray[its.toArray.size- 1- j]?=some acc'[j]:=hacc.2 j _ ea
    rw[Pl,ea,Nz hj,←hp]
    simp
   ·rw[Lh (by rw[Mx,hacc.1,KH];omega),Lh (by simp;omega)]
  have e2:acc'=its.reverse.toArray:=by rw[←e1]
  have hw:∀b o,s.heap.get? b=some o→s'.heap.get? b=some o:=fun b o e=>by
   have hb:=KF e
   refine hm.heap b o (fun z=>?_) (gV _ e)
   rw[KW.mp z]at hb
   exact ML _ hb
  have es:s'={s with heap:=s'.heap,toks:=s'.toks}:=by
   have h1:=hm.gens
   have h2:=hm.drawn
   have h3:=hm.os
   cases s'
   cases h1;cases h2;cases h3
   rfl
  have I1:Inv X pins σ H s':=by rw[es];exact I.kept hw
  have new:aT X.prog X.w (upd H s'.heap.objs.size (.tup ys.reverse)) (s'.heap.push {cls:=.type "tuple",data:=.seq acc'}) s'.heap.objs.size (.tup ys.reverse):=⟨by rw[Ox];exact hz,its.reverse,r'.reverse,by rw[e2];exact RS _ _⟩
  exact⟨.ref s'.heap.objs.size,upd H s'.heap.objs.size (.tup ys.reverse),I1.laid (t':=s'.toks) (fun b o e=>gV _ e) (KA _) new,rfl,q _ (I1.hok.fresh (KA _))⟩
end
section
variable {X:Cx}{a:Expr}{t:TA}{p1 p2 pos1 pos2:Pos}
theorem vq:bootBuiltins "tuple"=some (.type "tuple"):=by decide+kernel
theorem ye (hm1:X.mg "tuple"=none)(hm2:X.mg "reversed"=none)(hc:X.calm=true)(ha:QA X [a] t)(hg1:Gl X "tuple":=by rfl)(hg2:Gl X "reversed":=by rfl)(hs:aU [a]=true:=by rfl):
  QE X (.Call (.Name "tuple" p1) [.Call (.Name "reversed" p2) [a] [] pos2] [] pos1) (tCB (sr X.K) t):=⟨fun pins s σ H Q I h=>by
 have h':(bA a&&aU [])=true:=hs
 refine LF (eJ I hg1 hm1 vq ?_ (by decide) (by decide))
 refine LK ?_ rfl rfl
 show wpAny _ _ (spliced ((false,eval (.Call (.Name "reversed" p2) [a] [] pos2) X.env)::backTo pos1 (starEach [] X.env))) _ _ s
 refine Qb ?_
 refine LF (eJ I hg2 hm2 lw ?_ (by decide) (by decide))
 refine LK (thn (ha.out pos2 pins s σ H _ I h) fun us s1 ⟨vs,H1,I1,r1,q1⟩=>?_)
  (aP (KD.mp h').1 [] X.env) (bv (KD.mp h').2)
 obtain⟨c,ys,rfl,hq,q⟩:=q1
 obtain⟨u,rfl,ru⟩:=eN r1
 cases ru
 refine Le (Ax hc I1 hq q) (fun u s2 z=>?_) fun _ _ z=>z
 exact Ql z⟩
end
end L2
namespace L2
open PySem PySem.Spec PyProof.Rows PySem.W
section
variable {key:Nat→Int}{n:Nat}
variable (inj:∀i j,i<n→j<n→key i=key j→i=j)
include inj
omit inj in
omit inj in
omit inj in
end
end L2
namespace Rs
abbrev st (B k d:Nat):Nat:=k/2^(B- d)
abbrev sd (B k d:Nat):Nat:=k/2^(B- 1- d)%2
section
variable {α:Type}
def alN (B x y:Nat):Nat→Nat
 |0=>0
 |c+1=>if x/2^(B- (c+1))=y/2^(B- (c+1))then c+1 else alN B x y c
def al (B x y:Nat):Nat:=alN B x y B
end
end Rs
namespace HT
open PySem PySem.W PyProof.Rows
def gu (h:Heap)(d:Addr)(es:Array Ph)(ep:Nat):Prop:=∃o,h.get? d=some o∧o.ExactDict∧o.data=.dict es ep
theorem gu.at {h h':Heap}{d:Addr}{es:Array Ph}{ep:Nat}(x:gu h d es ep)(e:∀o,h.get? d=some o→h'.get? d=some o):gu h' d es ep:=let ⟨o,ho,r⟩:=x;⟨o,e _ ho,r⟩
theorem gu.lt {h:Heap}{d:Addr}{es:Array Ph}{ep:Nat}(x:gu h d es ep):d<h.objs.size:=let ⟨_,ho,_⟩:=x;KF ho
section
variable {prog:KS}{w:LI}{A:Lj}{E:Gt→Ky→Prop}{s:Ky}{d:Addr}{es:Array Ph}{ep:Nat}
theorem gu.typeIs (x:gu s.heap d es ep):s.TypeIs (.ref d) "dict":=let ⟨o,ho,hc,_⟩:=x;⟨o,ho,hc.1⟩
theorem vf {Q:Gt→Ky→Prop}(hd:(d==sysModules)=false)(hm:gu s.heap d es ep)
  (hQ:Q (.ref s.heap.objs.size) {s with heap:=s.heap.push {cls:=.type "dict_keyiterator",data:=.fields #[.ref d,.int 0 0,.int es.size 0,.int ep 0]}}):
  wpAny (model prog w) A (pyIter (.ref d)) Q E s:=by
 obtain⟨o,ho,hc,hdat⟩:=id hm
 have hT:s.TypeIs (.ref d) "dict":=hm.typeIs
 refine QV hT Rm (LB Rm hT PySem.F.entry_dict_iter ?_ (PySem.F.args_dict_iter_1 _))
 unfold NS.«dict.__iter__»
 refine cW ?_
 unfold Builtin.Dict.dictSlotNone
 refine cW (PY hT ?_)
 show wpAny _ _ (pure (KJ d)) _ _ s
 refine If ?_
 show wpAny _ _ (Qz d>>=_) _ _ s
 unfold Qz
 rw[if_neg (by rw[hd];exact KN)]
 refine cW (If ?_)
 refine cW (Oj ho hdat ?_)
 refine cW (RN ho hdat ?_)
 refine cW (LJ (If ⟨_,rfl,"dict_keyiterator",_,⟨_,KG _ rfl,rfl⟩,Mm.lookup,?_⟩))
 simpa[rawInt]using hQ
theorem nk {it:Addr}{i:Nat}{e:Ph}{Q:Option Gt→Ky→Prop}(hit:s.heap.IsKeyIter it d i es.size ep)(hm:gu s.heap d es ep)(hx:es[i]?=some e)
  (hQ:∀h',h'.IsKeyIter it d (i+1) es.size ep→MK it s.heap h'→Q (some e.key) {s with heap:=h'}):wpAny (model prog w) A (pyNext (.ref it)) Q E s:=by
 obtain⟨o,ho,hc,hd⟩:=id hit
 obtain⟨od,hod,hcd,hdd⟩:=id hm
 unfold pyNext
 refine cW (Nt (LA (name:=Mf "__next__") hit.typeIs Mm
  (LB Mm hit.typeIs Pw ?_ (Pq _))))
 refine cW (If ?_)
 refine cW ?_
 refine cW ?_
 first|refine cW (Nw hit.typeIs (If ?_))|refine cW (NT hit.typeIs (If ?_))
 refine cW (wpAny_fieldsOf ho hd ?_)
 have hown:OX "dict_keyiterator"=false:=by decide
 simp only[hown,Mo,if_false]
 show wpAny _ _ (if (KJ d==Ml)=true then _ else _) _ _ s
 rw[if_neg (show ¬((KJ d==Ml)=true)from KN)]
 refine cW (If ?_)
 refine cW (Oj hod hdd ?_)
 rw[if_neg (by simp)]
 refine cW (If ?_)
 refine cW (RN hod hdd ?_)
 rw[if_neg (by simp)]
 refine If ?_
 have hlt':i<es.size:=by
  rcases MV i es.size with h|h
  ·exact h
  ·rw[NU h]at hx;cases hx
 have hei:es[i]=e:=by rw[Lz hlt']at hx;exact KL hx
 simp only[show ¬((i:Int)<0)from by omega,if_false,MB,Lz hlt']
 refine cW ?_
 first|refine cW (Nw hit.typeIs (If ?_))|refine cW (NT hit.typeIs (If ?_))
 refine cW (To hit.typeIs ?_)
 show wpAny _ _ (setField (.ref it) 1 (rawInt ((i:Int)+1))>>=_) _ _ s
 refine cW (OU ho hd (by simp) ?_)
 have hit':(s.heap.update it (NR (·.setIfInBounds 1 (rawInt ((i:Int)+1))))).IsKeyIter it d (i+1) es.size ep:=
  ⟨_,Ls _ ho (Of (MU hd _)),(Qt ..).trans hc,by rw[MU hd];simp[rawInt]⟩
 refine cW (Ms ?_)
 refine cW (To (s:={s with heap:=s.heap.update it (NR (·.setIfInBounds 1 (rawInt ((i:Int)+1))))}) hit'.typeIs ?_)
 show wpAny _ _ (pure es[i].key) _ _ _
 rw[hei]
 exact If (If ⟨_,rfl,If (hQ _ hit' (MZ ..))⟩)
theorem oQ {it:Addr}{i:Nat}{Q:Option Gt→Ky→Prop}(hh:A.handled=none)(hit:s.heap.IsKeyIter it d i es.size ep)(hm:gu s.heap d es ep)(hx:es[i]?=none)
  (hQ:∀h',QP it s.heap h'→Q none {s with heap:=h'}):wpAny (model prog w) A (pyNext (.ref it)) Q E s:=by
 obtain⟨o,ho,hc,hd⟩:=id hit
 obtain⟨od,hod,hcd,hdd⟩:=id hm
 unfold pyNext
 refine cW (Nt (LA (name:=Mf "__next__") hit.typeIs Mm
  (LB Mm hit.typeIs Pw ?_ (Pq _))))
 refine cW (If ?_)
 refine cW ?_
 refine cW ?_
 first|refine cW (Nw hit.typeIs (If ?_))|refine cW (NT hit.typeIs (If ?_))
 refine cW (wpAny_fieldsOf ho hd ?_)
 have hown:OX "dict_keyiterator"=false:=by decide
 simp only[hown,Mo,if_false]
 show wpAny _ _ (if (KJ d==Ml)=true then _ else _) _ _ s
 rw[if_neg (show ¬((KJ d==Ml)=true)from KN)]
 refine cW (If ?_)
 refine cW (Oj hod hdd ?_)
 rw[if_neg (by simp)]
 refine cW (If ?_)
 refine cW (RN hod hdd ?_)
 rw[if_neg (by simp)]
 refine If ?_
 simp only[show ¬((i:Int)<0)from by omega,if_false,MB,hx]
 refine cW ?_
 first|refine cW (Nw hit.typeIs (If ?_))|refine cW (NT hit.typeIs (If ?_))
 show wpAny _ _ (setField (.ref it) 0 .none>>=_) _ _ s
 refine cW (OU ho hd (by simp) ?_)
 show wpAny _ _ (newExc (.type "StopIteration") []>>=_) _ _ _
 refine cW ?_
 simp only[newExc,newTuple]
 refine cW (LJ ?_ (by size_fits))
 refine cW (m:=firstArgMember _ _) (MR (a:=Ml) (by first|rfl|(simp only[firstArgMember];rfl)) ?_)
 refine LJ ?_ (by size_fits)
 simp only[raiseNew]
 refine cW (wpAny_handled ?_)
 rw[show A.in1.handled=none from hh]
 refine cW (If (wpAny_throw ?_))
 refine cW (Oz (T:="StopIteration") (b:=true) ⟨_,KG _ rfl,rfl⟩ Sh ?_)
 exact If (hQ _ (((MZ ..).extBut.push _).push _))
end
section
variable {prog:KS}{w:LI}{A:Lj}{d:Addr}{es:Array Ph}{ep:Nat}
theorem uN (hh:A.handled=none)(I d:Addr)(hne:d≠I)(es:Array Ph)(ep:Nat):
  Walks prog w A I [I,d] [I] es.size (fun i v=>∃e,es[i]?=some e∧v=e.key) (fun i h=>h.IsKeyIter I d i es.size ep∧gu h d es ep)where
 sub:=fun b hb=>by simp at hb;simp[hb]
 frame:=fun _ _ _ st hk=>⟨st.1.at fun o e=>hk I (by simp) o e,st.2.at fun o e=>hk d (by simp) o e⟩
 item:=fun i s Q E hi st hQ=>by
  have hx:es[i]?=some es[i]:=Lz hi
  refine nk st.1 st.2 hx fun h' hit' hs'=>?_
  exact hQ _ h' s.toks ⟨_,hx,rfl⟩ ⟨hit',st.2.at fun o e=>hs'.extBut _ _ hne e⟩ fun b o hb e=>hs'.extBut b o (fun h=>hb (by simp[h])) e
 done:=fun s Q E st hQ=>oQ hh st.1 st.2 (by simp) fun h' he'=>hQ h' s.toks fun b o hb e=>he' b o (fun h=>hb (by simp[h])) e
 self:=fun _ _ _ _ st hQ=>wpAny_pyIter_keyiter st.1 hQ
theorem xE (lo:(d==sysModules)=false):KdlSrc prog w "dict" d d es.size (fun i v=>∃e,es[i]?=some e∧v=e.key) (fun h=>gu h d es ep)where
 type:=fun _ hm=>hm.typeIs
 there:=fun _ hm=>⟨hm.lt,hm.lt⟩
 keep:=fun _ _ hm hk=>hm.at fun o e=>hk d (.inl rfl) o e
 notList:=by decide
 notTuple:=by decide
 hint:=fun _ _ _ _ hm hq=>kdl_hint_dict hm.typeIs hq
 iter:=fun _ _ hh hm=>⟨_,_,(fun _ _ hq=>vf lo hm hq),uN hh _ d (KZ hm.lt) es ep,⟨⟨_,KG _ rfl,rfl,rfl⟩,hm.at fun o e=>gV _ e⟩⟩
end
end HT
namespace L2
open PySem PySem.Spec PyProof.Rows
theorem qV:∀l:List Addr,aO (l.map V.ref) (l.map KJ)
 |[]=>.nil
 |a::r=>.cons rfl (qV r)
def vH (K:tx):List V→Hp→VK→Prop:=fun xs H Q=>pU K xs H Q∨∃p kvs,xs=[.ref p]∧H p=some (.dT kvs)∧∀(l:Addr)(ps:List Addr),H l=none→ps.length=kvs.length→(∀(i:Nat) q kv,ps[i]?=some q→kvs[i]?=some kv→H q=some (.tup (kv.1.map kV)))→Q (.ref l) (upd H l (.lst (ps.map V.ref)))
theorem mt {α β:Type}{F:α→β→Prop}:∀{l₁:List α}{l₂:List β},Paired F l₁ l₂→∀{i:Nat}{a:α}{b:β},l₁[i]?=some a→l₂[i]?=some b→F a b
 |_,_,.nil,i,_,_,h,_=>by simp at h
 |_,_,.cons h r,0,_,_,h1,h2=>by simp at h1 h2;subst h1 h2;exact h
 |_,_,.cons h r,i+1,_,_,h1,h2=>mt r (i:=i) (by simpa using h1) (by simpa using h2)
section
variable {X:Cx}
theorem Ds (hc:X.calm=true):bC X (.type "list") (vH X.K):=fun pins s σ H xs us Q I r h=>by
 rcases h with h|⟨p,kvs,rfl,e,q⟩
 ·exact tO pins s σ H xs us Q I r h
 obtain⟨u,rfl,ru⟩:=eN r
 cases ru
 obtain⟨z,y,xs,pr,o,es,ep,h1,h2,h3,h4,h5⟩:=(show aT X.prog X.w H s.heap p (.dT kvs)from I.hok p _ e)
 have hl:xs.length=kvs.length:=(Paired.length pr).symm
 have hsz:es.size=xs.length:=by rw[←Mx,h4,Kz]
 refine W.kdl_call (HT.xE (es:=es) (ep:=ep) y) (I.ok.hd hc) ⟨o,h1,h2,h3⟩ (by rw[hsz,hl];exact z) fun h' tk acc' c' hk hD hacc=>?_
 have ea:acc'.toList=(xs.map (·.2.1)).map KJ:=by
  refine OQ fun j=>?_
  by_cases hj:j<xs.length
  ·have hj2:j<acc'.size:=by rw[hacc.1,hsz];exact hj
   have ea:acc'[j]? =some acc'[j]:=Lz hj2
   obtain⟨en,e1,e2⟩:=hacc.2 j _ ea
   have e3:es.toList[j]? =some en:=by rw[Pl];exact e1
   rw[h4,La,KB hj]at e3
   have e4:PySem.entryOfKey _ xs[j]=en:=KL e3
   rw[Pl,ea,e2,←e4,La,La,KB hj];rfl
  ·rw[Lh (by rw[Mx,hacc.1,hsz];omega),Lh (by simp;omega)]
 have hf:H s.heap.objs.size=none:=I.hok.fresh (KA _)
 have hD2:h'.get? s.heap.objs.size=some {cls:=.type "list",dict:=none,data:=.seq ((xs.map (·.2.1)).map KJ).toArray c',slots:=#[]}:=by rw[hD,←ea]
 have new:aT X.prog X.w (upd H s.heap.objs.size (.lst ((xs.map (·.2.1)).map V.ref))) h' s.heap.objs.size (.lst ((xs.map (·.2.1)).map V.ref)):=⟨by rw[Kz,Kz,hl];exact z,_,c',qV _,hD2⟩
 refine⟨.ref s.heap.objs.size,_,I.laid (t':=tk) (fun b o e=>hk b o e) (KA _) new,rfl,q _ _ hf (by rw[Kz,hl]) fun i q' kv hq hkv=>?_⟩
 rw[La]at hq
 cases hx:xs[i]? with
 |none=>rw[hx]at hq;cases hq
 |some x=>
  rw[hx]at hq
  cases hq
  exact(mt pr hkv hx).2.1
end
section
variable {X:Cx}{e:Expr}{te:TE}{pos ep px py pz pu pv:Pos}{ek:Nat}{x y z u v:Str}
theorem EN (i j k l m:Nat)(hN:X.N.Nodup)(hc:X.calm=true)(he:QE X e te)
  (h1:X.N[i]?=some x:=by rfl)(hx:Loc X.env.scope x:=by first|exact .inl rfl|exact .inr rfl)(f1:X.fn x=true∨X.env.scope.names.lookup x=some .local:=by first|exact .inl rfl|exact .inr rfl)
  (h2:X.N[j]?=some y:=by rfl)(hy:Loc X.env.scope y:=by first|exact .inl rfl|exact .inr rfl)(f2:X.fn y=true∨X.env.scope.names.lookup y=some .local:=by first|exact .inl rfl|exact .inr rfl)
  (h3:X.N[k]?=some z:=by rfl)(hz:Loc X.env.scope z:=by first|exact .inl rfl|exact .inr rfl)(f3:X.fn z=true∨X.env.scope.names.lookup z=some .local:=by first|exact .inl rfl|exact .inr rfl)
  (h4:X.N[l]?=some u:=by rfl)(hu:Loc X.env.scope u:=by first|exact .inl rfl|exact .inr rfl)(f4:X.fn u=true∨X.env.scope.names.lookup u=some .local:=by first|exact .inl rfl|exact .inr rfl)
  (h5:X.N[m]?=some v:=by rfl)(hv:Loc X.env.scope v:=by first|exact .inl rfl|exact .inr rfl)(f5:X.fn v=true∨X.env.scope.names.lookup v=some .local:=by first|exact .inl rfl|exact .inr rfl)
  (hs:swapsWithSole [.Tuple [.Name x px,.Name y py,.Name z pz,.Name u pu,.Name v pv] ek ep] e pos.line X.env=pure false:=by rfl)(hw:swappedStores [.Tuple [.Name x px,.Name y py,.Name z pz,.Name u pu,.Name v pv] ek ep] e X.env=pure none:=by rfl):
  QS X (.Assign [.Tuple [.Name x px,.Name y py,.Name z pz,.Name u pu,.Name v pv] ek ep] e pos) (aC te (kq X.K 5 (cg (aw i) (cg (aw j) (cg (aw k) (cg (aw l) (cg (aw m) ki))))))):=
 ⟨mn he.out (rl hc (dq (dv hN h1 hx f1) (dq (dv hN h2 hy f2) (dq (dv hN h3 hz f3) (dq (dv hN h4 hu f4) (dq (dv hN h5 hv f5) nC)))))) hs hw⟩
end
theorem fc {σ:St}{b:Addr}:∀(cs:List (Nat×Addr))(H:Hp),(∀p∈cs,p.2≠b)→bN cs σ H b=H b
 |[],H,_=>rfl
 |(i,c)::r,H,h=>by
  have hr:∀p∈r,p.2≠b:=fun p hp=>h p (KQ _ hp)
  have hc:c≠b:=h (i,c) Lv
  unfold bN
  rcases hσ:σ[i]? with _|_|v
  ·exact fc r _ hr
  ·exact fc r _ hr
  ·show bN r σ (upd H c (bw c v)) b=H b
   rw[fc r _ hr,ao (Lg hc)]
theorem Un.comp {fs:List Addr}{l:Addr}{gs:List Addr}{H H1 H2:Hp}{h h1 h2:Heap}(a:Un fs [] H H1 h h1)(b:Un gs [] H1 H2 h1 h2)(hl:h.objs.size≤l)(hs:∀x∈gs,x=l∨x∈fs)(hf:∀x∈fs,x∈gs):Un fs [] H H2 h h2 where
 keep:=fun c ob q n hc hx=>b.keep c ob (a.keep c ob q n hc hx) (a.free c ob q n hx) (fun z=>(hs c z).elim (fun e=>by
  have:=KF q
  rw[e]at this;exact absurd (KU this hl) (ML _)) hc) hx
 slot:=fun c ob q n hc hx=>by
  obtain⟨sl,e1⟩:=a.slot c ob q n hc hx
  obtain⟨sl',e2⟩:=b.slot c _ e1 (a.free c ob q n hx) (hf c hc) hx
  exact⟨sl',e2⟩
 free:=fun c ob q n hx=>by
  obtain⟨o',e1⟩:=a.there c ob q hx
  exact b.free c o' e1 (a.free c ob q n hx) hx
 there:=fun c ob q hx=>by
  obtain⟨o',e1⟩:=a.there c ob q hx
  exact b.there c o' e1 hx
 tups:=fun c xs q=>b.tups c xs (a.tups c xs q)
 frzs:=fun c ob xs q=>b.frzs c ob xs (a.frzs c ob xs q)
 tbls:=fun c ps q=>by
  obtain⟨m1,e1⟩:=a.tbls c ps q
  obtain⟨m2,e2⟩:=b.tbls c _ e1
  exact⟨m1++m2,by rw[e2,Qe]⟩
theorem Fun.okC {P:KS}{w:LI}{K:tx}{mg:Str→Option Gt}{base:Heap}{x qual:Str}{st:Stmt}{f c0:Addr}{fd:KP}{N ps:List Str}{k j:Nat}{sp:Sp}{caps:Nat→List (Nat×Addr)}(F:Fun K x qual st f fd)(hcd:fd.code=.ref c0)(S:aA N ps (ak st))(len:∀vs H Q E,sp vs H Q E→vs.length=ps.length)
  (hcaps:∀(L:Nat)(p:Nat×Addr),p∈caps L→∃y,N[p.1]? =some y∧(ak st).names.lookup y=some .cell∧(cellsFrom (L+1) (ak st).names []).lookup y=some p.2)(hnd:∀L,((caps L).map (·.2)).Nodup)
  {gx:Str}{gf:Addr}{gfd:KP}{gps:List Str}{gsp:Sp}{e:Expr}{es:List Expr}{p pos rpos:Pos}(hbd:aM st=[.Return (some (.Call (.Name gx p) (e::es) [] pos)) rpos])
  (G:aL P w K mg base (CX1 P w) j gf gfd gps gsp)(hj:j≤k)(hm:mg gx=some (.ref gf))(hk:Oh K (.ref gf)=true)(hbG:br K gfd gps [])(hdb:(gx==("__debug__":Str))=false)(hs:aU (e::es)=true)
  (hbody:∀(A:Lj)(outer:List Env)(s:Ky)(H:Hp)(vs:List V)(Q:VK)(E:XK),bc k (A.deeper (envOfC qual (ak st) s.heap.objs.size f (.ref c0)))→sp vs H Q E→
   ∃t,Gl (cw (CX1 P w) P w K mg base N qual (ak st) f (.ref c0) A outer s H E) gx∧QA (cw (CX1 P w) P w K mg base N qual (ak st) f (.ref c0) A outer s H E) (e::es) t∧t (start N vs) H fun ws H1=>(∀p∈caps s.heap.objs.size,H1 p.2=none)→gsp ws (bN (caps s.heap.objs.size) (start N vs) H1) Q E0):aL P w K mg base (CX1 P w) (k+1) f fd ps sp:=by
 obtain⟨oc,od,kV,doc,pm,an,cdv,ct,osl,rfl,lk,hcd'⟩:=F.ex
 obtain rfl:cdv=.ref c0:=hcd
 refine⟨len,fun A outer s H args us vs Q E hr e0 hb r hsp=>?_⟩
 have hl:=len _ _ _ _ hsp
 have KX:K.In s.heap:=e0.mod.kin.keeps fun b o e=>(e0.bs b o e).1
 have lim:s.heap.NoLimit:=e0.mod.nolimit.keeps fun b o e=>(e0.bs b o e).1
 have hkind:∀y∈ps.zip us,(ak st).names.lookup y.1=some .local∨((ak st).names.lookup y.1=some .cell∧((cellsFrom (s.heap.objs.size+1) (ak st).names []).lookup y.1).isSome=true):=fun⟨n,v⟩ hy=>by
  rcases S.par n (MC hy).1 with q|q
  ·exact .inl q
  ·exact .inr ⟨q,Pn _ _ _ (.inl q)⟩
 refine Oo hr.depth (KX _ _ lk) rfl S.co S.gen rfl (SO KX hcd') (hb _ _ _ _ ?_)
 refine OR S.kind hkind fun env he s1 x=>?_
 subst he
 refine⟨lim.keeps x.toInCall.keep,Ri ?_⟩
 have hr':=hr.deeper (envOfC qual (ak st) s.heap.objs.size f (.ref c0))
 obtain⟨t,hg,ht,hq⟩:=hbody A outer s H vs Q E hr' hsp
 have I:Inv (cw (CX1 P w) P w K mg base N qual (ak st) f (.ref c0) A outer s H E) [] (start N vs) H s1:=kj S hr.hd e0 hl r x
 have h':(bA e&&aU es)=true:=hs
 have main:wpAny (model P w) (cw (CX1 P w) P w K mg base N qual (ak st) f (.ref c0) A outer s H E).A (eval (.Call (.Name gx p) (e::es) [] pos) (cw (CX1 P w) P w K mg base N qual (ak st) f (.ref c0) A outer s H E).env) (fun u s'=>CE outer P w H s Q u s') (cw (CX1 P w) P w K mg base N qual (ak st) f (.ref c0) A outer s H E).xe s1:=by
  refine LF (eY I hg hm ?_ hdb)
  refine PD (h₀:=base) I.ok.mod.kin hk (thn (ht.out pos [] s1 (start N vs) H _ I hq) fun us2 s2 ⟨ws,H1,I1,r2,q2⟩=>⟨I1.kIn,?_⟩) (aP (KD.mp h').1 es _) (bv (KD.mp h').2)
  have free:∀p∈caps s.heap.objs.size,H1 p.2=none:=fun p hp=>by
   obtain⟨y,_,_,hc⟩:=hcaps _ p hp
   exact I1.freeC y p.2 hc
  have hcond:∀p∈caps s.heap.objs.size,H1 p.2=none∧s.heap.objs.size≤p.2∧∀v,(start N vs)[p.1]? =some (some v)→∃u o,aK v u∧s2.heap.get? p.2=some o∧o.data=.cell (some u):=fun p hp=>by
   obtain⟨y,hy,hk,hc⟩:=hcaps _ p hp
   refine⟨free p hp,I1.ok.cab y p.2 rfl hc,fun v hv=>?_⟩
   obtain⟨m,_,hloc⟩:=I1.loc
   obtain⟨u',r',lk'⟩:=hloc p.1 y v hy hv (.inr (.inl hk))
   rcases lk' with⟨z,_⟩|⟨_,c,ec,o,eo,hd⟩
   ·have z:(ak st).names.lookup y=some .local:=z
    rw[hk]at z;cases z
   ·have ec:(cellsFrom (s.heap.objs.size+1) (ak st).names []).lookup y=some c:=ec
    rw[hc]at ec;cases ec
    exact⟨u',o,r',eo,hd⟩
  obtain⟨un,ok⟩:=jz (P:=P) (w:=w) (σ:=start N vs) (caps s.heap.objs.size) H1 (hnd _) hcond I1.base I1.hok
  have q3:=q2 free
  have ne:∀p∈caps s.heap.objs.size,p.2≠s.heap.objs.size:=fun p hp z=>by
   obtain⟨y,_,_,hc⟩:=hcaps _ p hp
   obtain⟨v,o,e1,e2⟩:=I1.cell y p.2 hc
   obtain⟨m,⟨o',es',ep',e3,e4,_⟩,_⟩:=I1.loc
   have e3:s2.heap.get? s.heap.objs.size=some o':=e3
   rw[z,e3]at e1;cases e1
   rw[e4]at e2;cases e2
  have sub:∀b∈frs (envOfC qual (ak st) s.heap.objs.size f (.ref c0)::outer),b=s.heap.objs.size∨b∈frs outer:=fun b hb=>KY.mp (I1.stkSub b hb)
  have ev:=I1.env0
  have E1:iI P w K mg base (A.deeper (envOfC qual (ak st) s.heap.objs.size f (.ref c0))) (envOfC qual (ak st) s.heap.objs.size f (.ref c0)::outer) s2 (bN (caps s.heap.objs.size) (start N vs) H1):=
   ⟨ev.frames,ev.mod,fun b o eb=>⟨(ev.bs b o eb).1,un.free b o (e0.bs b o eb).1 (e0.bs b o eb).2 (by simp)⟩,ev.bsz,ev.funs,fun b hb=>by
    rcases sub b hb with z|z
    ·rw[z,fc _ _ ne];exact I1.free
    ·obtain⟨_,o,ho,_⟩:=e0.funs.mem z
     exact un.free b o ho (e0.frf b z) (by simp),ok,ev.bare⟩
  have hlg:us2.length=gps.length:=by rw[←r2.length];exact G.len _ _ _ _ q3
  have hb2:=hbG s2 us2 I1.kIn (by rw[LW];exact hlg)
  rw[LW]at hb2
  refine Pc (MG (G.run _ _ s2 _ ⟨us2,[]⟩ us2 ws Q E0 (hr'.mono hj) E1 hb2 r2 q3) fun rr s' hres=>?_)
  cases rr with
  |error er=>obtain⟨_,_,_,_,_,_,z⟩:=hres;exact z.elim
  |ok fl=>
   cases fl with
   |ret u=>
    obtain⟨v,H',os,bare,un2,hok,rv,qv⟩:=hres
    refine⟨v,H',os.trans I1.os,bare,un.comp un2 (KA _) sub (fun b hb=>?_),hok,rv,qv⟩
    unfold frs at hb⊢
    rw[Ma]
    split
    ·exact hb
    ·exact KQ _ hb
   |next=>exact Ll hres
   |brk=>exact Ll hres
   |cont=>exact Ll hres
 rw[hbd]
 refine OA (QZ (Le main (fun u s' h=>?_) fun _ _ z=>z))
 exact h
section
variable {X:Cx}
def uC:R2:=fun x y H Q=>∃z n,x=.str z∧y=.int n∧(0≤n∧n≤100000∧z.length=1)∧Q (.str (Txt.mul z n)) H
theorem HM:OpR X (binaryOp .Mult) uC:=by
 intro pins s σ H x y v u Q I rx ry h
 obtain⟨z,n,rfl,rfl,⟨h1,h2,h3⟩,q⟩:=h
 obtain⟨t,rfl⟩:=rx
 obtain⟨t',rfl⟩:=ry
 refine SB.mul ⟨?_,fun hn _=>?_,fun hn _=>?_⟩ fun t' k=>⟨.str _,H,I.tok k,⟨_,rfl⟩,q⟩
 ·rw[decide_eq_false (by omega),decide_eq_false (by omega)];rfl
 ·intro hgt
  have h5:(1:Int)≤(2^63- 1)/n:=Sy (by omega) (by omega)
  omega
 ·have h6:z.length*n.toNat≤1*100000:=Uw (by omega) (by omega)
  unfold Builtin.Str.tooLong
  rw[Mt]
  simp only[gt_iff_lt,decide_eq_false_iff_not]
  omega
end
end L2
namespace Rs
open PySem PySem.Spec PyProof.Rows L2
abbrev gOp:=List Key→Option Key
def eM (s:Stmt)(j:Nat):Stmt:=match s with
 |.ClassDef _ _ _ b _ _ _ _ _ _ _=>b.getD j (.Pass ⟨0,0,0,0⟩)
 |_=>.Pass ⟨0,0,0,0⟩
def top (i:Nat):Stmt:=PySem.Challenge.pw_rootstamp_k66_whole_no_lie_of_one_row.main.body.getD i (.Pass ⟨0,0,0,0⟩)
abbrev xF:Stmt:=top 11
abbrev xh:Stmt:=top 12
abbrev zd:Stmt:=top 13
abbrev zb:Stmt:=top 15
abbrev ya:Stmt:=top 14
abbrev s_2:Stmt:=eM (top 38) 1
abbrev xM:Stmt:=top 43
abbrev lx:Stmt:=top 47
abbrev lI:Stmt:=top 39
abbrev s_1:Stmt:=eM (top 38) 0
abbrev lU:Stmt:=top 40
abbrev lJ:Stmt:=top 48
abbrev yQ:Stmt:=top 49
abbrev yV:Stmt:=top 45
abbrev yY:Stmt:=top 46
abbrev s_3:Stmt:=eM (top 26) 0
abbrev s_4:Stmt:=eM (top 26) 1
abbrev s_9:Stmt:=eM (top 26) 2
abbrev yI:Stmt:=top 19
abbrev yR:Stmt:=top 21
abbrev s_5:Stmt:=eM (top 26) 4
abbrev xu:Stmt:=top 17
abbrev yi:Stmt:=eM (top 26) 11
abbrev xv:Stmt:=eM (top 26) 10
abbrev s_7:Stmt:=eM (top 26) 6
abbrev yu:Stmt:=top 57
abbrev yl:Stmt:=top 20
abbrev s_6:Stmt:=eM (top 26) 3
abbrev xj:Stmt:=top 18
abbrev s_8:Stmt:=eM (top 26) 7
abbrev xo:Stmt:=top 24
abbrev xC:Stmt:=top 36
abbrev yr:Stmt:=top 25
abbrev xA:Stmt:=top 22
abbrev yE:Stmt:=top 29
abbrev xG:Stmt:=top 28
abbrev nJ:Stmt:=top 30
abbrev mU:Stmt:=top 31
abbrev s_0:Stmt:=eM (top 8) 0
abbrev nN:Stmt:=top 32
abbrev xl:Stmt:=top 33
abbrev wV:Stmt:=top 35
abbrev sX:Stmt:=top 59
abbrev yH:Stmt:=top 51
abbrev yS:Stmt:=top 53
abbrev xY:Stmt:=top 54
abbrev yN:Stmt:=top 52
abbrev yZ:Stmt:=top 50
abbrev xH:Stmt:=top 58
abbrev xI:Stmt:=top 56
abbrev zl:Stmt:=top 55
abbrev xN:Stmt:=top 41
abbrev yJ:Stmt:=top 60
def sAt (i:Nat)(l:List Stmt):Stmt:=l.getD i (.Pass ⟨0,0,0,0⟩)
def xw:Stmt→Expr|.Return (some e) _=>e|.Assign _ e _=>e|.Expr e _=>e|_=>.Constant .none 0 ⟨0,0,0,0⟩
def JH (i:Nat):Expr→Expr|.Call _ l _ _=>l.getD i (.Constant .none 0 ⟨0,0,0,0⟩)|e=>e
def gS:Expr→Expr|.Lambda _ b _ _=>b|e=>e
def lT:Expr→Scope|.Lambda _ _ sc _=>sc|_=>{kind:=.function,names:=[],isGenerator:=false,isCoroutine:=false}
abbrev wQ:Expr:=(xw (sAt 0 (aM lI)))
def gb:cV:=⟨(("writing":Str)++".<locals>.")++"<lambda>",.expr (gS wQ),lT wQ,["term"],[]⟩
abbrev xB:Expr:=(xw (sAt 1 (aM lU)))
def gE:cV:=⟨(("counting":Str)++".<locals>.")++"<lambda>",.expr (gS xB),lT xB,["term"],["numbers"]⟩
abbrev yn:Stmt:=(sAt 0 (aM lx))
def gL:cV:=⟨(("_law_weak":Str)++".<locals>.")++"_law_stamp",.stmts (aM yn),ak yn,["_law_term"],["_law_many"]⟩
abbrev xQ:Stmt:=(sAt 0 (aM lJ))
def gM:cV:=⟨(("_law_planted":Str)++".<locals>.")++"_law_stamp",.stmts (aM xQ),ak xQ,["_law_term"],["_law_step","_law_known","_law_alias"]⟩
abbrev yb:Expr:=(JH 1 (xw (sAt 0 (aM sX))))
def cZ:cV:=⟨(("_law_shown":Str)++".<locals>.")++"<lambda>",.expr (gS yb),lT yb,["_law_head"],["_law_sealed"]⟩
set_option genInjectivity false in
set_option genSizeOf false in
abbrev Rd (sp:Sp)(t:TS)(N:List Str):Prop:=∀(vs:List V)(H:Hp)(Q:VK)(E:XK),sp vs H Q E→t {nx:=fun _ H'=>Q .non H',rt:=Q} (L2.start N vs) H
abbrev Ln (sp:Sp)(n:Nat):Prop:=∀vs H Q E,sp vs H Q E→vs.length=n
structure Adr where
 a_46:Addr
 d_46:KP
 a_44:Addr
 d_44:KP
 a_45:Addr
 d_45:KP
 a_49:Addr
 d_49:KP
 a_57:Addr
 d_57:KP
 a_2:Addr
 d_2:KP
 a_12:Addr
 d_12:KP
 a_29:Addr
 d_29:KP
 a_55:Addr
 d_55:KP
 a_1:Addr
 d_1:KP
 a_34:Addr
 d_34:KP
 a_20:Addr
 d_20:KP
 a_26:Addr
 d_26:KP
 a_27:Addr
 d_27:KP
 a_25:Addr
 d_25:KP
 a_3:Addr
 d_3:KP
 a_4:Addr
 d_4:KP
 a_9:Addr
 d_9:KP
 a_37:Addr
 d_37:KP
 a_38:Addr
 d_38:KP
 a_5:Addr
 d_5:KP
 a_36:Addr
 d_36:KP
 a_11:Addr
 d_11:KP
 a_10:Addr
 d_10:KP
 a_7:Addr
 d_7:KP
 a_22:Addr
 d_22:KP
 a_41:Addr
 d_41:KP
 a_6:Addr
 d_6:KP
 a_54:Addr
 d_54:KP
 a_8:Addr
 d_8:KP
 a_39:Addr
 d_39:KP
 a_43:Addr
 d_43:KP
 a_32:Addr
 d_32:KP
 a_31:Addr
 d_31:KP
 a_42:Addr
 d_42:KP
 a_47:Addr
 d_47:KP
 a_53:Addr
 d_53:KP
 a_52:Addr
 d_52:KP
 a_0:Addr
 d_0:KP
 a_50:Addr
 d_50:KP
 a_51:Addr
 d_51:KP
 a_40:Addr
 d_40:KP
 a_23:Addr
 d_23:KP
 a_28:Addr
 d_28:KP
 a_16:Addr
 d_16:KP
 a_13:Addr
 d_13:KP
 a_14:Addr
 d_14:KP
 a_19:Addr
 d_19:KP
 a_18:Addr
 d_18:KP
 a_17:Addr
 d_17:KP
 a_15:Addr
 d_15:KP
 a_33:Addr
 d_33:KP
 a_48:Addr
 d_48:KP
 k_29:Addr
 t_29:Addr
 k_55:Addr
 t_55:Addr
 k_34:Addr
 t_34:Addr
 k_20:Addr
 t_20:Addr
 k_23:Addr
 t_23:Addr
 c_NoPaper:Addr
 c_NoPlace:Addr
 c_Broken:Addr
 c_StampError:Addr
 c_Numbers:Addr
 c_Row:Addr
set_option genInjectivity false in
set_option genSizeOf false in
structure Txt (K:tx)(mg:Str→Option Gt)(A:Adr):Prop where
 f_46:Fm K mg "is_whole" "is_whole" xF A.a_46 A.d_46 ["thing"]
 f_44:Fm K mg "is_stamp" "is_stamp" xh A.a_44 A.d_44 ["thing"]
 f_45:Fm K mg "is_term" "is_term" zd A.a_45 A.d_45 ["thing"]
 f_49:Fm K mg "part_form" "part_form" zb A.a_49 A.d_49 ["part"]
 f_57:Fm K mg "written" "written" ya A.a_57 A.d_57 ["term"]
 f_2:Fun K "number_of" "Numbers.number_of" s_2 A.a_2 A.d_2
 b_2:br K A.d_2 ["self","term"] []
 f_12:Fm K mg "_law_cell_at" "_law_cell_at" xM A.a_12 A.d_12 ["_law_script","_law_k"]
 f_29:Fm K mg "_law_weak" "_law_weak" lx A.a_29 A.d_29 ["_law_many"]
 f_55:Fm K mg "writing" "writing" lI A.a_55 A.d_55 []
 f_1:Fun K "__init__" "Numbers.__init__" s_1 A.a_1 A.d_1
 b_1:br K A.d_1 ["self"] []
 f_34:Fm K mg "counting" "counting" lU A.a_34 A.d_34 []
 f_20:Fm K mg "_law_planted" "_law_planted" lJ A.a_20 A.d_20 ["_law_known","_law_alias","_law_step"]
 f_26:Fm K mg "_law_stamper" "_law_stamper" yQ A.a_26 A.d_26 ["_law_way_here","_law_cell","_law_known","_law_alias"]
 f_27:Fm K mg "_law_text_by" "_law_text_by" yV A.a_27 A.d_27 ["_law_cell"]
 f_25:Fm K mg "_law_stamp_by" "_law_stamp_by" yY A.a_25 A.d_25 ["_law_cell"]
 f_3:Fun K "__init__" "Row.__init__" s_3 A.a_3 A.d_3
 b_3:br K A.d_3 ["self","stamper"] []
 f_4:Fun K "add" "Row.add" s_4 A.a_4 A.d_4
 b_4:br K A.d_4 ["self","entry"] []
 f_9:Fun K "size" "Row.size" s_9 A.a_9 A.d_9
 b_9:br K A.d_9 ["self"] []
 f_37:Fm K mg "is_count" "is_count" yI A.a_37 A.d_37 ["thing"]
 f_38:Fm K mg "is_elder" "is_elder" yR A.a_38 A.d_38 ["count","elder"]
 f_5:Fun K "has_elder" "Row.has_elder" s_5 A.a_5 A.d_5
 b_5:br K A.d_5 ["self","count","elder"] []
 f_36:Fm K mg "half" "half" xu A.a_36 A.d_36 ["many"]
 f_11:Fun K "top_term" "Row.top_term" yi A.a_11 A.d_11
 b_11:br K A.d_11 ["self","first","many"] []
 f_10:Fun K "top_of" "Row.top_of" xv A.a_10 A.d_10
 b_10:br K A.d_10 ["self","first","many"] []
 f_7:Fun K "mark_at" "Row.mark_at" s_7 A.a_7 A.d_7
 b_7:br K A.d_7 ["self","count"] []
 f_22:Fm K mg "_law_row" "_law_row" yu A.a_22 A.d_22 ["_law_stamper_here","_law_entries","_law_sealed"]
 f_41:Fm K mg "is_place" "is_place" yl A.a_41 A.d_41 ["count","place"]
 f_6:Fun K "has_place" "Row.has_place" s_6 A.a_6 A.d_6
 b_6:br K A.d_6 ["self","count","place"] []
 f_54:Fm K mg "ways" "ways" xj A.a_54 A.d_54 ["place","many"]
 f_8:Fun K "place_paper" "Row.place_paper" s_8 A.a_8 A.d_8
 b_8:br K A.d_8 ["self","count","place"] []
 f_39:Fm K mg "is_head" "is_head" xo A.a_39 A.d_39 ["thing"]
 f_43:Fm K mg "is_sealed" "is_sealed" xC A.a_43 A.d_43 ["knows","thing"]
 f_32:Fm K mg "check_head" "check_head" yr A.a_32 A.d_32 ["thing"]
 f_31:Fm K mg "are_marks" "are_marks" xA A.a_31 A.d_31 ["many","thing"]
 f_42:Fm K mg "is_place_paper" "is_place_paper" yE A.a_42 A.d_42 ["turns","thing"]
 f_47:Fm K mg "joint" "joint" xG A.a_47 A.d_47 ["turn","own","aside"]
 f_53:Fm K mg "place_terms" "place_terms" nJ A.a_53 A.d_53 ["stamper","count","place","paper"]
 f_52:Fm K mg "place_mark" "place_mark" mU A.a_52 A.d_52 ["stamper","count","place","paper"]
 f_0:Fun K "__init__" "Broken.__init__" s_0 A.a_0 A.d_0
 b_0:br K A.d_0 ["self","due","came"] []
 f_50:Fm K mg "place_answer" "place_answer" nN A.a_50 A.d_50 ["stamper","head","place","paper"]
 f_51:Fm K mg "place_entry" "place_entry" xl A.a_51 A.d_51 ["stamper","head","place","paper"]
 f_40:Fm K mg "is_lie" "is_lie" wV A.a_40 A.d_40 ["stamper","knows","thing"]
 f_23:Fm K mg "_law_shown" "_law_shown" sX A.a_23 A.d_23 ["_law_stamper_here","_law_sealed","_law_thing"]
 f_28:Fm K mg "_law_way" "_law_way" yH A.a_28 A.d_28 ["_law_place","_law_many"]
 f_16:Fm K mg "_law_near" "_law_near" yS A.a_16 A.d_16 ["_law_mark"]
 f_13:Fm K mg "_law_changed" "_law_changed" xY A.a_13 A.d_13 ["_law_kind","_law_cell","_law_paper"]
 f_14:Fm K mg "_law_climb" "_law_climb" yN A.a_14 A.d_14 ["_law_stamper_here","_law_count","_law_turns","_law_paper","_law_height"]
 f_19:Fm K mg "_law_plant" "_law_plant" yZ A.a_19 A.d_19 ["_law_known","_law_alias","_law_new","_law_old"]
 f_18:Fm K mg "_law_planned" "_law_planned" xH A.a_18 A.d_18 ["_law_script","_law_stamper_here","_law_head","_law_turns","_law_papers","_law_plan"]
 f_17:Fm K mg "_law_odd" "_law_odd" xI A.a_17 A.d_17 ["_law_cell","_law_thing"]
 f_15:Fm K mg "_law_is_clash" "_law_is_clash" zl A.a_15 A.d_15 ["_law_stamper_here","_law_terms","_law_found"]
 f_33:Fm K mg "clash" "clash" xN A.a_33 A.d_33 ["stamper","terms"]
 f_48:Fm K mg "law" "law" yJ A.a_48 A.d_48 ["_law_script"]
 z_all:mg "all"=none
 z_bool:mg "bool"=none
 z_int:mg "int"=none
 z_isinstance:mg "isinstance"=none
 z_len:mg "len"=none
 z_list:mg "list"=none
 z_min:mg "min"=none
 z_range:mg "range"=none
 z_reversed:mg "reversed"=none
 z_str:mg "str"=none
 z_tuple:mg "tuple"=none
 z_zip:mg "zip"=none
 c_MOST_PARTS:∃t,mg "MOST_PARTS"=some (.int 8 t)
 kc_29:A.d_29.code=.ref A.k_29
 kc_55:A.d_55.code=.ref A.k_55
 kc_34:A.d_34.code=.ref A.k_34
 kc_20:A.d_20.code=.ref A.k_20
 kc_23:A.d_23.code=.ref A.k_23
 mc_NoPaper:mg "NoPaper"=some (.ref A.c_NoPaper)
 eo_NoPaper:cL K A.c_NoPaper
 mc_NoPlace:mg "NoPlace"=some (.ref A.c_NoPlace)
 eo_NoPlace:cL K A.c_NoPlace
 mc_Broken:mg "Broken"=some (.ref A.c_Broken)
 eo_Broken:cL K A.c_Broken
 mc_StampError:mg "StampError"=some (.ref A.c_StampError)
 eo_StampError:cL K A.c_StampError
 er_NoPaper:dZ K A.c_NoPaper
 er_NoPlace:dZ K A.c_NoPlace
 eg_NoPaper:mj K A.c_NoPaper
 eg_NoPlace:mj K A.c_NoPlace
 eg_Broken:mj K A.c_Broken
 ef_Broken_came:HT.iN K A.c_Broken "came"
 ef_Broken_due:HT.iN K A.c_Broken "due"
 em_Broken:zU K A.c_Broken A.a_0
 sb_NoPaper_StampError:gD K A.c_NoPaper A.c_StampError=some true
 sb_NoPlace_StampError:gD K A.c_NoPlace A.c_StampError=some true
 sb_Broken_StampError:gD K A.c_Broken A.c_StampError=some true
 mc_Numbers:mg "Numbers"=some (.ref A.c_Numbers)
 cl_Numbers:Cls K A.c_Numbers
 na_Numbers_given:dM K A.c_Numbers "given"
 mc_Row:mg "Row"=some (.ref A.c_Row)
 cl_Row:Cls K A.c_Row
 na_Row_stamper:dM K A.c_Row "stamper"
 na_Row_entries:dM K A.c_Row "entries"
 na_Row_tops:dM K A.c_Row "tops"
 me_Row_size:gz K A.c_Row "size" A.a_9
 me_Row_top_of:gz K A.c_Row "top_of" A.a_10
 me_Row_top_term:gz K A.c_Row "top_term" A.a_11
 me_Row_has_elder:gz K A.c_Row "has_elder" A.a_5
 me_Row_mark_at:gz K A.c_Row "mark_at" A.a_7
 me_Row_add:gz K A.c_Row "add" A.a_4
 me_Row_has_place:gz K A.c_Row "has_place" A.a_6
 me_Row_place_paper:gz K A.c_Row "place_paper" A.a_8
 me_Numbers_number_of:gz K A.c_Numbers "number_of" A.a_2
 mk_Numbers:Mk K A.c_Numbers A.a_1
 mk_Row:Mk K A.c_Row A.a_3
def zV (A:Adr)(H:Hp):Prop:=H A.t_29=some (.tbl #[])∧H A.t_55=some (.tbl #[])∧H A.t_34=some (.tbl #[])∧H A.t_20=some (.tbl #[])∧H A.t_23=some (.tbl #[])∧([A.t_29,A.t_55,A.t_34,A.t_20,A.t_23]:List Addr).Nodup
theorem Gj:eA ["term"] ["term"] [] gb.scope:=⟨rfl,rfl,rfl,by decide+kernel,rfl,rfl,by decide+kernel,by decide+kernel,by decide+kernel,by decide+kernel,by decide+kernel⟩
theorem Ic:eA ["term","numbers"] ["term"] ["numbers"] gE.scope:=⟨rfl,rfl,rfl,by decide+kernel,rfl,rfl,by decide+kernel,by decide+kernel,by decide+kernel,by decide+kernel,by decide+kernel⟩
theorem mT:eA ["_law_term","_law_total","_law_part","_law_many"] ["_law_term"] ["_law_many"] gL.scope:=⟨rfl,rfl,rfl,by decide+kernel,rfl,rfl,by decide+kernel,by decide+kernel,by decide+kernel,by decide+kernel,by decide+kernel⟩
theorem EV:eA ["_law_term","_law_step","_law_known","_law_alias"] ["_law_term"] ["_law_step","_law_known","_law_alias"] gM.scope:=⟨rfl,rfl,rfl,by decide+kernel,rfl,rfl,by decide+kernel,by decide+kernel,by decide+kernel,by decide+kernel,by decide+kernel⟩
theorem GO:eA ["_law_head","_law_sealed"] ["_law_head"] ["_law_sealed"] cZ.scope:=⟨rfl,rfl,rfl,by decide+kernel,rfl,rfl,by decide+kernel,by decide+kernel,by decide+kernel,by decide+kernel,by decide+kernel⟩
theorem GW:aA ["thing"] ["thing"] (ak xF):=scF
theorem Fb:aA ["thing"] ["thing"] (ak xh):=scF
theorem Hh:aA ["thing"] ["thing"] (ak zd):=scF
theorem zN:aA ["part","signs"] ["part"] (ak zb):=scF
theorem Fv:aA ["term"] ["term"] (ak ya):=scF
theorem IK:aA ["self","term"] ["self","term"] (ak s_2):=scF
theorem GY:aA ["_law_script","_law_k"] ["_law_script","_law_k"] (ak xM):=scF
theorem zF:aA ["_law_many","_law_stamp"] ["_law_many"] (ak lx):=scF
theorem Hn:aA [] [] (ak lI):=scF
theorem Jp:aA ["self"] ["self"] (ak s_1):=scF
theorem zE:aA ["numbers"] [] (ak lU):=scF
theorem zZ:aA ["_law_known","_law_alias","_law_step","_law_stamp"] ["_law_known","_law_alias","_law_step"] (ak lJ):=scF
theorem HG:aA ["_law_way_here","_law_cell","_law_known","_law_alias"] ["_law_way_here","_law_cell","_law_known","_law_alias"] (ak yQ):=scF
theorem uf:aA ["_law_cell","_law_some"] ["_law_cell"] (ak yV):=scF
theorem GM:aA ["_law_cell"] ["_law_cell"] (ak yY):=scF
theorem JM:aA ["self","stamper"] ["self","stamper"] (ak s_3):=scF
theorem JG:aA ["self","entry"] ["self","entry"] (ak s_4):=scF
theorem IT:aA ["self"] ["self"] (ak s_9):=scF
theorem HZ:aA ["thing"] ["thing"] (ak yI):=scF
theorem Hi:aA ["count","elder"] ["count","elder"] (ak yR):=scF
theorem IS:aA ["self","count","elder"] ["self","count","elder"] (ak s_5):=scF
theorem Iq:aA ["many"] ["many"] (ak xu):=scF
theorem zq:aA ["self","first","many","ahead"] ["self","first","many"] (ak yi):=scF
theorem zr:aA ["self","first","many","part"] ["self","first","many"] (ak xv):=scF
theorem JP:aA ["self","count"] ["self","count"] (ak s_7):=scF
theorem uM:aA ["_law_stamper_here","_law_entries","_law_sealed","_law_row_here","_law_entry"] ["_law_stamper_here","_law_entries","_law_sealed"] (ak yu):=scF
theorem Im:aA ["count","place"] ["count","place"] (ak yl):=scF
theorem Jw:aA ["self","count","place"] ["self","count","place"] (ak s_6):=scF
theorem iB:aA ["place","many","turns","first","rest","ahead"] ["place","many"] (ak xj):=scF
theorem jc:aA ["self","count","place","marks","first","many","turn","ahead"] ["self","count","place"] (ak s_8):=scF
theorem FC:aA ["thing"] ["thing"] (ak xo):=scF
theorem FK:aA ["knows","thing"] ["knows","thing"] (ak xC):=scF
theorem Hd:aA ["thing"] ["thing"] (ak yr):=scF
theorem Hy:aA ["many","thing"] ["many","thing"] (ak xA):=scF
theorem Ih:aA ["turns","thing"] ["turns","thing"] (ak yE):=scF
theorem Hb:aA ["turn","own","aside"] ["turn","own","aside"] (ak xG):=scF
theorem pQ:aA ["stamper","count","place","paper","turns","terms","step"] ["stamper","count","place","paper"] (ak nJ):=scF
theorem Hm:aA ["stamper","count","place","paper"] ["stamper","count","place","paper"] (ak mU):=scF
theorem JS:aA ["self","due","came"] ["self","due","came"] (ak s_0):=scF
theorem zY:aA ["stamper","head","place","paper","came"] ["stamper","head","place","paper"] (ak nN):=scF
theorem HP:aA ["stamper","head","place","paper"] ["stamper","head","place","paper"] (ak xl):=scF
theorem uu:aA ["stamper","knows","thing","entry","other"] ["stamper","knows","thing"] (ak wV):=scF
theorem Gw:aA ["_law_stamper_here","_law_sealed","_law_thing"] ["_law_stamper_here","_law_sealed","_law_thing"] (ak sX):=scF
theorem ji:aA ["_law_place","_law_many","_law_turns","_law_cut"] ["_law_place","_law_many"] (ak yH):=scF
theorem Ga:aA ["_law_mark"] ["_law_mark"] (ak yS):=scF
theorem mw:aA ["_law_kind","_law_cell","_law_paper","_law_entry","_law_marks","_law_spot","_law_thing"] ["_law_kind","_law_cell","_law_paper"] (ak xY):=scF
theorem pA:aA ["_law_stamper_here","_law_count","_law_turns","_law_paper","_law_height","_law_terms","_law_k","_law_below"] ["_law_stamper_here","_law_count","_law_turns","_law_paper","_law_height"] (ak yN):=scF
theorem Gz:aA ["_law_known","_law_alias","_law_new","_law_old"] ["_law_known","_law_alias","_law_new","_law_old"] (ak yZ):=scF
theorem jn:aA ["_law_script","_law_stamper_here","_law_head","_law_turns","_law_papers","_law_plan","_law_way_here","_law_known","_law_alias","_law_cell","_law_other","_law_height","_law_old","_law_new"] ["_law_script","_law_stamper_here","_law_head","_law_turns","_law_papers","_law_plan"] (ak xH):=scF
theorem ju:aA ["_law_cell","_law_thing","_law_one","_law_other","_law_place","_law_paper","_law_second","_law_some"] ["_law_cell","_law_thing"] (ak xI):=scF
theorem FS:aA ["_law_stamper_here","_law_terms","_law_found"] ["_law_stamper_here","_law_terms","_law_found"] (ak zl):=scF
theorem pT:aA ["stamper","terms","firsts","term","ahead"] ["stamper","terms"] (ak xN):=scF
theorem cz:aA ["_law_script","_law_way_here","_law_known","_law_alias","_law_stamper_here","_law_entries","_law_sealed","_law_row_here","_law_heads","_law_place","_law_papers","_law_k","_law_count","_law_mark","_law_turns","_law_other","_law_came","_law_due","_law_terms","_law_thing","_law_one","_law_found"] ["_law_script"] (ak yJ):=scF
inductive Dat where
 |non
 |bl (b:Bool)
 |int (i:Int)
 |str (z:Str)
 |lst (ds:List Dat)
 |tup (ds:List Dat)
 |dic
mutual
inductive aH (H:Hp):V→Dat→Prop
 |non:aH H .non .non
 |bl (b):aH H (.bl b) (.bl b)
 |int (i):aH H (.int i) (.int i)
 |str (z):aH H (.str z) (.str z)
 |lst {a xs ds}:H a=some (.lst xs)→DatWs H xs ds→aH H (.ref a) (.lst ds)
 |tup {a xs ds}:H a=some (.tup xs)→DatWs H xs ds→aH H (.ref a) (.tup ds)
 |dic {a}:(∃kvs,H a=some (.dK kvs))→aH H (.ref a) .dic
inductive DatWs (H:Hp):List V→List Dat→Prop
 |nil:DatWs H [] []
 |cons {x xs d ds}:aH H x d→DatWs H xs ds→DatWs H (x::xs) (d::ds)
end
mutual
def IW:Dat→Tt
 |.non=>.none
 |.bl b=>.bool b
 |.int i=>.int i
 |.str z=>.str z
 |.lst ds=>.list (toPys ds)
 |.tup ds=>.tuple (toPys ds)
 |.dic=>.none
def toPys:List Dat→List Tt
 |[]=>[]
 |d::r=>IW d::toPys r
end
def cv (z:Str):Bool:=z.cps.all (·<128)
mutual
def okD:Dat→Bool
 |.str z=>cv z&&decide (z.length≤100000)
 |.lst ds=>okDs ds
 |.tup ds=>okDs ds
 |.dic=>false
 |.non=>true
 |.bl _=>true
 |.int _=>true
def okDs:List Dat→Bool
 |[]=>true
 |d::r=>okD d&&okDs r
end
def lO:Dat→Bool
 |.int _=>true
 |_=>false
def bp:Dat→Bool
 |.int i=>decide (0≤i∧i<10^60)
 |.str _=>true
 |_=>false
def iz (K:tx)(A:Adr):Sp:=fun vs H Q _=>∃v d,vs=[v]∧aH H v d∧Q (.bl (lO d)) H
def iE (K:tx)(A:Adr):Sp:=fun vs H Q _=>∃v d,vs=[v]∧aH H v d∧Q (.bl (bp d)) H
def aY:Key→Dat
 |.inl i=>.int i
 |.inr z=>.str z
def szK:Key→Nat
 |.inl _=>62
 |.inr z=>z.length+62
def okP:Key→Bool
 |.inl i=>decide (0≤i∧i<10^60)
 |.inr z=>cv z&&decide (z.length≤100000)
def Gu:Key→Bool
 |.inr _=>true
 |.inl _=>false
def okT (k:List Key):Bool:=decide (1≤k.length∧k.length≤8)&&(k.head?.map Gu).getD false&&k.all okP
def szT (k:List Key):Nat:=(k.map szK).sum
def qB (k:List Key):Key→Prop
 |.inl i=>0≤i∧i<10^59
 |.inr z=>cv z=true∧z.length≤szT k
def cN:Key→Str
 |.inl i=>toString i++";"
 |.inr z=>toString (z.length:Int)++":"++z
def bR:List Key→Str
 |[]=>MP
 |x::r=>cN x++bR r
def tB (H H':Hp):Prop:=∀b o,H b=some o→(∀ps,o≠.tbl ps)→H' b=some o
def bq (kvs:List (List Key×Key)):List (List Key×V):=kvs.map fun p=>(p.1,kV p.2)
def bB (kvs:List (List Key×Key))(k:List Key):Option Key:=(kvs.find? fun p=>decide (p.1=k)).map (·.2)
def iM:Key→Prop
 |.inl i=>0≤i∧i<10^59
 |.inr z=>cv z=true∧z.length≤62
def gh (kvs:List (List Key×Key)):Prop:=∀p∈kvs,iM p.2
structure gF (A:Adr)(H:Hp)(x d:Addr)(kvs:List (List Key×V)):Prop where
 ob:∃dx,H x=some (.ins A.c_Numbers dx [("given",.ref d)])
 di:H d=some (.dT kvs)
def mv (t:Int):Key→Int
 |.inr z=>2*t+z.length
 |.inl i=>2*t+i
def uz (m:Int)(k:List Key):Key:=.inl (k.foldl mv k.length%m)
def ba (b:Addr)(H H':Hp):Prop:=∀x o,x≠b→H x=some o→H' x=some o
def Lin (a c:Int)(kvs:List (List Key×Key)):Prop:=∀(i:Nat)(p:List Key×Key),kvs[i]?=some p→p.2=NH (a*(i:Int)+c)
inductive Kd where
 |wri
 |cnt
 |wea
 |pla (D:Addr) (al:Option (List Key×List Key))
def alF:Option (List Key×List Key)→List Key→List Key
 |none,k=>k
 |some p,k=>if k=p.1 then p.2 else k
def jV (H:Hp)(D:Addr):Option (List Key×List Key)→Prop
 |none=>H D=some (.dT [])
 |some p=>∃o,H D=some (.dT [(p.1,.ref o)])∧H o=some (.tup (p.2.map kV))∧okT p.2=true
inductive Stp (A:Adr)(H:Hp)(f b:Addr)(d:Kd)(g:gOp)(n:Nat):Prop
 |wri (hc:dh H f gb [] []) (hb:b=f) (hg:g=fun k=>some (.inr (bR k))) (ed:d=.wri)
 |cnt (q x:Addr) (kvs:List (List Key×Key)) (hc:dh H f gE [q] [.ref x]) (num:gF A H x b (bq kvs)) (hl:kvs.length≤n) (hs:gh kvs) (st:Lin 1 0 kvs) (hg:g=bB kvs) (ed:d=.cnt)
 |wea (q:Addr) (m:Int) (h1:1≤m) (h2:m≤9) (hc:dh H f gL [q] [.int m]) (hb:b=f) (hg:g=fun k=>some (uz m k)) (ed:d=.wea)
 |pla (q0 q1 q2 D:Addr) (j:Int) (h0:1≤j) (h1:j<1000) (kvs:List (List Key×Key)) (al:Option (List Key×List Key)) (hc:dh H f gM [q0,q1,q2] [.int j,.ref b,.ref D]) (hb:H b=some (.dT (bq kvs))) (ha:jV H D al) (bD:b≠D) (hl:kvs.length≤n) (hs:gh kvs) (st:Lin j 5 kvs) (hg:g=fun k=>bB kvs (alF al k)) (ed:d=.pla D al)
def Sub (g g':gOp):Prop:=∀k v,g k=some v→g' k=some v
def Ext (g:gOp)(h:List Key→Key):Prop:=∀k v,g k=some v→h k=v
abbrev PK (H:Hp):List Addr→List (List Key)→Prop:=Paired (fun(p:Addr)(k:List Key)=>H p=some (.tup (k.map kV))∧okT k=true)
def mL (K:tx)(A:Adr):Sp:=fun vs H Q _=>∃(p:Addr)(k:List Key),vs=[.ref p]∧H p=some (.tup (k.map kV))∧okT k=true∧∀H',au H H'→Q (.bl true) H'
def pC (K:tx)(A:Adr):Sp:=fun vs H Q _=>∃x:Key,vs=[kV x]∧okP x=true∧Q (.str (cN x)) H
def mB (K:tx)(A:Adr):Sp:=fun vs H Q _=>∃(p:Addr)(k:List Key),vs=[.ref p]∧H p=some (.tup (k.map kV))∧okT k=true∧∀H',au H H'→Q (.str (bR k)) H'
def uE (K:tx)(A:Adr):Sp:=mB K A
def jv (kvs:List (List Key×V))(kk:List Key)(d:V):V:=(bh kvs kk).getD d
def jy (H:Hp)(b:Addr)(kvs:List (List Key×V))(kk:List Key)(d:V):Hp:=if (bh kvs kk).isSome=true then H else upd H b (.dT (bx kvs kk d))
def uF (K:tx)(A:Adr):Sp:=fun vs H Q _=>∃x dx,vs=[.ref x]∧H x=some (.ins A.c_Numbers dx [])∧∀d,H d=none→Q .non (upd (upd H d (.dT [])) x (.ins A.c_Numbers dx [("given",.ref d)]))
def uR (K:tx)(A:Adr):Sp:=fun vs H Q _=>∃(x d p:Addr)(kvs:List (List Key×V))(k:List Key),vs=[.ref x,.ref p]∧gF A H x d kvs∧kvs.length≤50000∧H p=some (.tup (k.map kV))∧okT k=true∧∀H',au H H'→Q (jv kvs k (.int kvs.length)) (jy H' d kvs k (.int kvs.length))
def tI (K:tx)(A:Adr):Sp:=fun vs H Q _=>∃(x d p:Addr)(kvs:List (List Key×V))(k:List Key),vs=[.ref p,.ref x]∧gF A H x d kvs∧kvs.length≤50000∧H p=some (.tup (k.map kV))∧okT k=true∧∀H',au H H'→Q (jv kvs k (.int kvs.length)) (jy H' d kvs k (.int kvs.length))
def bI (P:Addr)(H H':Hp):Prop:=∀b o,H b=some o→b≠P→H' b=some o
def uT (K:tx)(A:Adr):Sp:=fun vs H Q _=>∃(p:Addr)(m:Int)(k:List Key),vs=[.ref p,.int m]∧1≤m∧m≤9∧H p=some (.tup (k.map kV))∧okT k=true∧Q (kV (uz m k)) H
def tz (K:tx)(A:Adr):Sp:=fun vs H Q _=>∃(p b D:Addr)(j:Int)(k:List Key)(kvs:List (List Key×V))(al:Option (List Key×List Key)),vs=[.ref p,.int j,.ref b,.ref D]∧0≤j∧j<1000∧H p=some (.tup (k.map kV))∧H b=some (.dT kvs)∧jV H D al∧kvs.length≤50000∧Q (jv kvs (alF al k) (.int (j*(kvs.length:Int)+5))) (jy H b kvs (alF al k) (.int (j*(kvs.length:Int)+5)))
def MkQ (A:Adr)(P:Addr)(d:Kd)(H:Hp)(Q:VK):Prop:=∀(f b:Addr)(g:gOp)(H':Hp),bI P H H'→Stp A H' f b d g 0→H b=none→Q (.ref f) H'
def pX (K:tx)(A:Adr):Sp:=fun vs H Q _=>vs=[]∧H A.t_55=some (.tbl #[])∧MkQ A A.t_55 .wri H Q
def pL (K:tx)(A:Adr):Sp:=fun vs H Q _=>vs=[]∧H A.t_34=some (.tbl #[])∧MkQ A A.t_34 .cnt H Q
def pN (K:tx)(A:Adr):Sp:=fun vs H Q _=>∃m:Int,vs=[.int m]∧1≤m∧m≤9∧H A.t_29=some (.tbl #[])∧MkQ A A.t_29 .wea H Q
def pc (K:tx)(A:Adr):Sp:=fun vs H Q _=>∃(b D:Addr)(j:Int),vs=[.ref b,.ref D,.int j]∧1≤j∧j<1000∧H A.t_20=some (.tbl #[])∧H b=some (.dT [])∧H D=some (.dT [])∧b≠D∧
 ∀(f:Addr)(H':Hp),bI A.t_20 H H'→Stp A H' f b (.pla D none) (fun k=>bB [] (alF none k)) 0→Q (.ref f) H'
def Kd.sure:Kd→Prop
 |.wri=>True
 |.cnt=>True
 |.wea=>False
 |.pla _ al=>al=none
def pE (K:tx)(A:Adr):Sp:=fun vs H Q _=>∃(w c:Int)(b0 D:Addr),vs=[.int w,.int c,.ref b0,.ref D]∧zV A H∧H b0=some (.dT [])∧H D=some (.dT [])∧b0≠D∧0≤w∧w≤3∧
 ∀(f b:Addr)(d:Kd)(g:gOp)(H':Hp),tB H H'→H' A.t_23=some (.tbl #[])→Stp A H' f b d g 0→(b=b0∨H b=none)→(w=3→d.sure)→(w<2→d=.pla D none∧b=b0)→Q (.ref f) H'
def enK (e:Key):Prop:=okP e=true∧szK e≤70
def mkK (e:Key):Prop:=okP e=true∧szK e≤12000
def aB (n:Nat):Nat:=2^QU (n- 1)
def cj:Nat→Nat→Nat→List Int
 |0,_,_=>[]
 |f+1,p,m=>if m≤1 then[]else if p<aB m then 0::cj f p (aB m)else 1::cj f (p- aB m) (m- aB m)
abbrev aS (c p:Nat):List Int:=cj 60 p c
def jtT (t:Int)(o a:Key):List Key:=if t=0 then[.inr "joint",o,a]else[.inr "joint",a,o]
def bZ (h:List Key→Key)(c:Int)(e:Key)(st:List (Int×Key)):Nat→List Key
 |0=>[.inr "entry",e]
 |i+1=>match st[i]? with
  |some x=>jtT x.1 (h (bZ h c e st i)) x.2
  |none=>[.inr "row",.inl c,h (bZ h c e st i)]
def dD (h:List Key→Key)(c:Int)(e:Key)(st:List (Int×Key))(m:Nat):List (List Key):=(PC m).map (bZ h c e st)
def stR (ts:List Int)(ks:List Key):List (Int×Key):=(ts.zip ks).reverse
structure bL (H:Hp)(P T:Addr)(e:Key)(ks:List Key):Prop where
 hP:H P=some (.tup [kV e,.ref T])
 hT:H T=some (.tup (ks.map kV))
structure gj (A:Adr)(H:Hp)(f b P T:Addr)(d:Kd)(c:Nat)(ts:List Int)(ks:List Key)(e:Key)(g:gOp)(n:Nat):Prop where
 s:Stp A H f b d g n
 hn:n+200≤40000
 c1:1≤c
 c2:c<2^60
 tl:ts.length≤6
 t01:∀t∈ts,t=0∨t=1
 kl:ks.length=ts.length
 ee:enK e
 ke:∀k∈ks,mkK k
 w:bL H P T e ks
def eO (K:tx)(A:Adr):Sp:=fun vs H Q _=>∃(a:Addr)(ns:List Int)(k:Int),vs=[.ref a,.int k]∧SqL K H a (ns.map V.int)∧0≤k∧∀z:Int,Q (.int z) H
def pY (K:tx)(A:Adr):Sp:=fun vs H Q _=>∃c:Int,vs=[.int c]∧∀(z:Str)(H':Hp),au H H'→z.length≤4→cv z=true→Q (.str z) H'
def jw (K:tx)(A:Adr):Sp:=fun vs H Q _=>∃c:Int,vs=[.int c]∧∀(e:Key)(H':Hp),au H H'→enK e→Q (kV e) H'
def lh (K:tx)(A:Adr):Sp:=fun vs H Q _=>∃m:Nat,vs=[.int (m:Int)]∧2≤m∧m≤2^60∧Q (.int ((aB m:Nat):Int)) H
def lW (K:tx)(A:Adr):Sp:=fun vs H Q _=>∃p m:Nat,vs=[.int (p:Int),.int (m:Int)]∧p<m∧m≤2^60∧∀D,H D=none→Q (.ref D) (upd H D (.lst ((aS m p).map V.int)))
def qh (K:tx)(A:Adr):Sp:=fun vs H Q _=>∃p m:Nat,vs=[.int (p:Int),.int (m:Int)]∧p<m∧m≤2^60∧∀D,H D=none→Q (.ref D) (upd H D (.lst ((aS m p).map V.int)))
def pS (K:tx)(A:Adr):Sp:=fun vs H Q _=>∃(t:Int)(o a:Key),vs=[.int t,kV o,kV a]∧∀p,H p=none→Q (.ref p) (upd H p (.tup ((jtT t o a).map kV)))
def kH (A:Adr)(f b:Addr)(d:Kd)(c:Nat)(st:List (Int×Key))(e:Key)(m:Nat)(g:gOp)(n:Nat)(H:Hp)(Q:VK):Prop:=
 ∀(M:Addr)(ps:List Addr)(tt:List (List Key))(g':gOp)(H':Hp),ba b H H'→Stp A H' f b d g' (n+70)→Sub g g'→H M=none→M≠b→H' M=some (.lst (ps.map V.ref))→PK H' ps tt→(∀p∈ps,p≠b)→tt.length=m→(∀k∈tt,szT k≤98000)→(∀h,Ext g' h→tt=dD h c e st m)→Q (.ref M) H'
def jl (K:tx)(A:Adr):Sp:=fun vs H Q _=>∃(f b L P T:Addr)(d:Kd)(c:Nat)(ts:List Int)(ks:List Key)(e:Key)(g:gOp)(n j:Nat),vs=[.ref f,.int (c:Int),.ref L,.ref P,.int (j:Int)]∧gj A H f b P T d c ts ks e g n∧H L=some (.lst (ts.map V.int))∧j≤ts.length+1∧kH A f b d c (stR ts ks) e (j+1) g n H Q
def uY (K:tx)(A:Adr):Sp:=fun vs H Q _=>∃(a:Addr)(x y:V),vs=[.ref a,x,y]∧H a=some (fF A.c_Broken a none)∧∀dx,H dx=none→Q .non (upd (upd (upd H a (fF A.c_Broken a (some dx))) dx (ly [("due",x)] dx)) dx (ly (dQ "came" y [("due",x)]) dx))
def cX:Dat→Bool
 |.int i=>decide (0≤i∧i<2^60)
 |_=>false
def cC (c e:Dat):Bool:=cX c&&lO e&&match c,e with
 |.int c,.int e=>decide (0≤e∧e<c)
 |_,_=>false
def iw (n:Int):Dat→Bool
 |.tup ds=>decide ((ds.length:Int)=n)&&ds.all bp
 |_=>false
def dA:Dat→Bool
 |.tup [c,v]=>cX c&&bp v
 |_=>false
def wt:Dat→Prop
 |.tup ds=>ds.length≤500
 |_=>True
def fI (n:Int):Dat→Bool
 |.tup [e,m]=>bp e&&iw n m
 |_=>false
def cR:Dat→Prop
 |.tup [_,m]=>wt m
 |_=>True
def lc (K:tx)(A:Adr):Sp:=fun vs H Q _=>∃v d,vs=[v]∧aH H v d∧Q (.bl (cX d)) H
def mQ (K:tx)(A:Adr):Sp:=fun vs H Q _=>∃v d w e,vs=[v,w]∧aH H v d∧aH H w e∧Q (.bl (cC d e)) H
def pK (K:tx)(A:Adr):Sp:=fun vs H Q _=>∃(n:Int)(v:V)(d:Dat),vs=[.int n,v]∧aH H v d∧wt d∧∀H',au H H'→Q (.bl (iw n d)) H'
def lY (K:tx)(A:Adr):Sp:=fun vs H Q _=>∃v d,vs=[v]∧aH H v d∧Q (.bl (dA d)) H
def pb (K:tx)(A:Adr):Sp:=fun vs H Q _=>∃v d,vs=[v]∧aH H v d∧dA d=true∧Q .non H
def qg (K:tx)(A:Adr):Sp:=fun vs H Q _=>∃(L:Addr)(ts:List Int)(v:V)(d:Dat),vs=[.ref L,v]∧H L=some (.lst (ts.map V.int))∧ts.length≤500∧aH H v d∧cR d∧∀H',au H H'→Q (.bl (fI ts.length d)) H'
def zD (A:Adr)(f b:Addr)(kd:Kd)(c:Nat)(st:List (Int×Key))(e:Key)(g:gOp)(n:Nat)(H:Hp)(R:Key→Hp→Prop):Prop:=
 ∀(w:Key)(g':gOp)(H':Hp),ba b H H'→Stp A H' f b kd g' (n+71)→Sub g g'→okP w=true→(∀h,Ext g' h→w=h (bZ h c e st (st.length+1)))→R w H'
structure Ask (A:Adr)(H:Hp)(f b:Addr)(kd:Kd)(g:gOp)(n:Nat)(w m:V)(e k:Dat):Prop where
 s:Stp A H f b kd g n
 hn:n+400≤40000
 he:aH H w e
 hm:aH H m k
 sh:cR k
structure dW (k:Dat)(n:Nat)(e:Key)(ks:List Key):Prop where
 q:k=.tup [aY e,.tup (ks.map aY)]
 l:ks.length=n
 en:∀x∈ks,mkK x
 ee:enK e
def uO (A:Adr)(c p:Nat)(k:Dat)(H:Hp)(E:XK)(R:Key→List Key→Prop):Prop:=
 (fI (aS c p).length k=false∧∀H',au H H'→E (.ref A.c_NoPaper) none H')∨∃en ks,dW k (aS c p).length en ks∧R en ks
def jo (K:tx)(A:Adr):Sp:=fun vs H Q E=>∃(f b:Addr)(kd:Kd)(g:gOp)(n:Nat)(v w m:V)(d e k:Dat),vs=[.ref f,v,w,m]∧Ask A H f b kd g n w m e k∧aH H v d∧
 (cC d e=false→E (.ref A.c_NoPlace) none H)∧
 ∀c p:Nat,d=.int (c:Int)→e=.int (p:Int)→p<c→c<2^60→(aS c p).length≤6∧uO A c p k H E fun en ks=>kH A f b kd c (stR (aS c p) ks) en ((aS c p).length+2) g n H Q
def qa (K:tx)(A:Adr):Sp:=fun vs H Q E=>∃(f b:Addr)(kd:Kd)(g:gOp)(n:Nat)(v w m:V)(d e k:Dat),vs=[.ref f,v,w,m]∧Ask A H f b kd g n w m e k∧aH H v d∧
 (cC d e=false→E (.ref A.c_NoPlace) none H)∧
 ∀c p:Nat,d=.int (c:Int)→e=.int (p:Int)→p<c→c<2^60→(aS c p).length≤6∧uO A c p k H E fun en ks=>zD A f b kd c (stR (aS c p) ks) en g n H fun w H'=>Q (kV w) H'
def IV (A:Adr)(f b:Addr)(kd:Kd)(c:Nat)(mk:Key)(e k:Dat)(g:List Key→Option Key)(n:Nat)(H:Hp)(Q:VK)(E:XK):Prop:=
 (cC (.int (c:Int)) e=false→E (.ref A.c_NoPlace) none H)∧
  ∀p:Nat,e=.int (p:Int)→p<c→(aS c p).length≤6∧uO A c p k H E fun en ks=>zD A f b kd c (stR (aS c p) ks) en g n H fun w H'=>(w=mk→Q (kV en) H')∧(w≠mk→∀(dx:Addr)(H'':Hp),au H' H''→E (.ref A.c_Broken) (some dx) H'')
def ph (K:tx)(A:Adr):Sp:=fun vs H Q E=>∃(f b:Addr)(kd:Kd)(g:gOp)(n:Nat)(v w m:V)(e k:Dat)(c:Nat)(mk:Key),vs=[.ref f,v,w,m]∧Ask A H f b kd g n w m e k∧aH H v (.tup [.int (c:Int),aY mk])∧c<2^60∧okP mk=true∧IV A f b kd c mk e k g n H Q E
inductive cr (g:gOp)(c:Nat)(mk:Key)(e k:Dat):Option Key→Prop
 |place (h:cC (.int (c:Int)) e=false):cr g c mk e k none
 |paper (p:Nat) (he:e=.int (p:Int)) (h1:p<c) (hw:(aS c p).length≤6) (h:fI (aS c p).length k=false):cr g c mk e k none
 |good (p:Nat) (tm en:Key) (ks:List Key) (he:e=.int (p:Int)) (h1:p<c) (hw:(aS c p).length≤6) (h:dW k (aS c p).length en ks) (ht:∀h,Ext g h→tm=h (bZ h c en (stR (aS c p) ks) ((stR (aS c p) ks).length+1))):cr g c mk e k (if tm=mk then some en else none)
def kO:Option Key→V
 |none=>.non
 |some e=>kV e
def ma (K:tx)(A:Adr):Sp:=fun vs H Q _=>∃(f b:Addr)(kd:Kd)(g:gOp)(n:Nat)(v w m:V)(e k:Dat)(c:Nat)(mk:Key)(o:Option Key),vs=[.ref f,v,w,m]∧Ask A H f b kd g n w m e k∧aH H v (.tup [.int (c:Int),aY mk])∧c<2^60∧okP mk=true∧cr g c mk e k o∧
 ∀(g':gOp)(H':Hp),ba b H H'→Stp A H' f b kd g' (n+71)→Sub g g'→Q (kO o) H'
def ik (h:List Key→Key):Nat→List Key→List Key
 |0,_=>[.inr "void"]
 |n+1,es=>match es with
  |[]=>[.inr "void"]
  |[e]=>[.inr "entry",e]
  |es=>[.inr "joint",h (ik h n (es.take (aB es.length))),h (ik h n (es.drop (aB es.length)))]
def eL (h:List Key→Key)(es:List Key):List Key:=ik h es.length es
def szB (m:Nat):Nat:=400*(m- 1)+200
def fJ (g:gOp)(es:List Key)(kvs:List (List Key×Key)):Prop:=∀k v,bB kvs k=some v→∃a m:Nat,k=[.inl (a:Int),.inl (m:Int)]∧a+m≤es.length∧okP v=true∧szK v≤szB m∧∀h,Ext g h→v=h (eL h ((es.drop a).take m))
structure iC (A:Adr)(H:Hp)(x f L D:Addr)(es:List Key)(kvs:List (List Key×Key)):Prop where
 ob:∃dx,H x=some (.ins A.c_Row dx [("stamper",.ref f),("entries",.ref L),("tops",.ref D)])
 hl:H L=some (.lst (es.map kV))
 hd:H D=some (.dT (bq kvs))
 en:∀e∈es,enK e
 le:es.length≤29
def bS (b D:Addr)(H H':Hp):Prop:=∀x o,x≠b→x≠D→H x=some o→H' x=some o
def jT (h:List Key→Key)(es:List Key):List Key:=[.inr "row",.inl (es.length:Int),h (eL h es)]
def tF (K:tx)(A:Adr):Sp:=fun vs H Q _=>∃x dx f,vs=[.ref x,.ref f]∧H x=some (.ins A.c_Row dx [])∧∀(L D:Addr)(H':Hp),(∀z o,z≠x→H z=some o→H' z=some o)→H L=none→H D=none→L≠D→H' x=some (.ins A.c_Row dx [("stamper",.ref f),("entries",.ref L),("tops",.ref D)])→H' L=some (.lst [])→H' D=some (.dT [])→Q .non H'
def ux (K:tx)(A:Adr):Sp:=fun vs H Q _=>∃(x f L D:Addr)(es:List Key)(kvs:List (List Key×Key))(e:Key),vs=[.ref x,kV e]∧iC A H x f L D es kvs∧enK e∧es.length<29∧Q (.int (es.length:Int)) (upd H L (.lst ((es++[e]).map kV)))
def kI (K:tx)(A:Adr):Sp:=fun vs H Q _=>∃(x f L D:Addr)(es:List Key)(kvs:List (List Key×Key)),vs=[.ref x]∧iC A H x f L D es kvs∧Q (.int (es.length:Int)) H
def pf (K:tx)(A:Adr):Sp:=fun vs H Q _=>∃c p:Int,vs=[.int c,.int p]∧0≤p∧p≤c∧c≤1000∧Q (.bl true) H
def tN (K:tx)(A:Adr):Sp:=fun vs H Q _=>∃(x f L D:Addr)(es:List Key)(kvs:List (List Key×Key))(c p:Int),vs=[.ref x,.int c,.int p]∧iC A H x f L D es kvs∧0≤p∧p≤c∧c≤es.length∧Q (.bl true) H
def tR (K:tx)(A:Adr):Sp:=fun vs H Q _=>∃(x f L D:Addr)(es:List Key)(kvs:List (List Key×Key))(c p:Int),vs=[.ref x,.int c,.int p]∧iC A H x f L D es kvs∧0≤p∧p<c∧c≤es.length∧Q (.bl true) H
structure bY (A:Adr)(H:Hp)(x f L D b:Addr)(kd:Kd)(es:List Key)(kvs:List (List Key×Key))(g:gOp)(n:Nat):Prop where
 r:iC A H x f L D es kvs
 s:Stp A H f b kd g n
 c:fJ g es kvs
 db:D≠b
 da:∀A0 al,kd=.pla A0 al→D≠A0
 kl:kvs.length≤n
def ft (K:tx)(A:Adr)(j:Nat):Sp:=fun vs H Q _=>∃(x f L D b:Addr)(kd:Kd)(es:List Key)(kvs:List (List Key×Key))(g:gOp)(n a m:Nat),vs=[.ref x,.int (a:Int),.int (m:Int)]∧bY A H x f L D b kd es kvs g n∧a+m≤es.length∧m<j∧n+2*m+1≤40000∧
 ∀(v:Key)(kvs':List (List Key×Key))(g':gOp)(H':Hp),bS b D H H'→bY A H' x f L D b kd es kvs' g' (n+(2*(m- 1)+1))→Sub g g'→okP v=true→szK v≤szB m→(∀h,Ext g' h→v=h (eL h ((es.drop a).take m)))→Q (kV v) H'
def qf (K:tx)(A:Adr)(j:Nat):Sp:=fun vs H Q _=>∃(x f L D b:Addr)(kd:Kd)(es:List Key)(kvs:List (List Key×Key))(g:gOp)(n a m:Nat),vs=[.ref x,.int (a:Int),.int (m:Int)]∧bY A H x f L D b kd es kvs g n∧a+m≤es.length∧m≤j∧n+2*m+1≤40000∧
 ∀(p:Addr)(k:List Key)(kvs':List (List Key×Key))(g':gOp)(H':Hp),bS b D H H'→bY A H' x f L D b kd es kvs' g' (n+2*(m- 1))→Sub g g'→H' p=some (.tup (k.map kV))→okT k=true→szT k+62≤szB m→(∀h,Ext g' h→k=eL h ((es.drop a).take m))→Q (.ref p) H'
def wZ (v:Key):Prop:=∀i,v=.inl i→i<10^59
def va (K:tx)(A:Adr):Sp:=fun vs H Q _=>∃(x f L D b:Addr)(kd:Kd)(es:List Key)(kvs:List (List Key×Key))(g:gOp)(n c:Nat),vs=[.ref x,.int (c:Int)]∧bY A H x f L D b kd es kvs g n∧c≤es.length∧n+200≤40000∧
 ∀(v:Key)(kvs':List (List Key×Key))(g':gOp)(H':Hp),bS b D H H'→bY A H' x f L D b kd es kvs' g' (n+200)→Sub g g'→okP v=true→wZ v→(∀h,Ext g' h→v=h (jT h (es.take c)))→Q (kV v) H'
def tH (K:tx)(A:Adr):Sp:=fun vs H Q _=>∃(x f L D b:Addr)(kd:Kd)(es:List Key)(kvs:List (List Key×Key))(g:gOp)(n c p:Nat),vs=[.ref x,.int (c:Int),.int (p:Int)]∧bY A H x f L D b kd es kvs g n∧c≤es.length∧p<c∧n+200≤40000∧
 ∀(P T:Addr)(e:Key)(ks:List Key)(kvs':List (List Key×Key))(g':gOp)(H':Hp),bS b D H H'→bY A H' x f L D b kd es kvs' g' (n+200)→Sub g g'→bL H' P T e ks→es[p]?=some e→ks.length=(aS c p).length→(∀k∈ks,mkK k)→(∀h,Ext g' h→bZ h c e (stR (aS c p) ks) (ks.length+1)=jT h (es.take c))→H P=none→H T=none→Q (.ref P) H'
def ef (i:Nat):List Key→List (List Key×V)
 |[]=>[]
 |m::r=>([.inl ((i+1:Nat):Int),m],.bl true)::ef (i+1) r
abbrev dB (ms:List Key):List (List Key×V):=ef 0 ms
structure dG (g:gOp)(es ms:List Key):Prop where
 l:ms.length=es.length
 ok:∀m∈ms,okP m=true∧wZ m
 eq:∀(i:Nat) m,ms[i]?=some m→∀h,Ext g h→m=h (jT h (es.take (i+1)))
def vc (b S:Addr)(H H':Hp):Prop:=∀z o,z≠b→z≠S→H z=some o→H' z=some o
def pV (K:tx)(A:Adr):Sp:=fun vs H Q _=>∃(f b E S:Addr)(kd:Kd)(es:List Key)(g:gOp),vs=[.ref f,.ref E,.ref S]∧Stp A H f b kd g 0∧H E=some (.lst (es.map kV))∧(∀e∈es,enK e)∧es.length≤29∧H S=some (.dT [])∧S≠b∧(∀A0 al,kd=.pla A0 al→S≠A0)∧
 ∀(x L D:Addr)(kvs:List (List Key×Key))(ms:List Key)(g':gOp)(H':Hp),vc b S H H'→bY A H' x f L D b kd es kvs g' 6000→Sub g g'→H' S=some (.dT (dB ms))→dG g' es ms→H D=none→Q (.ref x) H'
def xk:Dat→Option Key
 |.int i=>some (.inl i)
 |.str z=>some (.inr z)
 |_=>none
def bG (ms:List Key):Dat→Bool
 |.tup [.int c,v]=>dA (.tup [.int c,v])&&match xk v with
  |some v=>(bh (dB ms) [.inl c,v]).isSome
  |none=>false
 |_=>false
def tK (K:tx)(A:Adr):Sp:=fun vs H Q _=>∃(p S:Addr)(ms:List Key)(c:Int)(v:Key),vs=[.ref p,.ref S]∧H p=some (.tup [.int c,kV v])∧H S=some (.dT (dB ms))∧Q (.bl (bh (dB ms) [.inl c,v]).isSome) H
structure Knw (H:Hp)(fk S:Addr)(ms:List Key):Prop where
 c:∃q,dh H fk cZ [q] [.ref S]
 s:H S=some (.dT (dB ms))
def my (K:tx)(A:Adr):Sp:=fun vs H Q _=>∃(fk S:Addr)(ms:List Key)(v:V)(d:Dat),vs=[.ref fk,v]∧Knw H fk S ms∧aH H v d∧Q (.bl (bG ms d)) H
def neO:Option Key→Option Key→Bool
 |some a,some b=> !decide (a=b)
 |_,_=>false
def gG (ms:List Key):Dat→Bool
 |.tup [h0,h1,_,_,_]=> !bG ms h0|| !bG ms h1
 |_=>true
def Jr (A:Adr)(f b:Addr)(kd:Kd)(ms:List Key)(g:List Key→Option Key)(n:Nat)(H:Hp)(d:Dat)(Q:VK):Prop:=
 (gG ms d=true∧∀H',au H H'→Q (.bl false) H')∨∃(c0 c1:Nat)(m0 m1:Key)(e k0 k1:Dat)(o0 o1:Option Key),d=.tup [.tup [.int (c0:Int),aY m0],.tup [.int (c1:Int),aY m1],e,k0,k1]∧gG ms d=false∧c0<2^60∧c1<2^60∧okP m0=true∧okP m1=true∧cR k0∧cR k1∧cr g c0 m0 e k0 o0∧cr g c1 m1 e k1 o1∧
  ∀(g':List Key→Option Key)(H':Hp),ba b H H'→Stp A H' f b kd g' (n+142)→Sub g g'→Q (.bl (neO o0 o1)) H'
def mR (K:tx)(A:Adr):Sp:=fun vs H Q _=>∃(f b fk S:Addr)(kd:Kd)(ms:List Key)(g:gOp)(n:Nat)(v:V)(d:Dat),vs=[.ref f,.ref fk,v]∧Stp A H f b kd g n∧n+600≤40000∧Knw H fk S ms∧aH H v d∧Jr A f b kd ms g n H d Q
def gw (A:Adr)(b:Addr)(H:Hp):Prop:=H A.t_23=some (.tbl #[])∨∃c,H A.t_23=some (.tbl #[rawInt 329,rawInt 37,.ref c])∧H c=some (bT c cZ.qual)∧c≠b
def jb (A:Adr)(b:Addr)(H H':Hp):Prop:=∀z o,z≠b→z≠A.t_23→H z=some o→H' z=some o
def jg (K:tx)(A:Adr):Sp:=fun vs H Q _=>∃(f b S:Addr)(kd:Kd)(ms:List Key)(g:List Key→Option Key)(n:Nat)(v:V)(d:Dat),vs=[.ref f,.ref S,v]∧Stp A H f b kd g n∧n+600≤40000∧gw A b H∧H S=some (.dT (dB ms))∧aH H v d∧
 ((gG ms d=true∧∀H',jb A b H H'→gw A b H'→Stp A H' f b kd g n→Q (.bl false) H')∨∃(c0 c1:Nat)(m0 m1:Key)(e k0 k1:Dat)(o0 o1:Option Key),d=.tup [.tup [.int (c0:Int),aY m0],.tup [.int (c1:Int),aY m1],e,k0,k1]∧gG ms d=false∧c0<2^60∧c1<2^60∧okP m0=true∧okP m1=true∧cR k0∧cR k1∧cr g c0 m0 e k0 o0∧cr g c1 m1 e k1 o1∧
   ∀(g':List Key→Option Key)(H':Hp),jb A b H H'→gw A b H'→Stp A H' f b kd g' (n+142)→Sub g g'→Q (.bl (neO o0 o1)) H')
def jE (K:tx)(A:Adr):Sp:=fun vs H Q _=>∃m:Key,vs=[kV m]∧mkK m∧∀(e:Key)(H':Hp),au H H'→okP e=true→szK e≤szK m→Q (kV e) H'
def pZ (K:tx)(A:Adr):Sp:=fun vs H Q _=>∃(k c:Int)(P T:Addr)(e:Key)(ks:List Key),vs=[.int k,.int c,.ref P]∧bL H P T e ks∧enK e∧(∀x∈ks,mkK x)∧ks.length≤60∧
 ∀(P' T':Addr)(e':Key)(ks':List Key)(H':Hp),au H H'→bL H' P' T' e' ks'→enK e'→(∀x∈ks',mkK x)→ks'.length=ks.length→Q (.ref P') H'
def pH (K:tx)(A:Adr):Sp:=fun vs H Q _=>∃(f b D o1 o2:Addr)(k1 k2:List Key)(g:gOp)(n:Nat),vs=[.ref b,.ref D,.ref o1,.ref o2]∧Stp A H f b (.pla D none) g n∧n≤40000∧H o1=some (.tup (k1.map kV))∧H o2=some (.tup (k2.map kV))∧okT k1=true∧okT k2=true∧
 ∀(al:Option (List Key×List Key))(g':gOp)(H':Hp),ba D H H'→Stp A H' f b (.pla D al) g' n→Sub g g'→Q .non H'
def fZ (h:List Key→Key)(ks:List (List Key)):Option (List Key×List Key)→Prop
 |none=>∀(j k:Nat) a b,j<k→ks[j]?=some a→ks[k]?=some b→h a=h b→a=b
 |some r=>∃j k:Nat,j<k∧ks[j]?=some r.1∧ks[k]?=some r.2∧r.1≠r.2∧h r.1=h r.2∧(∀(j' k':Nat) a b,j'<k'→k'<k→ks[j']?=some a→ks[k']?=some b→h a=h b→a=b)∧∀(j':Nat) a,j'<j→ks[j']?=some a→h a=h r.2→a=r.2
def wH (H:Hp):Option (List Key×List Key)→V→Prop
 |none,v=>v=.non
 |some r,v=>∃p a b:Addr,v=.ref p∧H p=some (.tup [.ref a,.ref b])∧H a=some (.tup (r.1.map kV))∧H b=some (.tup (r.2.map kV))∧okT r.1=true∧okT r.2=true
def pG (K:tx)(A:Adr):Sp:=fun vs H Q _=>∃(f b L:Addr)(d:Kd)(ps:List Addr)(ks:List (List Key))(g:gOp)(n:Nat),vs=[.ref f,.ref L]∧Stp A H f b d g n∧H L=some (.lst (ps.map V.ref))∧PK H ps ks∧ks.length≤900∧n≤40000∧
 ∀(v:V)(H':Hp)(g':gOp)(r:Option (List Key×List Key)),ba b H H'→Stp A H' f b d g' (n+ks.length)→Sub g g'→wH H' r v→(∀h:List Key→Key,Ext g' h→fZ h ks r)→Q v H'
def pO (K:tx)(A:Adr):Sp:=fun vs H Q _=>∃(f b L:Addr)(d:Kd)(ps:List Addr)(ks:List (List Key))(r:List Key×List Key)(v:V)(g:gOp)(n:Nat),vs=[.ref f,.ref L,v]∧Stp A H f b d g n∧H L=some (.lst (ps.map V.ref))∧PK H ps ks∧ks.length≤900∧n+10≤40000∧wH H (some r) v∧r.1∈ks∧r.2∈ks∧r.1≠r.2∧(∀h,Ext g h→h r.1=h r.2)∧
 ∀H',Q (.bl true) H'
def dm (c0 c1 p:Nat)(m0 m1 e0 e1:Key)(ks0 ks1:List Key):List Dat:=
 let h0:Dat:=.tup [.int (c0:Int),aY m0]
 let h1:Dat:=.tup [.int (c1:Int),aY m1]
 let q:Dat:=.int (p:Int)
 let k0:Dat:=.tup [aY e0,.tup (ks0.map aY)]
 let k1:Dat:=.tup [aY e1,.tup (ks1.map aY)]
 [.lst [h0,h1,q,k0,k1],.tup [h0,h1,q,k0],.tup [h0,h1,q,k0,k1,q],.non,.tup [.lst [.int (c0:Int),aY m0],h1,q,k0,k1],.tup [h0,h1,.non,k0,k1],.tup [h0,h1,q,k0,.non],.tup [.tup [.int (c0:Int),.int (10^59+1)],h1,q,k0,k1],
  .tup [h0,h1,q,.tup (ks1.map aY),k1],.tup [h0,.tup [.int ((c1:Int)+100),aY m1],q,k0,k1],.tup [h0,h1,.str (toString (p:Int)),k0,k1],.tup [],.tup [h0,h1,.bl true,k0,k1]]
def pd (K:tx)(A:Adr):Sp:=fun vs H Q _=>∃(z:Int)(X a0 a1 P0 T0 P1 T1:Addr)(c0 c1 p:Nat)(m0 m1 e0 e1:Key)(ks0 ks1:List Key),vs=[.int z,.ref X]∧H X=some (.tup [.ref a0,.ref a1,.int (p:Int),.ref P0,.ref P1])∧H a0=some (.tup [.int (c0:Int),kV m0])∧H a1=some (.tup [.int (c1:Int),kV m1])∧bL H P0 T0 e0 ks0∧bL H P1 T1 e1 ks1∧p≤1000∧
 ∀(v:V)(d:Dat)(H':Hp),au H H'→aH H' v d→d∈dm c0 c1 p m0 m1 e0 e1 ks0 ks1→Q v H'
def zJ (b D:Addr)(H H':Hp):Prop:=∀z o,z≠b→z≠D→H z=some o→H' z=some o
def pM (K:tx)(A:Adr):Sp:=fun vs H Q _=>∃(a f b hd W LP P T X b0 D0:Addr)(ns:List Int)(kd:Kd)(c p:Nat)(ks:List Key)(e mk:Key)(way:Int)(g:gOp)(n:Nat),vs=[.ref a,.ref f,.ref hd,.ref W,.ref LP,.ref X]∧SqL K H a (ns.map V.int)∧gj A H f b P T kd c (aS c p) ks e g n∧H hd=some (.tup [.int (c:Int),kV mk])∧H W=some (.lst ((aS c p).map V.int))∧H LP=some (.lst [.ref P])∧H X=some (.tup [.int way,.ref b0,.ref D0])∧(way<2→kd=.pla D0 none∧b=b0)∧n+1000≤40000∧
 ∀(P' T':Addr)(e':Key)(ks':List Key)(kd':Kd)(g':gOp)(H':Hp),zJ b D0 H H'→Stp A H' f b kd' g' (n+200)→Sub g g'→(¬way<2→kd'=kd)→bL H' P' T' e' ks'→enK e'→(∀x∈ks',mkK x)→ks'.length=ks.length→Q (.ref P') H'
def qb (K:tx)(A:Adr):Sp:=fun vs H Q _=>∃(a:Addr)(ns:List Int),vs=[.ref a]∧SqL K H a (ns.map V.int)∧ns.length≤63∧zV A H∧∀H',Q (.bl true) H'
def eE (K:tx)(A:Adr):L2.jB:=[(gb,uE K A),(gE,tI K A),(gL,uT K A),(gM,tz K A),(cZ,tK K A)]
def BQ (K:tx)(A:Adr):TE:=az (mB K A) (fun _=>E0) (ag (af 0) (am))
def BH (K:tx)(A:Adr):TE:=cf A.c_Numbers "number_of" (uR K A) (fun _=>E0) (af 1) (ag (af 0) (am))
def EF (K:tx)(A:Adr):TS:=ax (aC (tCB (ck K) (ag (af 0) (am))) (aw 1)) (ax (jC (fo K (af 0)) (aw 2) (bj (de K (tCB (eU) (ag (af 2) (ag (tC (.ty "str")) (am))))) (aC (tOp (bH K) (tOp (kU) (tC (.int 2)) (af 1)) (tCB (ck K) (ag (af 2) (am)))) (aw 1)) (aC (tOp (bH K) (tOp (kU) (tC (.int 2)) (af 1)) (af 2)) (aw 1)))) (aN (tOp (cY) (af 1) (af 3))))
def Ct (K:tx)(A:Adr):TS:=aN (tBM K "dict" nI (af 2) (ag (tBM K "dict" zM (af 3) (ag (af 0) (ag (af 0) (am)))) (ag (tOp (bH K) (tOp (kU) (af 1) (tCB (ck K) (ag (af 2) (am)))) (tC (.int 5))) (am))))
def Cs (K:tx)(A:Adr):TE:=tOp (yj K) (af 0) (af 1)
def Jy (K:tx)(A:Adr):TS:=aN (cy (tCB (eU) (ag (af 0) (ag (tC (.ty "int")) (am)))) (uj (tCB (eU) (ag (af 0) (ag (tC (.ty "bool")) (am))))))
def JY (K:tx)(A:Adr):TS:=ax (bj (de K (az (iz K A) (fun _=>E0) (ag (af 0) (am)))) (aN (fv (mLe) (mLt) (tC (.int 0)) (af 0) (tOp (nP) (tC (.int 10)) (tC (.int 60))))) (bf)) (aN (tCB (eU) (ag (af 0) (ag (tC (.ty "str")) (am)))))
def JU (K:tx)(A:Adr):TS:=ax (bj (dE (de K (tCB (eU) (ag (af 0) (ag (tC (.ty "tuple")) (am)))))) (aN (tC (.bl false))) (bf)) (ax (bj (dE (be (fv (mLe) (mLe) (tC (.int 1)) (tCB (ck K) (ag (af 0) (am))) (tC (.int 8))))) (aN (tC (.bl false))) (bf)) (aN (cy (tCB (eU) (ag (tOp (aD K) (af 0) (tC (.int 0))) (ag (tC (.ty "str")) (am)))) (tCB (zk) (ag (fh [] (fo K (af 0)) (fun _ H Q=>Q true H) (az (iE K A) (fun _=>E0) (ag (af 0) (am)))) (am))))))
def JK (K:tx)(A:Adr):TS:=ax (bj (de K (az (iz K A) (fun _=>E0) (ag (af 0) (am)))) (aN (mJ ((tZ (af 0))::(tC (.str ";"))::[]) MP)) (bf)) (ax (aC (tCB (ck K) (ag (af 0) (am))) (aw 1)) (aN (mJ ((tZ (af 1))::(tC (.str ":"))::(tZ (af 0))::[]) MP)))
def Kt (K:tx)(A:Adr):TS:=ax (bj (dE (de K (az (mL K A) (fun _=>E0) (ag (af 0) (am))))) (gl) (bf)) (aN (tBM K "str" uc (tC (.str "")) (ag (fh [] (fo K (af 0)) (fun _ H Q=>Q true H) (az (pC K A) (fun _=>E0) (ag (af 0) (am)))) (am))))
def T_2 (K:tx)(A:Adr):TS:=ax (bj (dE (de K (az (mL K A) (fun _=>E0) (ag (af 1) (am))))) (gl) (bf)) (ax (bj (be (tOp (fM K) (af 1) (fj K (af 0) "given"))) (aC (tCB (ck K) (ag (fj K (af 0) "given") (am))) (kM (fj K (af 0) "given") (af 1) ir)) (bf)) (aN (tOp (aD K) (fj K (af 0) "given") (af 1))))
def Ke (K:tx)(A:Adr):TS:=ax (bj (be (tOp (mLt) (af 1) (tCB (ck K) (ag (af 0) (am))))) (aN (tOp (aD K) (af 0) (af 1))) (bf)) (aN (tC (.int 0)))
def DI (K:tx)(A:Adr)(q0:Addr):TSM:=uq (pe (aC (lE A.t_29 ⟨232,4,239,37⟩ gL [q0]) (aw 1))) (qX (af 1))
def Cy (K:tx)(A:Adr):TSM:=qX (lE A.t_55 ⟨202,11,202,37⟩ gb [])
def T_1 (K:tx)(A:Adr):TS:=mW K (af 0) (gZ) "given"
def Dp (K:tx)(A:Adr)(q0:Addr):TSM:=uq (pe (aC (mE A.c_Numbers (uF K A) (fun _=>E0) (am)) (aw 0))) (qX (lE A.t_34 ⟨205,11,205,47⟩ gE [q0]))
def BZ (K:tx)(A:Adr)(q0 q1 q2:Addr):TSM:=uq (pe (aC (lE A.t_20 ⟨243,4,244,107⟩ gM [q2,q0,q1]) (aw 3))) (qX (af 3))
def JV (K:tx)(A:Adr):TS:=ax (bj (be (tOp (cD K) (af 0) (tC (.int 2)))) (aN (az (pN K A) (fun _=>E0) (ag (tOp (bH K) (tC (.int 1)) (tOp (cY) (af 1) (tC (.int 9)))) (am)))) (bf)) (ax (bj (uk (be (tOp (cD K) (af 0) (tC (.int 3)))) (be (tOp (cD K) (tOp (cY) (af 1) (tC (.int 3))) (tC (.int 0))))) (aN (az (pX K A) (fun _=>E0) am)) (bf)) (ax (bj (uk (be (tOp (cD K) (af 0) (tC (.int 3)))) (be (tOp (cD K) (tOp (cY) (af 1) (tC (.int 3))) (tC (.int 1))))) (aN (az (pL K A) (fun _=>E0) am)) (bf)) (aN (az (pc K A) (fun _=>E0) (ag (af 2) (ag (af 3) (ag (tOp (bH K) (tC (.int 1)) (tOp (cY) (af 1) (tC (.int 9)))) (am))))))))
def we (K:tx)(A:Adr):TS:=aN (tBM K "str" uc (tC (.str "")) (ag (fh [0,1] (pP (ag (tOp (cY) (af 0) (tC (.int 5))) (am))) (fun _ H Q=>Q true H) (tOp (aD K) (af 2) (tOp (cY) (tOp (bH K) (tOp (eu) (af 1) (tC (.int 5))) (tOp (kU) (af 0) (tOp (cY) (tOp (eu) (af 1) (tC (.int 470))) (tC (.int 7))))) (tC (.int 94))))) (am)))
def Ki (K:tx)(A:Adr):TS:=ax (aC (tC (.str " !\"#$&'()*+,-./0123456789:;<=>?@ABCDEFGHIJKLMNOPQRSTUVWXYZ[\\]^_`")) (aw 1)) (ax (aC (tOp (bH K) (af 1) (tC (.str "abcdefghijklmnopqrstuvwxyz{|}~"))) (aw 1)) (we K A))
def JW (K:tx)(A:Adr):TS:=ax (bj (be (tOp (cD K) (tOp (cY) (af 0) (tC (.int 4))) (tC (.int 0)))) (aN (az (pY K A) (fun _=>E0) (ag (tOp (eu) (af 0) (tC (.int 4))) (am)))) (bf)) (ax (bj (be (tOp (cD K) (tOp (cY) (af 0) (tC (.int 4))) (tC (.int 1)))) (aN (tOp (cY) (tOp (eu) (af 0) (tC (.int 4))) (tOp (nP) (tC (.int 10)) (tC (.int 60))))) (bf)) (aN (tOp (cY) (tOp (eu) (af 0) (tC (.int 4))) (tC (.int 7)))))
def T_3 (K:tx)(A:Adr):TS:=ax (mW K (af 0) (af 1) "stamper") (ax (mW K (af 0) (dX (am)) "entries") (mW K (af 0) (gZ) "tops"))
def T_4 (K:tx)(A:Adr):TS:=ax (bj (dE (de K (az (iE K A) (fun _=>E0) (ag (af 1) (am))))) (gl) (bf)) (ax (du (tBM K "list" df (fj K (af 0) "entries") (ag (af 1) (am)))) (aN (tOp (fe) (tCB (ck K) (ag (fj K (af 0) "entries") (am))) (tC (.int 1)))))
def T_9 (K:tx)(A:Adr):TS:=aN (tCB (ck K) (ag (fj K (af 0) "entries") (am)))
def IN (K:tx)(A:Adr):TS:=aN (cy (az (iz K A) (fun _=>E0) (ag (af 0) (am))) (fv (mLe) (mLt) (tC (.int 0)) (af 0) (tOp (qT) (tC (.int 1)) (tC (.int 60)))))
def Jj (K:tx)(A:Adr):TS:=aN (cy (az (lc K A) (fun _=>E0) (ag (af 0) (am))) (cy (az (iz K A) (fun _=>E0) (ag (af 1) (am))) (fv (mLe) (mLe) (tC (.int 0)) (af 1) (af 0))))
def T_5 (K:tx)(A:Adr):TS:=aN (cy (az (pf K A) (fun _=>E0) (ag (af 1) (ag (af 2) (am)))) (tOp (mLe) (af 1) (cf A.c_Row "size" (kI K A) (fun _=>E0) (af 0) am)))
def JA (K:tx)(A:Adr):TS:=aN (tOp (qT) (tC (.int 1)) (tOp (fe) (yx K "int" uP (tOp (fe) (af 0) (tC (.int 1)))) (tC (.int 1))))
def Kn (K:tx)(A:Adr)(n:Nat):TS:=ax (bj (be (tOp (cD K) (af 2) (tC (.int 0)))) (aN (bz (ag (tC (.str "void")) (am)))) (bf)) (ax (bj (be (tOp (cD K) (af 2) (tC (.int 1)))) (aN (bz (ag (tC (.str "entry")) (ag (tOp (aD K) (fj K (af 0) "entries") (af 1)) (am))))) (bf)) (ax (aC (az (lh K A) (fun _=>E0) (ag (af 2) (am))) (aw 3)) (aN (bz (ag (tC (.str "joint")) (ag (cf A.c_Row "top_of" (ft K A n) (fun _=>E0) (af 0) (ag (af 1) (ag (af 3) (am)))) (ag (cf A.c_Row "top_of" (ft K A n) (fun _=>E0) (af 0) (ag (tOp (bH K) (af 1) (af 3)) (ag (tOp (fe) (af 2) (af 3)) (am)))) (am))))))))
def Kf (K:tx)(A:Adr)(n:Nat):TS:=ax (aC (bz (ag (af 1) (ag (af 2) (am)))) (aw 3)) (ax (bj (be (tOp (fM K) (af 3) (fj K (af 0) "tops"))) (aC (qK (eE K A) A.c_Row "stamper" (fun _=>E0) (af 0) (ag (cf A.c_Row "top_term" (qf K A n) (fun _=>E0) (af 0) (ag (af 1) (ag (af 2) (am)))) (am))) (kM (fj K (af 0) "tops") (af 3) ir)) (bf)) (aN (tOp (aD K) (fj K (af 0) "tops") (af 3))))
def T_7 (K:tx)(A:Adr):TS:=ax (bj (dE (de K (cf A.c_Row "has_elder" (tN K A) (fun _=>E0) (af 0) (ag (cf A.c_Row "size" (kI K A) (fun _=>E0) (af 0) am) (ag (af 1) (am)))))) (gl) (bf)) (aN (qK (eE K A) A.c_Row "stamper" (fun _=>E0) (af 0) (ag (bz (ag (tC (.str "row")) (ag (af 1) (ag (cf A.c_Row "top_of" (ft K A 70) (fun _=>E0) (af 0) (ag (tC (.int 0)) (ag (af 1) (am)))) (am))))) (am))))
def IL (K:tx)(A:Adr):TS:=ax (aC (mE A.c_Row (tF K A) (fun _=>E0) (ag (af 0) (am))) (aw 3)) (ax (jC (fo K (af 1)) (aw 4) (ax (du (cf A.c_Row "add" (ux K A) (fun _=>E0) (af 3) (ag (af 4) (am)))) (aC (tC (.bl true)) (kM (af 2) (bz (ag (cf A.c_Row "size" (kI K A) (fun _=>E0) (af 3) am) (ag (cf A.c_Row "mark_at" (va K A) (fun _=>E0) (af 3) (ag (cf A.c_Row "size" (kI K A) (fun _=>E0) (af 3) am) (am))) (am)))) ir)))) (aN (af 3)))
def Kp (K:tx)(A:Adr):TS:=aN (cy (az (lc K A) (fun _=>E0) (ag (af 0) (am))) (cy (az (iz K A) (fun _=>E0) (ag (af 1) (am))) (fv (mLe) (mLt) (tC (.int 0)) (af 1) (af 0))))
def T_6 (K:tx)(A:Adr):TS:=aN (cy (az (mQ K A) (fun _=>E0) (ag (af 1) (ag (af 2) (am)))) (tOp (mLe) (af 1) (cf A.c_Row "size" (kI K A) (fun _=>E0) (af 0) am)))
def IQ (K:tx)(A:Adr):TS:=ax (aC (dX (am)) (aw 2)) (ax (aC (tC (.int 0)) (aw 3)) (ax (aC (af 1) (aw 4)) (ax (kf (be (tOp (mGt) (af 4) (tC (.int 1)))) (ax (aC (az (lh K A) (fun _=>E0) (ag (af 4) (am))) (aw 5)) (bj (be (tOp (mLt) (af 0) (tOp (bH K) (af 3) (af 5)))) (ax (du (tBM K "list" df (af 2) (ag (tC (.int 0)) (am)))) (aC (af 5) (aw 4))) (ax (du (tBM K "list" df (af 2) (ag (tC (.int 1)) (am)))) (ax (aC (tOp (bH K) (af 3) (af 5)) (aw 3)) (aC (tOp (fe) (af 4) (af 5)) (aw 4))))))) (aN (af 2)))))
def T_8 (K:tx)(A:Adr):TS:=ax (bj (dE (de K (cf A.c_Row "has_place" (tR K A) (fun _=>E0) (af 0) (ag (af 1) (ag (af 2) (am)))))) (gl) (bf)) (ax (aC (dX (am)) (aw 3)) (ax (aC (tC (.int 0)) (aw 4)) (ax (aC (af 1) (aw 5)) (ax (jC (fo K (az (lW K A) (fun _=>E0) (ag (af 2) (ag (af 1) (am))))) (aw 6) (ax (aC (az (lh K A) (fun _=>E0) (ag (af 5) (am))) (aw 7)) (bj (be (tOp (cD K) (af 6) (tC (.int 0)))) (ax (du (tBM K "list" df (af 3) (ag (cf A.c_Row "top_of" (ft K A 70) (fun _=>E0) (af 0) (ag (tOp (bH K) (af 4) (af 7)) (ag (tOp (fe) (af 5) (af 7)) (am)))) (am)))) (aC (af 7) (aw 5))) (ax (du (tBM K "list" df (af 3) (ag (cf A.c_Row "top_of" (ft K A 70) (fun _=>E0) (af 0) (ag (af 4) (ag (af 7) (am)))) (am)))) (ax (aC (tOp (bH K) (af 4) (af 7)) (aw 4)) (aC (tOp (fe) (af 5) (af 7)) (aw 5))))))) (aN (bz (ag (tOp (aD K) (fj K (af 0) "entries") (af 2)) (ag (tCB (wq K) (ag (af 3) (am))) (am)))))))))
def Ja (K:tx)(A:Adr):TS:=aN (cy (tCB (eU) (ag (af 0) (ag (tC (.ty "tuple")) (am)))) (cy (tOp (cD K) (tCB (ck K) (ag (af 0) (am))) (tC (.int 2))) (cy (az (lc K A) (fun _=>E0) (ag (tOp (aD K) (af 0) (tC (.int 0))) (am))) (az (iE K A) (fun _=>E0) (ag (tOp (aD K) (af 0) (tC (.int 1))) (am))))))
def Je (K:tx)(A:Adr):TS:=aN (cy (az (lY K A) (fun _=>E0) (ag (af 1) (am))) (fX (eE K A) (fun _=>E0) (af 0) (ag (af 1) (am))))
def Jt (K:tx)(A:Adr):TS:=bj (dE (de K (az (lY K A) (fun _=>E0) (ag (af 0) (am))))) (gl) (bf)
def JN (K:tx)(A:Adr):TS:=aN (cy (tCB (eU) (ag (af 1) (ag (tC (.ty "tuple")) (am)))) (cy (tOp (cD K) (tCB (ck K) (ag (af 1) (am))) (af 0)) (tCB (zk) (ag (fh [] (fo K (af 1)) (fun _ H Q=>Q true H) (az (iE K A) (fun _=>E0) (ag (af 0) (am)))) (am)))))
def JD (K:tx)(A:Adr):TS:=ax (bj (mOr (dE (de K (tCB (eU) (ag (af 1) (ag (tC (.ty "tuple")) (am)))))) (be (tOp (gB K) (tCB (ck K) (ag (af 1) (am))) (tC (.int 2))))) (aN (tC (.bl false))) (bf)) (aN (cy (az (iE K A) (fun _=>E0) (ag (tOp (aD K) (af 1) (tC (.int 0))) (am))) (az (pK K A) (fun _=>E0) (ag (tCB (ck K) (ag (af 0) (am))) (ag (tOp (aD K) (af 1) (tC (.int 1))) (am))))))
def JB (K:tx)(A:Adr):TS:=aN (mIf (be (tOp (cD K) (af 0) (tC (.int 0)))) (bz (ag (tC (.str "joint")) (ag (af 1) (ag (af 2) (am))))) (bz (ag (tC (.str "joint")) (ag (af 2) (ag (af 1) (am))))))
def BY (K:tx)(A:Adr)(E:XK):TS:=ax (bj (dE (de K (az (mQ K A) (fun _=>E0) (ag (af 1) (ag (af 2) (am)))))) (qq A.c_NoPlace (fun _=>E)) (bf)) (ax (aC (az (lW K A) (fun _=>E0) (ag (af 2) (ag (af 1) (am)))) (aw 4)) (ax (bj (dE (de K (az (qg K A) (fun _=>E0) (ag (af 4) (ag (af 3) (am)))))) (qq A.c_NoPaper (fun _=>E)) (bf)) (ax (aC (dX (ag (bz (ag (tC (.str "entry")) (ag (tOp (aD K) (af 3) (tC (.int 0))) (am)))) (am))) (aw 5)) (ax (jC (Aa K (ag (tCB (rp K) (ag (af 4) (ag (tOp (aD K) (af 3) (tC (.int 1))) (am)))) (am))) (aw 6) (du (tBM K "list" df (af 5) (ag (az (pS K A) (fun _=>E0) (ag (tOp (aD K) (af 6) (tC (.int 0))) (ag (fX (eE K A) (fun _=>E0) (af 0) (ag (tOp (aD K) (af 5) (tUn fT (tC (.int 1)))) (am))) (ag (tOp (aD K) (af 6) (tC (.int 1))) (am))))) (am))))) (ax (du (tBM K "list" df (af 5) (ag (bz (ag (tC (.str "row")) (ag (af 1) (ag (fX (eE K A) (fun _=>E0) (af 0) (ag (tOp (aD K) (af 5) (tUn fT (tC (.int 1)))) (am))) (am))))) (am)))) (aN (af 5)))))))
def Df (K:tx)(A:Adr)(E:XK):TS:=aN (fX (eE K A) (fun _=>E0) (af 0) (ag (tOp (aD K) (az (jo K A) (fun _=>E) (ag (af 0) (ag (af 1) (ag (af 2) (ag (af 3) (am)))))) (tUn fT (tC (.int 1)))) (am)))
def T_0 (K:tx)(A:Adr):TS:=ax (sZ K A.c_Broken (af 0) (af 1) "due") (sZ K A.c_Broken (af 0) (af 2) "came")
def DV (K:tx)(A:Adr)(E:XK):TS:=ax (du (az (pb K A) (fun _=>E0) (ag (af 1) (am)))) (ax (aC (az (qa K A) (fun _=>E) (ag (af 0) (ag (tOp (aD K) (af 1) (tC (.int 0))) (ag (af 2) (ag (af 3) (am)))))) (aw 4)) (ax (bj (be (tOp (gB K) (af 4) (tOp (aD K) (af 1) (tC (.int 1))))) (sR A.c_Broken (uY K A) (fun _=>E) (ag (tOp (aD K) (af 1) (tC (.int 1))) (ag (af 4) (am)))) (bf)) (aN (tOp (aD K) (af 3) (tC (.int 0))))))
def JC (K:tx)(A:Adr):TS:=Ec K (fun EH=>aN (az (ph K A) EH (ag (af 0) (ag (af 1) (ag (af 2) (ag (af 3) (am))))))) (Dw K A.c_StampError (aN (tC .non)) (zW)) (bf)
def Jg (K:tx)(A:Adr):TS:=ax (bj (mOr (dE (de K (tCB (eU) (ag (af 2) (ag (tC (.ty "tuple")) (am)))))) (be (tOp (gB K) (tCB (ck K) (ag (af 2) (am))) (tC (.int 5))))) (aN (tC (.bl false))) (bf)) (ax (bj (mOr (dE (de K (az (my K A) (fun _=>E0) (ag (af 1) (ag (tOp (aD K) (af 2) (tC (.int 0))) (am)))))) (dE (de K (az (my K A) (fun _=>E0) (ag (af 1) (ag (tOp (aD K) (af 2) (tC (.int 1))) (am))))))) (aN (tC (.bl false))) (bf)) (ax (aC (az (ma K A) (fun _=>E0) (ag (af 0) (ag (tOp (aD K) (af 2) (tC (.int 0))) (ag (tOp (aD K) (af 2) (tC (.int 2))) (ag (tOp (aD K) (af 2) (tC (.int 3))) (am)))))) (aw 3)) (ax (aC (az (ma K A) (fun _=>E0) (ag (af 0) (ag (tOp (aD K) (af 2) (tC (.int 1))) (ag (tOp (aD K) (af 2) (tC (.int 2))) (ag (tOp (aD K) (af 2) (tC (.int 4))) (am)))))) (aw 4)) (aN (cy (tOp (gH) (af 3) (tC .non)) (cy (tOp (gH) (af 4) (tC .non)) (tOp (gB K) (af 3) (af 4))))))))
def Jk (K:tx)(A:Adr)(q0:Addr):TA:=ag (af 0) (ag (lE A.t_23 ⟨329,37,329,79⟩ cZ [q0]) (ag (af 2) (am)))
def JI (K:tx)(A:Adr):TS:=ax (aC (dX (am)) (aw 2)) (ax (aC (tOp (qT) (tC (.int 1)) (tC (.int 60))) (aw 3)) (ax (kf (be (tOp (mGt) (af 1) (tC (.int 1)))) (ax (kf (be (tOp (mGe) (af 3) (af 1))) (aC (tOp (eu) (af 3) (tC (.int 2))) (aw 3))) (ax (du (tBM K "list" df (af 2) (ag (tCB (um) (ag (tOp (mGe) (af 0) (af 3)) (am))) (am)))) (bj (be (tOp (mGe) (af 0) (af 3))) (ax (aC (tOp (fe) (af 0) (af 3)) (aw 0)) (aC (tOp (fe) (af 1) (af 3)) (aw 1))) (aC (af 3) (aw 1)))))) (aN (af 2))))
def IH (K:tx)(A:Adr):TS:=ax (bj (de K (tCB (eU) (ag (af 0) (ag (tC (.ty "str")) (am))))) (aN (tOp (uC) (tOp (aD K) (dX (ag (tC (.str "z")) (ag (tC (.str "y")) (am)))) (tCB (um) (ag (tOp (cD K) (tSl (nw K) (af 0) (gN) (ip (tC (.int 1)))) (tC (.str "z"))) (am)))) (tCB (ck K) (ag (af 0) (am))))) (bf)) (aN (tOp (cY) (tOp (bH K) (af 0) (tC (.int 2520))) (tOp (nP) (tC (.int 10)) (tC (.int 60)))))
def wL (K:tx)(A:Adr):TS:=aN (bz (ag (az (jE K A) (fun _=>E0) (ag (af 3) (am))) (ag (tOp (bH K) (tOp (bH K) (tSl (nw K) (af 4) (gN) (ip (af 5))) (bz (ag (af 6) (am)))) (tSl (nw K) (af 4) (ip (tOp (bH K) (af 5) (tC (.int 1)))) (gN))) (am))))
def II (K:tx)(A:Adr):TS:=ax (aC (af 2) (kq K 2 (cg (aw 3) (cg (aw 4) ki)))) (ax (bj (be (tOp (mLt) (af 0) (tC (.int 3)))) (aN (bz (ag (az (jE K A) (fun _=>E0) (ag (af 3) (am))) (ag (af 4) (am))))) (bf)) (ax (bj (mOr (be (tOp (cD K) (af 0) (tC (.int 3)))) (be (tOp (cD K) (tCB (ck K) (ag (af 4) (am))) (tC (.int 0))))) (aN (bz (ag (az (jw K A) (fun _=>E0) (ag (af 1) (am))) (ag (af 4) (am))))) (bf)) (ax (bj (be (tOp (cD K) (af 0) (tC (.int 4)))) (aN (bz (ag (az (jE K A) (fun _=>E0) (ag (af 3) (am))) (ag (tCB (sr K) (ag (af 4) (am))) (am))))) (bf)) (ax (aC (tOp (cY) (af 1) (tCB (ck K) (ag (af 4) (am)))) (aw 5)) (ax (aC (az (jE K A) (fun _=>E0) (ag (tOp (aD K) (af 4) (af 5)) (am))) (aw 6)) (ax (bj (be (tOp (cD K) (af 0) (tC (.int 5)))) (aC (az (jw K A) (fun _=>E0) (ag (tOp (eu) (af 1) (tC (.int 60))) (am))) (aw 6)) (bf)) (wL K A)))))))
def Kq (K:tx)(A:Adr):TS:=ax (aC (dX (ag (bz (ag (tC (.str "entry")) (ag (tOp (aD K) (af 3) (tC (.int 0))) (am)))) (am))) (aw 5)) (ax (jC (pP (ag (af 4) (am))) (aw 6) (ax (aC (fX (eE K A) (fun _=>E0) (af 0) (ag (tOp (aD K) (af 5) (tUn fT (tC (.int 1)))) (am))) (aw 7)) (bj (be (tOp (cD K) (af 6) (tCB (ck K) (ag (af 2) (am))))) (du (tBM K "list" df (af 5) (ag (bz (ag (tC (.str "row")) (ag (af 1) (ag (af 7) (am))))) (am)))) (bj (be (tOp (cD K) (tOp (aD K) (af 2) (tOp (fe) (tUn fT (tC (.int 1))) (af 6))) (tC (.int 1)))) (du (tBM K "list" df (af 5) (ag (bz (ag (tC (.str "joint")) (ag (tOp (aD K) (tOp (aD K) (af 3) (tC (.int 1))) (tOp (fe) (tUn fT (tC (.int 1))) (af 6))) (ag (af 7) (am))))) (am)))) (du (tBM K "list" df (af 5) (ag (bz (ag (tC (.str "joint")) (ag (af 7) (ag (tOp (aD K) (tOp (aD K) (af 3) (tC (.int 1))) (tOp (fe) (tUn fT (tC (.int 1))) (af 6))) (am))))) (am)))))))) (aN (af 5)))
def JF (K:tx)(A:Adr):TS:=bj (be (tOp (fM K) (af 2) (af 0))) (aC (af 3) (kM (af 1) (af 2) ir)) (bf)
def Eh (K:tx)(A:Adr):TS:=aN (af 10)
def wu (K:tx)(A:Adr):TS:=ax (bj (be (tOp (mLt) (af 6) (tC (.int 2)))) (ax (aC (tOp (aD K) (az (jl K A) (fun _=>E0) (ag (af 1) (ag (tOp (aD K) (af 2) (tC (.int 0))) (ag (af 3) (ag (tOp (aD K) (af 4) (tC (.int 0))) (ag (af 11) (am))))))) (tUn fT (tC (.int 1)))) (aw 12)) (ax (aC (tOp (aD K) (az (jl K A) (fun _=>E0) (ag (af 1) (ag (tOp (aD K) (af 2) (tC (.int 0))) (ag (af 3) (ag (af 10) (ag (af 11) (am))))))) (tUn fT (tC (.int 1)))) (aw 13)) (du (az (pH K A) (fun _=>E0) (ag (af 7) (ag (af 8) (ag (af 13) (ag (af 12) (am))))))))) (bf)) (Eh K A)
def Jx (K:tx)(A:Adr):TS:=ax (aC (af 5) (kq K 3 (cg (aw 6) (cg (aw 7) (cg (aw 8) ki))))) (ax (aC (az (eO K A) (fun _=>E0) (ag (af 0) (ag (tC (.int 6)) (am)))) (aw 9)) (ax (aC (az (pZ K A) (fun _=>E0) (ag (tOp (cY) (af 9) (tC (.int 7))) (ag (tOp (eu) (af 9) (tC (.int 7))) (ag (tOp (aD K) (af 4) (tC (.int 0))) (am))))) (aw 10)) (ax (aC (tOp (cY) (az (eO K A) (fun _=>E0) (ag (af 0) (ag (tC (.int 7)) (am)))) (tOp (bH K) (tCB (ck K) (ag (af 3) (am))) (tC (.int 2)))) (aw 11)) (wu K A))))
def Jq (K:tx)(A:Adr):TS:=ax (aC (af 1) (kq K 5 (cg (aw 2) (cg (aw 3) (cg (aw 4) (cg (aw 5) (cg (aw 6) ki))))))) (ax (aC (dX (ag (tCB (pU K) (ag (af 1) (am))) (ag (tSl (nw K) (af 1) (gN) (ip (tC (.int 4)))) (ag (tOp (bH K) (af 1) (bz (ag (af 4) (am)))) (ag (tC .non) (ag (bz (ag (tCB (pU K) (ag (af 2) (am))) (ag (af 3) (ag (af 4) (ag (af 5) (ag (af 6) (am))))))) (am))))))) (aw 7)) (ax (aC (tOp (bH K) (af 7) (dX (ag (bz (ag (af 2) (ag (af 3) (ag (tC .non) (ag (af 5) (ag (af 6) (am))))))) (ag (bz (ag (af 2) (ag (af 3) (ag (af 4) (ag (af 5) (ag (tC .non) (am))))))) (am))))) (aw 7)) (ax (aC (tOp (bH K) (af 7) (dX (ag (bz (ag (bz (ag (tOp (aD K) (af 2) (tC (.int 0))) (ag (tOp (bH K) (tOp (nP) (tC (.int 10)) (tC (.int 59))) (tC (.int 1))) (am)))) (ag (af 3) (ag (af 4) (ag (af 5) (ag (af 6) (am))))))) (ag (bz (ag (af 2) (ag (af 3) (ag (af 4) (ag (tOp (aD K) (af 6) (tC (.int 1))) (ag (af 6) (am))))))) (am))))) (aw 7)) (ax (aC (tOp (bH K) (af 7) (dX (ag (bz (ag (af 2) (ag (bz (ag (tOp (bH K) (tOp (aD K) (af 3) (tC (.int 0))) (tC (.int 100))) (ag (tOp (aD K) (af 3) (tC (.int 1))) (am)))) (ag (af 4) (ag (af 5) (ag (af 6) (am))))))) (ag (bz (ag (af 2) (ag (af 3) (ag (tCB (zm) (ag (af 4) (am))) (ag (af 5) (ag (af 6) (am))))))) (ag (bz (am)) (am)))))) (aw 7)) (ax (aC (tOp (bH K) (af 7) (dX (ag (bz (ag (af 2) (ag (af 3) (ag (tC (.bl true)) (ag (af 5) (ag (af 6) (am))))))) (am)))) (aw 7)) (aN (tOp (aD K) (af 7) (tOp (cY) (af 0) (tC (.int 13))))))))))
def Kx (K:tx)(A:Adr):TS:=ax (bj (mOr (dE (de K (tCB (eU) (ag (af 2) (ag (tC (.ty "tuple")) (am)))))) (mOr (be (tOp (gB K) (tCB (ck K) (ag (af 2) (am))) (tC (.int 2)))) (be (tOp (cD K) (tOp (aD K) (af 2) (tC (.int 0))) (tOp (aD K) (af 2) (tC (.int 1))))))) (aN (tC (.bl false))) (bf)) (ax (bj (mOr (be (tOp (fM K) (tOp (aD K) (af 2) (tC (.int 0))) (af 1))) (be (tOp (fM K) (tOp (aD K) (af 2) (tC (.int 1))) (af 1)))) (aN (tC (.bl false))) (bf)) (aN (tOp (cD K) (fX (eE K A) (fun _=>E0) (af 0) (ag (tOp (aD K) (af 2) (tC (.int 0))) (am))) (fX (eE K A) (fun _=>E0) (af 0) (ag (tOp (aD K) (af 2) (tC (.int 1))) (am))))))
def IU (K:tx)(A:Adr):TS:=ax (aC (gZ) (aw 2)) (ax (jC (fo K (af 1)) (aw 3) (ax (aC (tBM K "dict" nI (af 2) (ag (fX (eE K A) (fun _=>E0) (af 0) (ag (af 3) (am))) (ag (af 3) (am)))) (aw 4)) (bj (be (tOp (gB K) (af 4) (af 3))) (aN (bz (ag (af 4) (ag (af 3) (am))))) (bf)))) (aN (tC .non)))
def AZ (K:tx)(A:Adr):TS:=aN (cy (tOp (mLt) (af 1) (tC (.int 3))) (az (pO K A) (fun _=>E0) (ag (af 4) (ag (af 18) (ag (az (pG K A) (fun _=>E0) (ag (af 4) (ag (af 18) (am)))) (am))))))
def rY (K:tx)(A:Adr):TS:=ax (bj (dE (de K (af 17))) (aN (tC (.bl true))) (bf)) (AZ K A)
def rX (K:tx)(A:Adr):TS:=ax (jC (fo K (dX (ag (af 19) (ag (bz (ag (tOp (aD K) (af 8) (tC (.int 0))) (ag (tOp (aD K) (af 8) (tC (.int 1))) (ag (af 9) (ag (tOp (aD K) (af 10) (tC (.int 0))) (ag (tOp (aD K) (af 10) (tC (.int 1))) (am))))))) (am))))) (aw 20) (ax (aC (az (jg K A) (fun _=>E0) (ag (af 4) (ag (af 6) (ag (af 20) (am))))) (aw 21)) (bj (mOr (dE (de K (tCB (eU) (ag (af 21) (ag (tC (.ty "bool")) (am)))))) (be (tOp (gB K) (af 21) (af 17)))) (aN (tC (.bl false))) (bf)))) (rY K A)
def sj (K:tx)(A:Adr):TS:=ax (aC (bz (ag (af 12) (ag (af 16) (am)))) (kM (af 8) (af 11) ir)) (rX K A)
def rT (K:tx)(A:Adr):TS:=ax (bj (be (tOp (gH) (az (jg K A) (fun _=>E0) (ag (af 4) (ag (af 6) (ag (az (pd K A) (fun _=>E0) (ag (az (eO K A) (fun _=>E0) (ag (af 0) (ag (tC (.int 8)) (am)))) (ag (af 19) (am)))) (am))))) (tC (.bl false)))) (aN (tC (.bl false))) (bf)) (sj K A)
def sO (K:tx)(A:Adr):TS:=ax (aC (bz (ag (tOp (aD K) (af 8) (tC (.int 0))) (ag (tOp (aD K) (af 8) (tC (.int 1))) (ag (af 9) (ag (tOp (aD K) (af 10) (tC (.int 0))) (ag (tOp (aD K) (af 10) (tC (.int 1))) (am))))))) (aw 19)) (rT K A)
def rV (K:tx)(A:Adr):TS:=ax (aC (af 15) (kM (af 10) (af 11) ir)) (sO K A)
def AE (K:tx)(A:Adr):TS:=ax (aC (tOp (bH K) (af 18) (az (jo K A) (fun _=>E0) (ag (af 4) (ag (af 12) (ag (af 9) (ag (tOp (aD K) (af 10) (af 11)) (am))))))) (aw 18)) (rV K A)
def rQ (K:tx)(A:Adr):TS:=ax (aC (az (jo K A) (fun _=>E0) (ag (af 4) (ag (af 12) (ag (af 9) (ag (af 15) (am)))))) (aw 18)) (AE K A)
def sQ (K:tx)(A:Adr):TS:=ax (aC (cy (tOp (cD K) (af 16) (af 13)) (tOp (gB K) (tOp (aD K) (af 15) (tC (.int 0))) (tOp (aD K) (af 5) (af 9)))) (aw 17)) (rQ K A)
def rW (K:tx)(A:Adr):TS:=ax (aC (fX (eE K A) (fun _=>E0) (af 4) (ag (tOp (aD K) (az (jl K A) (fun _=>E0) (ag (af 4) (ag (af 12) (ag (af 14) (ag (af 15) (ag (tOp (bH K) (tCB (ck K) (ag (af 14) (am))) (tC (.int 1))) (am))))))) (tUn fT (tC (.int 1)))) (am))) (aw 16)) (sQ K A)
def sw (K:tx)(A:Adr):TS:=ax (aC (az (pM K A) (fun _=>E0) (ag (af 0) (ag (af 4) (ag (tOp (aD K) (af 8) (af 11)) (ag (af 14) (ag (dX (ag (tOp (aD K) (af 10) (af 11)) (am))) (ag (bz (ag (af 1) (ag (af 2) (ag (af 3) (am))))) (am)))))))) (aw 15)) (rW K A)
def AX (K:tx)(A:Adr):TS:=ax (aC (az (qh K A) (fun _=>E0) (ag (af 9) (ag (af 12) (am)))) (aw 14)) (sw K A)
def sU (K:tx)(A:Adr):TS:=ax (aC (tOp (aD K) (af 8) (af 11)) (kq K 2 (cg (aw 12) (cg (aw 13) ki)))) (AX K A)
def Bm (K:tx)(A:Adr):TS:=ax (aC (tOp (cY) (az (eO K A) (fun _=>E0) (ag (af 0) (ag (tC (.int 5)) (am)))) (tC (.int 2))) (aw 11)) (sU K A)
def se (K:tx)(A:Adr):TS:=ax (bj (be (tOp (gH) (az (jg K A) (fun _=>E0) (ag (af 4) (ag (af 6) (ag (bz (ag (tOp (aD K) (af 8) (tC (.int 0))) (ag (tOp (aD K) (af 8) (tC (.int 1))) (ag (af 9) (ag (tOp (aD K) (af 10) (tC (.int 0))) (ag (tOp (aD K) (af 10) (tC (.int 1))) (am))))))) (am))))) (tC (.bl false)))) (aN (tC (.bl false))) (bf)) (Bm K A)
def rf (K:tx)(A:Adr):TS:=ax (aC (fh [7,9] (fo K (af 8)) (fun _ H Q=>Q true H) (cf A.c_Row "place_paper" (tH K A) (fun _=>E0) (af 1) (ag (tOp (aD K) (af 0) (tC (.int 0))) (ag (af 2) (am))))) (aw 10)) (se K A)
def DW (K:tx)(A:Adr):TS:=ax (aC (tOp (cY) (az (eO K A) (fun _=>E0) (ag (af 0) (ag (tC (.int 4)) (am)))) (tCB (yo) (ag (tOp (aD K) (tOp (aD K) (af 8) (tC (.int 0))) (tC (.int 0))) (ag (tOp (aD K) (tOp (aD K) (af 8) (tC (.int 1))) (tC (.int 0))) (am))))) (aw 9)) (rf K A)
def wo (K:tx)(A:Adr):TS:=ax (aC (fh [0,5,6] (uI (ag (tC (.int 2)) (ag (tC (.int 4)) (am)))) (fun _ H Q=>Q true H) (tOp (aD K) (tCB (vH K) (ag (af 3) (am))) (tOp (cY) (az (eO K A) (fun _=>E0) (ag (af 1) (ag (af 0) (am)))) (tCB (ck K) (ag (af 2) (am)))))) (aw 8)) (DW K A)
def Kl (K:tx)(A:Adr):TS:=ax (aC (tOp (cY) (az (eO K A) (fun _=>E0) (ag (af 0) (ag (tC (.int 0)) (am)))) (tC (.int 4))) (aw 1)) (ax (aC (gZ) (aw 2)) (ax (aC (gZ) (aw 3)) (ax (aC (az (pE K A) (fun _=>E0) (ag (af 1) (ag (tOp (eu) (az (eO K A) (fun _=>E0) (ag (af 0) (ag (tC (.int 0)) (am)))) (tC (.int 4))) (ag (af 2) (ag (af 3) (am)))))) (aw 4)) (ax (aC (fh [] (fo K (tOp (bH K) (dX (ag (az (eO K A) (fun _=>E0) (ag (af 0) (ag (tC (.int 1)) (am)))) (am))) (tSl (nw K) (af 0) (ip (tC (.int 12))) (ip (tC (.int 40)))))) (fun _ H Q=>Q true H) (az (jw K A) (fun _=>E0) (ag (af 0) (am)))) (aw 5)) (ax (aC (gZ) (aw 6)) (ax (aC (az (pV K A) (fun _=>E0) (ag (af 4) (ag (af 5) (ag (af 6) (am))))) (aw 7)) (wo K A)))))))
variable {K:tx}{mg:Str→Option Gt}{A:Adr}
def tyD:Dat→String
 |.non=>"NoneType"
 |.bl _=>"bool"
 |.int _=>"int"
 |.str _=>"str"
 |.lst _=>"list"
 |.tup _=>"tuple"
 |.dic=>"dict"
theorem aH.ty {H:Hp}{v:V}{d:Dat}(h:aH H v d):tyN H v=some (tyD d):=by
 cases h with
 |lst e _=>unfold tyN;dsimp only;rw[e];rfl
 |tup e _=>unfold tyN;dsimp only;rw[e];rfl
 |dic e=>unfold tyN;dsimp only;obtain⟨kvs,e⟩:=e;rw[e];rfl
 |_=>rfl
theorem CD {z:Str}(h:cv z=true):OZ z=true:=by
 unfold OZ
 unfold cv at h
 rw[Tc]at h⊢
 intro i hi
 have:=of_decide_eq_true (h i hi)
 exact decide_eq_true (by omega)
theorem DatWs.len {H:Hp}:∀{xs:List V}{ds:List Dat},DatWs H xs ds→xs.length=ds.length
 |_,_,.nil=>rfl
 |_,_,.cons _ r=>by rw[LO,LO,r.len]
theorem DatWs.get {H:Hp}:∀{xs:List V}{ds:List Dat},DatWs H xs ds→∀{i:Nat}{x:V},xs[i]? =some x→∃d,ds[i]? =some d∧aH H x d
 |_,_,.nil,i,x,e=>by cases e
 |_,_,.cons a r,i,x,e=>by
  cases i with
  |zero=>cases e;exact⟨_,rfl,a⟩
  |succ i=>exact r.get e
mutual
theorem aH.mono {H H':Hp}{v:V}{d:Dat}(s:au H H')(h:aH H v d):aH H' v d:=by
 cases h with
 |non=>exact .non
 |bl b=>exact .bl b
 |int i=>exact .int i
 |str z=>exact .str z
 |lst e r=>exact .lst (s _ _ e) (DatWs.mono s r)
 |tup e r=>exact .tup (s _ _ e) (DatWs.mono s r)
 |dic e=>exact(let ⟨k,e⟩:=e;.dic ⟨k,s _ _ e⟩)
theorem DatWs.mono {H H':Hp}{xs:List V}{ds:List Dat}(s:au H H')(h:DatWs H xs ds):DatWs H' xs ds:=by
 cases h with
 |nil=>exact .nil
 |cons a r=>exact .cons (aH.mono s a) (DatWs.mono s r)
end
theorem ixT {K:tx}{H:Hp}{Q:VK}{a:Addr}{xs:List V}{x:V}{i:Int}{j:Nat}(ha:H a=some (.tup xs))(e:i=j)(hx:xs[j]?=some x)(q:Q x H):aD K (.ref a) (.int i) H Q:=by
 subst e
 refine .inl (.inr (.inl ⟨a,xs,j,x,rfl,rfl,SqT.of ha,?_,q⟩))
 have hj:=(KC.mp hx).1
 rw[qY (by omega) (by omega)]
 simp[Lb,hx]
theorem BS (K:tx)(A:Adr):Ln (iz K A) 1:=by rintro vs H Q E ⟨v,d,rfl,_⟩;rfl
theorem HE (T:Txt K mg A)(vs:List V)(H:Hp)(Q:VK)(E:XK)(h:iz K A vs H Q E):Jy K A {nx:=fun _ H'=>Q .non H',rt:=Q} (start ["thing"] vs) H:=by
 obtain⟨v,d,rfl,w,q⟩:=h
 refine⟨by decide,_,w.ty,?_⟩
 cases d
 case int i=>exact Sel.yes rfl ⟨by decide,_,w.ty,q⟩
 case bl b=>exact Sel.yes rfl ⟨by decide,_,w.ty,q⟩
 all_goals exact Sel.no rfl q
theorem Cd (K:tx)(A:Adr):Ln (iE K A) 1:=by rintro vs H Q E ⟨v,d,rfl,_⟩;rfl
theorem FG (T:Txt K mg A)(vs:List V)(H:Hp)(Q:VK)(E:XK)(h:iE K A vs H Q E):JY K A {nx:=fun _ H'=>Q .non H',rt:=Q} (start ["thing"] vs) H:=by
 obtain⟨v,d,rfl,w,q⟩:=h
 refine⟨v,d,rfl,w,?_⟩
 cases w with
 |int i=>
  refine Sel.yes rfl (Sel.dec (fun h0=>⟨⟨by decide,by decide,by decide⟩,?_⟩) (fun h0=>?_))
  ·show Q (.bl (decide (i<10^((60:Int).toNat)))) H
   have e:bp (.int i)=decide (i<10^((60:Int).toNat)):=by
    show decide (0≤i∧i<10^60)=decide (i<10^60)
    by_cases h1:i<10^60
    ·rw[decide_eq_true h1,decide_eq_true ⟨h0,h1⟩]
    ·rw[decide_eq_false h1,decide_eq_false fun z=>h1 z.2]
   rw[←e];exact q
  ·have e:bp (.int i)=false:=decide_eq_false fun z=>h0 z.1
   rw[←e];exact q
 |non=>exact Sel.no rfl ⟨by decide,_,rfl,q⟩
 |bl b=>exact Sel.no rfl ⟨by decide,_,rfl,q⟩
 |str z=>exact Sel.no rfl ⟨by decide,_,rfl,q⟩
 |lst e r=>exact Sel.no rfl ⟨by decide,_,(aH.lst e r).ty,q⟩
 |tup e r=>exact Sel.no rfl ⟨by decide,_,(aH.tup e r).ty,q⟩
 |dic e=>exact Sel.no rfl ⟨by decide,_,(aH.dic e).ty,q⟩
theorem oM {x y:Str}(h1:cv x=true)(h2:cv y=true):cv (x++y)=true:=by
 unfold cv at h1 h2⊢
 show(x.cps++y.cps).all _=true
 rw[Array.all_append,h1,h2];rfl
theorem CM (H:Hp)(m:Key):aH H (kV m) (aY m):=by cases m<;>constructor
theorem qU {K:tx}{H:Hp}{Q:VK}{a b:Key}(q:Q (.bl (decide (a=b))) H):cD K (kV a) (kV b) H Q:=by
 cases a<;>cases b
 ·rename_i i j
  have e:decide ((NH i:Key)=NH j)=decide (i=j):=by simp
  rw[e]at q;exact q
 ·have e:∀(i:Int)(j:Str),decide ((NH i:Key)=NA j)=false:=by simp
  rw[e]at q;exact q
 ·have e:∀(i:Int)(j:Str),decide ((NA j:Key)=NH i)=false:=by simp
  rw[e]at q;exact q
 ·rename_i i j
  have e:decide ((NA i:Key)=NA j)=decide (i=j):=by simp
  rw[e]at q;exact q
theorem Ck {H:Hp}{ps:List Addr}{ts:List (List Key)}(h:PK H ps ts):∀{i:Nat}{t:List Key},ts[i]? =some t→∃p,ps[i]? =some p∧H p=some (.tup (t.map kV))∧okT t=true:=by
 induction h with
 |nil=>intro i t e;cases e
 |cons r _ ih=>
  intro i t e
  cases i with
  |zero=>cases e;exact⟨_,rfl,r⟩
  |succ i=>exact ih e
theorem iS {H:Hp}{ps:List Addr}{ts:List (List Key)}(h:PK H ps ts):ps.length=ts.length:=Paired.length h
theorem ng {k:List Key}(h:okT k=true):1≤k.length∧k.length≤8:=by
 unfold okT at h
 simp only[Lq]at h
 exact of_decide_eq_true h.1.1
theorem dy {k:List Key}(h:okT k=true):k.all okP=true:=by
 unfold okT at h
 rw[Lq]at h
 exact h.2
theorem lf {k:List Key}{x:Key}(h:okT k=true)(hx:x∈k):okP x=true:=Mc.mp (dy h) x hx
theorem yt {k:List Key}(h:okT k=true):∃z r,k=.inr z::r:=by
 unfold okT at h
 simp only[Lq]at h
 cases k with
 |nil=>cases h.1.2
 |cons x r=>
  cases x with
  |inl i=>cases h.1.2
  |inr z=>exact⟨z,r,rfl⟩
theorem zn {x:Key}(h:okP x=true):bp (aY x)=true:=by
 cases x with
 |inl i=>exact h
 |inr z=>rfl
theorem kg {i:Int}(h0:0≤i)(h1:i<10^60):i.natAbs.log2<1920:=by
 by_cases e:i.natAbs=0
 ·rw[e];decide
 ·refine(SZ e).mpr ?_
  have:i.natAbs<10^60:=by omega
  exact KU this (by decide+kernel)
theorem gJ {i:Int}(h0:0≤i)(h1:i<10^60):((toString i:String):Str).length≤61:=by
 have:i.natAbs<10^60:=by omega
 have:=int_text_length_le10 (k:=60) (by decide) this
 show(Mf _).length≤_
 rw[RO];exact this
theorem iT (s:String)(h:s.length=1:=by rfl):(s:Str).length=1:=by
 show(Mf s).length=1
 rw[RO];exact h
theorem oK {x:Key}(h:okP x=true):(cN x).length≤szK x:=by
 cases x with
 |inl i=>
  have h:=of_decide_eq_true h
  have:=gJ h.1 h.2
  show(((toString i:String):Str)++((";":String):Str)).length≤62
  rw[Nu,iT ";"];omega
 |inr z=>
  have h:=of_decide_eq_true (KD.mp h).2
  have:=gJ (i:=(z.length:Int)) (by omega) (by omega)
  show(((toString (z.length:Int):String):Str)++((":":String):Str)++z).length≤z.length+62
  rw[Nu,Nu,iT ":"];omega
theorem Ed {x:Key}(h:okP x=true):szK x≤100062:=by
 cases x with
 |inl i=>show 62≤100062;decide
 |inr z=>
  have h:=of_decide_eq_true (KD.mp h).2
  show z.length+62≤100062;omega
theorem qi:∀xs:List Key,bR xs=(xs.map cN).foldr (·++·) MP
 |[]=>rfl
 |x::r=>by show cN x++bR r=cN x++_;rw[qi r]
theorem oB:∀{k:List Key},k.all okP=true→(bR k).length≤szT k
 |[],_=>by show MP.length≤0;decide
 |x::r,h=>by
  rw[Nk,Lq]at h
  have h1:=oK h.1
  have h2:=oB h.2
  show(cN x++bR r).length≤((x::r).map szK).sum
  rw[Nu,Lm,NO]
  unfold szT at h2
  omega
theorem kW {x y:Str}(h1:cv x=true)(h2:cv y=true):cv (x++y)=true:=oM h1 h2
theorem xT {z:Str}(h:∀c∈z.cps.toList,c<128):cv z=true:=by
 unfold cv
 rw[Tc]
 intro i hi
 exact decide_eq_true (h _ (by simp))
theorem Aj (n:Nat):cv ((toString (n:Int):String):Str)=true:=by
 refine xT fun c hc=>?_
 rw[Ts n]at hc
 obtain⟨ch,hch,e⟩:=MM.mp hc
 have:=digit_range (Rf (by decide) (by decide) hch)
 rw[←e];omega
theorem rR {i:Int}(h:0≤i):cv ((toString i:String):Str)=true:=by
 obtain⟨n,rfl⟩:=Mp h
 exact Aj n
theorem vF {x:Key}(h:okP x=true):cv (cN x)=true:=by
 cases x with
 |inl i=>
  have h:=of_decide_eq_true h
  exact kW (rR h.1) (by decide+kernel)
 |inr z=>
  have h:=(KD.mp h).1
  exact kW (kW (rR (by omega)) (by decide+kernel)) h
theorem oP:∀{k:List Key},k.all okP=true→cv (bR k)=true
 |[],_=>by decide+kernel
 |x::r,h=>by
  rw[Nk,Lq]at h
  exact kW (vF h.1) (oP h.2)
theorem rP:∀{k:List Key},k.all okP=true→szT k≤k.length*100062
 |[],_=>by decide
 |x::r,h=>by
  rw[Nk,Lq]at h
  have h1:=Ed h.1
  have h2:=rP h.2
  show((x::r).map szK).sum≤_
  rw[Lm,NO,LO,Nat.succ_mul]
  unfold szT at h2
  omega
theorem rc:∀{k:List Key},k.all okP=true→((k.map cN).map (·.length)).sum≤szT k
 |[],_=>by decide
 |x::r,h=>by
  rw[Nk,Lq]at h
  have h1:=oK h.1
  have h2:=rc h.2
  show(((x::r).map cN).map (·.length)).sum≤((x::r).map szK).sum
  rw[Lm,Lm,NO,Lm,NO]
  unfold szT at h2
  omega
theorem DY (K:tx)(A:Adr):Ln (mL K A) 1:=by rintro vs H Q E ⟨p,k,rfl,_⟩;rfl
theorem FP (T:Txt K mg A):Rd (mL K A) (JU K A) ["thing"]:=by
 intro vs H Q E h
 obtain⟨p,k,rfl,hp,ok,q⟩:=h
 obtain⟨l1,l8⟩:=ng ok
 obtain⟨z,r,hk⟩:=yt ok
 have ty:tyN H (.ref p)=some "tuple":=by unfold tyN;dsimp only;rw[hp]
 refine⟨by decide,"tuple",ty,Sel.no rfl (.inl (.inr (.inl ⟨_,SqT.of hp,?_⟩)))⟩
 refine Sel.dec (fun h1=>?_) (fun h1=>absurd (by simp;omega) h1)
 refine Sel.ndec (fun h8=>absurd (by simp;omega) h8) (fun h8=>?_)
 refine ixT (j:=0) hp rfl (by rw[hk];rfl) ⟨by decide,"str",rfl,Sel.yes rfl ?_⟩
 refine⟨p,rfl,.inr ⟨⟨_,SqT.of hp⟩,fun D hD=>?_⟩⟩
 have hne:p≠D:=av hp hD
 have hml:(k.map kV).length=k.length:=by simp
 refine fS (dc.tuple (xs:=k.map kV) .non) (fun i ys H2=>ys=(k.take i).map (fun x=>V.bl true)∧H2=upd H D (.lst ys)) (fun i ys H2 hi ⟨_,e2⟩=>?_) ⟨rfl,rfl⟩ (fun i ys H2 hi ⟨e1,e2⟩=>?_) (fun ys H2 ⟨e1,e2⟩=>?_)
 ·rw[e2];exact SqT.of (by rw[ao hne];exact hp)
 ·subst e2
  have hi':i<k.length:=by omega
  obtain⟨x,hx⟩:∃x,k[i]?=some x:=⟨_,KB hi'⟩
  have hg:(k.map kV).getD i .non=kV x:=by rw[Lb,La,hx];rfl
  rw[hg]
  have hs:=zn (lf ok (KM hx))
  refine lN ⟨_,aY x,rfl,CM _ x,?_⟩
  rw[hs]
  have hyl:ys.length=i:=by rw[e1,Kz,Lf];omega
  refine⟨ai,by rw[hyl];exact bK (by omega),CWd.next hi ⟨?_,eW⟩⟩
  rw[e1,OP,Lc,hx];rfl
 ·subst e2
  refine⟨D,k.map fun _=>true,rfl,by rw[ai,e1,hml,Nq,Pr];rfl,?_⟩
  have:(k.map fun _=>true).all id=true:=by simp
  rw[this];exact q _ (au.upd hD)
theorem Dt (K:tx)(A:Adr):Ln (pC K A) 1:=by rintro vs H Q E ⟨v,rfl,_⟩;rfl
theorem FX (T:Txt K mg A):Rd (pC K A) (JK K A) ["part","signs"]:=by
 intro vs H Q E h
 obtain⟨v,rfl,hp,q⟩:=h
 cases v with
 |inl i=>
  have h:=of_decide_eq_true hp
  have l:=gJ h.1 h.2
  refine⟨.int i,.int i,rfl,.int i,Sel.t ?_⟩
  have e1:MP++((toString i:String):Str)=((toString i:String):Str):=TN _
  have l2:(((toString i:String):Str)++((";":String):Str)).length≤sizeLine:=by rw[Nu,iT ";"];exact aF (by omega)
  refine⟨kg h.1 h.2,by rw[e1];exact aF (by omega),?_,?_,?_⟩<;>rw[e1]
  ·exact l2
  ·exact l2
  ·exact q
 |inr z=>
  have h:=of_decide_eq_true (KD.mp hp).2
  have l:=gJ (i:=(z.length:Int)) (by omega) (by omega)
  refine⟨.str z,.str z,rfl,.str z,Sel.f ?_⟩
  have e1:MP++((toString (z.length:Int):String):Str)=((toString (z.length:Int):String):Str):=TN _
  have l2:(((toString (z.length:Int):String):Str)++((":":String):Str)).length≤sizeLine:=by rw[Nu,iT ":"];exact aF (by omega)
  have l3:(((toString (z.length:Int):String):Str)++((":":String):Str)++z).length≤sizeLine:=by rw[Nu,Nu,iT ":"];exact aF (by omega)
  refine .inl ⟨aF (by omega),kg (by omega) (by omega),by rw[e1];exact aF (by omega),?_,aF (by omega),?_,?_,?_⟩<;>rw[e1]
  ·exact l2
  ·exact l3
  ·exact l3
  ·exact q
theorem DT (K:tx)(A:Adr):Ln (mB K A) 1:=by rintro vs H Q E ⟨p,k,rfl,_⟩;rfl
theorem Gx (T:Txt K mg A):Rd (mB K A) (Kt K A) ["term"]:=by
 intro vs H Q E h
 obtain⟨p,k,rfl,hp,ok,q⟩:=h
 refine⟨p,k,rfl,hp,ok,fun H' s=>Sel.no rfl ?_⟩
 have hp':=s _ _ hp
 have hml:(k.map kV).length=k.length:=by simp
 obtain⟨l1,l8⟩:=ng ok
 refine⟨rfl,⟨p,rfl,.inr ⟨⟨_,SqT.of hp'⟩,fun D hD=>?_⟩⟩⟩
 have hne:p≠D:=av hp' hD
 refine fS (dc.tuple (xs:=k.map kV) .non) (fun i ys H2=>ys=(k.take i).map (fun x=>V.str (cN x))∧H2=upd H' D (.lst ys)) (fun i ys H2 hi ⟨_,e2⟩=>?_) ⟨rfl,rfl⟩ (fun i ys H2 hi ⟨e1,e2⟩=>?_) (fun ys H2 ⟨e1,e2⟩=>?_)
 ·rw[e2];exact SqT.of (by rw[ao hne];exact hp')
 ·subst e2
  have hi':i<k.length:=by omega
  obtain⟨x,hx⟩:∃x,k[i]?=some x:=⟨_,KB hi'⟩
  have hg:(k.map kV).getD i .non=kV x:=by rw[Lb,La,hx];rfl
  rw[hg]
  refine lN ⟨x,rfl,lf ok (KM hx),?_⟩
  have hyl:ys.length=i:=by rw[e1,Kz,Lf];omega
  refine⟨ai,by rw[hyl];exact bK (by omega),CWd.next hi ⟨?_,eW⟩⟩
  rw[e1,OP,Lc,hx];rfl
 ·subst e2
  refine⟨"",D,k.map cN,rfl,rfl,by rw[ai,e1,hml,Nq,Pr];rfl,?_,?_⟩
  ·have h1:=rc (dy ok)
   have h2:=rP (dy ok)
   have e0:(("":String):Str).length=0:=by decide
   rw[e0]
   have:k.length*100062≤8*100062:=Nat.mul_le_mul_right _ l8
   omega
  ·rw[nO,←qi]
   exact q _ (s.trans (au.upd hD))
theorem FM (K:tx)(A:Adr):Ln (uF K A) 1:=by rintro vs H Q E ⟨x,dx,rfl,_⟩;rfl
theorem Jn (T:Txt K mg A):Rd (uF K A) (T_1 K A) ["self"]:=by
 intro vs H Q E h
 obtain⟨x,dx,rfl,hx,q⟩:=h
 exact .inr fun d hd=>⟨x,A.c_Numbers,dx,[],rfl,by rw[ao (av hx hd)];exact hx,T.cl_Numbers,T.na_Numbers_given,by decide,q d hd⟩
theorem gF.mono {H H':Hp}{x d:Addr}{kvs:List (List Key×V)}(s:au H H')(n:gF A H x d kvs):gF A H' x d kvs:=by
 obtain⟨⟨dx,h1⟩,h2⟩:=n
 exact⟨⟨dx,s _ _ h1⟩,s _ _ h2⟩
theorem gF.hide {H:Hp}{x d:Addr}{kvs:List (List Key×V)}{cs:List Addr}{cvs:List V}(hc:cE H cs cvs)(n:gF A H x d kvs):gF A (cx cs H) x d kvs:=by
 obtain⟨⟨dx,h1⟩,h2⟩:=n
 exact⟨⟨dx,hc.hide h1 (fun _ z=>nomatch z)⟩,hc.hide h2 (fun _ z=>nomatch z)⟩
theorem Iy (K:tx)(A:Adr):Ln (uR K A) 2:=by rintro vs H Q E ⟨x,d,p,kvs,k,rfl,_⟩;rfl
theorem Kc (T:Txt K mg A):Rd (uR K A) (T_2 K A) ["self","term"]:=by
 intro vs H Q E h
 obtain⟨x,d,a,kvs,k,rfl,nu,hl,hp,ok,q⟩:=h
 refine⟨a,k,rfl,hp,ok,fun H' s=>Sel.no rfl ?_⟩
 have ta':=s _ _ hp
 obtain⟨⟨dx,hx⟩,hd⟩:=nu.mono s
 have q:=q H' s
 have g:=cB.t hd ta'
 refine⟨x,A.c_Numbers,dx,_,.ref d,rfl,hx,T.cl_Numbers,T.na_Numbers_given,rfl,.inl ⟨d,bh kvs k,rfl,g,?_⟩⟩
 unfold jv jy at q
 cases e:bh kvs k with
 |some w=>
  rw[e]at q g
  have q:Q w H':=q
  exact Sel.no rfl ⟨x,A.c_Numbers,dx,_,.ref d,rfl,hx,T.cl_Numbers,T.na_Numbers_given,rfl,.inr ⟨d,w,rfl,g,q⟩⟩
 |none=>
  rw[e]at q g
  have q:Q (.int kvs.length) (upd H' d (.dT (bx kvs k (.int kvs.length)))):=q
  have hx':upd H' d (.dT (bx kvs k (.int kvs.length))) x=some (.ins A.c_Numbers dx [("given",.ref d)]):=by rw[ao (aW hx hd (fun z=>nomatch z))];exact hx
  have ha':upd H' d (.dT (bx kvs k (.int kvs.length))) a=some (.tup (k.map kV)):=by rw[ao (aW ta' hd (fun z=>nomatch z))];exact ta'
  refine Sel.yes rfl ⟨x,A.c_Numbers,dx,_,.ref d,rfl,hx,T.cl_Numbers,T.na_Numbers_given,rfl,.inr ⟨d,kvs,rfl,hd,x,A.c_Numbers,dx,_,.ref d,rfl,hx,T.cl_Numbers,T.na_Numbers_given,rfl,.inr ⟨d,_,rfl,.inr ⟨kvs,k,a,hd,rfl,ta',Mh hl (aF (n:=50001) (by decide)),rfl⟩,?_⟩⟩⟩
  have g2:=cB.t (kvs:=bx kvs k (.int kvs.length)) (k:=k) ai ha'
  rw[fV,if_pos rfl]at g2
  exact⟨x,A.c_Numbers,dx,_,.ref d,rfl,hx',T.cl_Numbers,T.na_Numbers_given,rfl,.inr ⟨d,_,rfl,g2,q⟩⟩
theorem Ik (T:Txt K mg A)(a0:V)(H:Hp)(Q:VK)(E:XK)(h:uE K A [a0] H Q E):BQ K A (dJ ["term"] [a0] []) H Q:=h
theorem IB (T:Txt K mg A)(a0 b0:V)(H:Hp)(Q:VK)(E:XK)(h:tI K A [a0,b0] H Q E):BH K A (dJ ["term","numbers"] [a0] [b0]) H Q:=by
 obtain⟨x,d,p,kvs,k,e,nu,hl,hp,ok,h⟩:=h
 cases e
 obtain⟨dx,hx⟩:=nu.ob
 exact⟨x,dx,_,rfl,hx,rfl,x,d,p,kvs,k,rfl,nu,hl,hp,ok,h⟩
theorem EM {H:Hp}{b p:Addr}{kvs:List (List Key×V)}{kk:List Key}{d:V}(hb:H b=some (.dT kvs))(hp:H p=some (.tup (kk.map kV)))(hl:kvs.length≤50000):
  CI H b (.ref p) d (jv kvs kk d) (jy H b kvs kk d):=by
 unfold jv jy
 have g:=cB.t hb hp
 cases e:bh kvs kk with
 |some v=>rw[e]at g;exact .inl ⟨g,if_pos rfl⟩
 |none=>rw[e]at g;exact .inr ⟨g,.inr ⟨kvs,kk,p,hb,rfl,hp,Mh hl (aF (n:=50001) (by decide)),if_neg (by decide)⟩,rfl⟩
theorem bI.trans {P:Addr}{H H1 H2:Hp}(a:bI P H H1)(b:bI P H1 H2):bI P H H2:=fun x o e n=>b x o (a x o e n) n
theorem bI.new {P p:Addr}{H:Hp}{o:HO}(h:H p=none):bI P H (upd H p o):=fun b u e _=>by rw[ao (av e h)];exact e
theorem bI.tab {P:Addr}{H:Hp}{o:HO}:bI P H (upd H P o):=fun b u e n=>by rw[ao n];exact e
theorem bU {H:Hp}{P q:Addr}{o:HO}(hP:H P=some o)(hq:H q=none):q≠P:=fun e=>by rw[e,hP]at hq;cases hq
theorem bO {H:Hp}{p q:Addr}{o:HO}(h:upd H p o q=none):q≠p∧H q=none:=by
 by_cases e:q=p
 ·subst e;rw[ai]at h;cases h
 ·rw[ao e]at h;exact⟨e,h⟩
theorem tV {H:Hp}{P c f q:Addr}{o1 o2:HO}{t:cV}{v:V}(hP:H P=some o1)(hc:H c=none)(hf:H f=none)(hne:c≠f)(hq:upd (upd (upd H P o2) c (bT c t.qual)) f (cJ f t [q] c) q=none):
  bI P H (upd (upd (upd (upd H P o2) c (bT c t.qual)) f (cJ f t [q] c)) q (bw q v))∧dh (upd (upd (upd (upd H P o2) c (bT c t.qual)) f (cJ f t [q] c)) q (bw q v)) f t [q] [v]:=by
 have c1:upd H P o2 c=none:=by rw[ao (bU hP hc)];exact hc
 have f1:upd (upd H P o2) c (bT c t.qual) f=none:=by rw[ao (Lg hne),ao (bU hP hf)];exact hf
 have S3:=bI.new (P:=P) (o:=bw q v) hq
 have S2:=(bI.new (P:=P) (o:=cJ f t [q] c) f1).trans S3
 have S1:=(bI.new (P:=P) (o:=bT c t.qual) c1).trans S2
 exact⟨bI.tab.trans S1,⟨⟨c,S3 _ _ ai (bU hP hf),S2 _ _ ai (bU hP hc)⟩,.cons ai .nil⟩⟩
theorem qw:gh []:=fun p hp=>nomatch hp
theorem tB.of {P:Addr}{H H':Hp}{ps:Array Gt}(hP:H P=some (.tbl ps))(k:bI P H H'):tB H H':=fun b o e n=>k b o e fun z=>by subst z;rw[hP]at e;cases e;exact n _ rfl
theorem vo {x:Int}(h:x.natAbs<2^64):MH x≤64:=by
 unfold MH
 split
 ·decide
 ·rename_i hx
  have hx:x≠0:=by simpa using hx
  have:x.natAbs.log2<64:=(SZ (by omega)).mpr h
  omega
theorem Jv {x y:Int}(h0:0≤x)(h:x<2^64):Us x y:=Qg (vo (by omega))
theorem Kb {x y:Int}(h0:0≤y)(h:y<2^64):Us x y:=IntMulOk.of_right (vo (by omega))
theorem GT (T:Txt K mg A)(a0 b0:V)(H:Hp)(Q:VK)(E:XK)(h:uT K A [a0,b0] H Q E):EF K A {nx:=fun _ H'=>Q .non H',rt:=Q} (dJ ["_law_term","_law_total","_law_part","_law_many"] [a0] [b0]) H:=by
 obtain⟨p,m,k,e,h1,h2,hp,ok,q⟩:=h
 cases e
 refine .inl (.inr (.inl ⟨_,SqT.of hp,?_⟩))
 refine⟨p,rfl,.inr ⟨⟨_,SqT.of hp⟩,?_⟩⟩
 rw[Kz]
 refine Bn (xs:=k.map kV) (fun i σ H'=>H'=H∧∃x2,σ=[some (.ref p),some (.int ((k.take i).foldl mv k.length)),x2,some (.int m)]) ⟨rfl,none,rfl⟩ ?_ ?_ ?_
 ·rintro i σ _ _ ⟨rfl,_⟩;exact SqT.of hp
 ·rintro i x σ _ hx ⟨rfl,x2,rfl⟩
  obtain⟨kk,hk,rfl⟩:=iV hx
  have okk:okP kk=true:=lf ok (KM hk)
  have st:=uL mv (k.length:Int) k i kk hk
  cases kk with
  |inl n=>
   refine⟨by decide,"int",rfl,Sel.no rfl ⟨Qg (by decide),rfl,some (.int n),?_⟩⟩
   rw[st];rfl
  |inr z=>
   refine⟨by decide,"str",rfl,Sel.yes rfl ⟨Qg (by decide),?_⟩⟩
   obtain⟨hz,hl⟩:=KD.mp okk
   have hl:=of_decide_eq_true hl
   refine .inl ⟨aF (by omega),rfl,some (.str z),?_⟩
   rw[st];rfl
 ·rintro σ _ ⟨rfl,x2,rfl⟩
  have e:k.take (k.map kV).length=k:=by rw[Kz,Nq]
  rw[e]
  exact⟨by omega,q⟩
theorem Sub.rfl' {g:gOp}:Sub g g:=fun _ _ e=>e
theorem Sub.trans {g g1 g2:gOp}(a:Sub g g1)(b:Sub g1 g2):Sub g g2:=fun k v e=>b k v (a k v e)
theorem Ext.of {g g':gOp}{h:List Key→Key}(s:Sub g g')(e:Ext g' h):Ext g h:=fun k v z=>e k v (s k v z)
theorem fN (kvs:List (List Key×Key))(k:List Key):bh (bq kvs) k=(bB kvs k).map kV:=by
 unfold bh bq bB
 rw[List.find?_map]
 simp only[Option.map_map]
 congr 1
theorem wn {kvs:List (List Key×Key)}{k:List Key}{v:Key}{x:List Key×Key}(h:bB kvs k=some v):bB (kvs++[x]) k=some v:=by
 unfold bB at h⊢
 rw[Tj]
 cases e:kvs.find? fun p=>decide (p.1=k)with
 |none=>rw[e]at h;cases h
 |some y=>rw[e]at h;exact h
theorem yh {kvs:List (List Key×Key)}{k:List Key}{d:Key}(h:bB kvs k=none):bB (kvs++[(k,d)]) k=some d:=by
 unfold bB at h⊢
 rw[Tj]
 cases e:kvs.find? fun p=>decide (p.1=k)with
 |none=>simp
 |some y=>rw[e]at h;cases h
theorem yF {kvs:List (List Key×Key)}{k:List Key}{v:Key}(h:bB kvs k=some v):bh (bq kvs) k=some (kV v):=by rw[fN,h];rfl
theorem xK {kvs:List (List Key×Key)}{k:List Key}{v:Key}(hs:gh kvs)(h:bB kvs k=some v):iM v:=by
 unfold bB at h
 cases e:kvs.find? fun p=>decide (p.1=k)with
 |none=>rw[e]at h;cases h
 |some y=>
  rw[e]at h
  cases h
  exact hs y (Rr e)
theorem rK {kvs:List (List Key×Key)}{x:List Key×Key}(h:gh kvs)(hx:iM x.2):gh (kvs++[x]):=fun p hp=>by
 rcases LY.mp hp with z|z
 ·exact h p z
 ·rw[KW.mp z];exact hx
theorem lZ {k:List Key}{v:Key}(hk:1≤k.length)(h:iM v):qB k v:=by
 cases v with
 |inl i=>exact h
 |inr z=>
  refine⟨h.1,KR h.2 ?_⟩
  cases k with
  |nil=>simp at hk
  |cons x r=>
   show 62≤((x::r).map szK).sum
   rw[Lm,NO]
   have:62≤szK x:=by cases x with
    |inl i=>exact KA 62
    |inr z=>show 62≤z.length+62;omega
   omega
theorem qD {H:Hp}{b:Addr}{cs:List Addr}{cvs:List V}{kvs:List (List Key×Key)}(kk:List Key)(d:Key)(hs:gh kvs)(hd:iM d)(hb:H b=some (.dT (bq kvs)))(hc:cE H cs cvs)(H1:Hp)(S:au (cx cs H) H1):
  ∃(kvs':List (List Key×Key))(v:Key)(H':Hp),jv (bq kvs) kk (kV d)=kV v∧bX cs H (jy H1 b (bq kvs) kk (kV d))=H'∧H' b=some (.dT (bq kvs'))∧(∀x o,x≠b→H x=some o→H' x=some o)∧(kvs'=kvs∨kvs'=kvs++[(kk,d)])∧gh kvs'∧bB kvs' kk=some v∧iM v∧∀k v,bB kvs k=some v→bB kvs' k=some v:=by
 have hbc:b∉cs:=hc.notin hb fun _ z=>nomatch z
 have S2:=au.hide cs S
 cases e:bB kvs kk with
 |some v=>
  have ev:=yF e
  refine⟨kvs,v,bX cs H H1,by unfold jv;rw[ev];rfl,?_,S2 _ _ hb,fun _ _ _ h=>S2 _ _ h,.inl rfl,hs,e,xK hs e,fun _ _ h=>h⟩
  unfold jy;rw[ev];rfl
 |none=>
  have ev:bh (bq kvs) kk=none:=by rw[fN,e];rfl
  refine⟨kvs++[(kk,d)],d,upd (bX cs H H1) b (.dT (bq (kvs++[(kk,d)]))),by unfold jv;rw[ev];rfl,?_,ai,fun x o n h=>by rw[ao n];exact S2 _ _ h,.inr rfl,rK hs hd,yh e,hd,fun _ _ h=>wn h⟩
  unfold jy;rw[ev,if_neg (by decide),vw hbc,qR _ ev]
  unfold bq;rw[Lc];rfl
theorem Lin.nil {a c:Int}:Lin a c []:=fun i p h=>by cases i<;>cases h
theorem Lin.snoc {a c:Int}{kvs:List (List Key×Key)}(s:Lin a c kvs)(k:List Key):Lin a c (kvs++[(k,.inl (a*(kvs.length:Int)+c))]):=fun i p h=>by
 rcases Tx i kvs.length with hi|hi|hi
 ·rw[LN hi]at h;exact s i p h
 ·rw[LU (by omega),hi,Pz]at h
  cases h;rw[hi]
 ·rw[Lh (by simp;omega)]at h;cases h
theorem Lin.step {a c:Int}{kvs kvs':List (List Key×Key)}{kk:List Key}(s:Lin a c kvs)(h:kvs'=kvs∨kvs'=kvs++[(kk,.inl (a*(kvs.length:Int)+c))]):Lin a c kvs'∧kvs'.length≤kvs.length+1:=by
 rcases h with rfl|rfl
 ·exact⟨s,Np _⟩
 ·exact⟨s.snoc kk,by simp⟩
theorem ni {kvs:List (List Key×Key)}{k:List Key}{v:Key}(h:bB kvs k=some v):∃i:Nat,kvs[i]? =some (k,v):=by
 unfold bB at h
 cases e:kvs.find? fun p=>decide (p.1=k)with
 |none=>rw[e]at h;cases h
 |some p=>
  rw[e]at h
  obtain⟨i,hi⟩:=ME.mp (Rr e)
  have h1:p.1=k:=by have:=List.find?_some e;exact of_decide_eq_true this
  have h2:p.2=v:=KL h
  exact⟨i,by rw[hi,←h1,←h2]⟩
theorem Lin.inj {a c:Int}{kvs:List (List Key×Key)}(ha:1≤a)(s:Lin a c kvs){k k':List Key}{v:Key}(h:bB kvs k=some v)(h':bB kvs k'=some v):k=k':=by
 obtain⟨i,hi⟩:=ni h
 obtain⟨j,hj⟩:=ni h'
 have e1:=s i _ hi
 have e2:=s j _ hj
 have e3:a*(i:Int)+c=a*(j:Int)+c:=Qq (e1.symm.trans e2)
 have e4:(i:Int)=j:=Int.eq_of_mul_eq_mul_left (by omega) (by omega:a*(i:Int)=a*j)
 have e5:i=j:=by omega
 subst e5
 rw[hi]at hj
 cases hj;rfl
theorem m0 {x:cV×Sp}{l:List (cV×Sp)}:x∈x::l:=Lv
theorem mS {x y:cV×Sp}{l:List (cV×Sp)}(h:x∈l):x∈y::l:=KQ _ h
theorem ba.rfl' {b:Addr}{H:Hp}:ba b H H:=fun _ _ _ e=>e
theorem ba.trans {b:Addr}{H H1 H2:Hp}(a:ba b H H1)(c:ba b H1 H2):ba b H H2:=fun x o n e=>c x o n (a x o n e)
theorem ba.same {b:Addr}{H H':Hp}(S:au H H'):ba b H H':=fun x o _ e=>S x o e
theorem EK (K:tx)(A:Adr):Ln (pX K A) 0:=by rintro vs H Q E ⟨rfl,_⟩;rfl
theorem Fq (T:Txt K mg A)(hnd:([]:List Addr).Nodup)(vs:List V)(H:Hp)(Q:VK)(E:XK)(h:pX K A vs H Q E):Cy K A {nx:=fun σ H'=>(∀p∈([]:List (Nat×Addr)),H' p.2=none)→Q .non (bN [] σ H'),rt:=fun σ v H'=>(∀p∈([]:List (Nat×Addr)),H' p.2=none)→Q v (bN [] σ H')} (L2.start [] vs) H:=by
 obtain⟨rfl,hP,q⟩:=h
 refine⟨#[],hP,trivial,.inl ⟨rfl,fun c f hc hf hne _=>?_⟩⟩
 have cP:=bU hP hc
 have fP:=bU hP hf
 have c1:∀o,upd H A.t_55 o c=none:=fun o=>by rw[ao cP];exact hc
 have f1:∀o,upd (upd H A.t_55 o) c (bT c gb.qual) f=none:=fun o=>by rw[ao (Lg hne),ao fP];exact hf
 exact q f f _ _ (bI.tab.trans ((bI.new (c1 _)).trans (bI.new (f1 _)))) (.wri ⟨⟨c,ai,(ao hne).trans ai⟩,.nil⟩ rfl rfl rfl) hf
theorem CS (K:tx)(A:Adr):Ln (pL K A) 0:=by rintro vs H Q E ⟨rfl,_⟩;rfl
theorem Gm (T:Txt K mg A)(q0:Addr)(hnd:([q0]:List Addr).Nodup)(vs:List V)(H:Hp)(Q:VK)(E:XK)(h:pL K A vs H Q E):Dp K A q0 {nx:=fun σ H'=>(∀p∈([(0,q0)]:List (Nat×Addr)),H' p.2=none)→Q .non (bN [(0,q0)] σ H'),rt:=fun σ v H'=>(∀p∈([(0,q0)]:List (Nat×Addr)),H' p.2=none)→Q v (bN [(0,q0)] σ H')} (L2.start ["numbers"] vs) H:=by
 obtain⟨rfl,hP,q⟩:=h
 intro x dx hx hdx hne
 refine⟨x,dx,rfl,ai,fun d hd=>⟨rfl,?_⟩⟩
 obtain⟨dnx,hd1⟩:=bO hd
 obtain⟨dndx,hd0⟩:=bO hd1
 have xP:=bU hP hx
 have dxP:=bU hP hdx
 have dP:=bU hP hd0
 generalize e2:upd (upd (upd (upd H dx (.own x)) x (.ins A.c_Numbers dx [])) d (.dT [])) x (.ins A.c_Numbers dx [("given",.ref d)])=H2
 have S2:bI A.t_34 H H2:=by
  intro b o e n
  have b1:=av e hx
  have b2:=av e hdx
  have b3:=av e hd0
  rw[←e2,ao b1,ao b3,ao b1,ao b2];exact e
 have hP2:H2 A.t_34=some (.tbl #[]):=by rw[←e2,ao (Lg xP),ao (Lg dP),ao (Lg xP),ao (Lg dxP)];exact hP
 have hx2:H2 x=some (.ins A.c_Numbers dx [("given",.ref d)]):=by rw[←e2,ai]
 have hd2:H2 d=some (.dT []):=by rw[←e2,ao dnx,ai]
 refine⟨#[],hP2,trivial,.inl ⟨rfl,fun c f hc hf hne hq=>?_⟩⟩
 obtain⟨k,ca⟩:=tV (v:=.ref x) hP2 hc hf hne (hq _ (KW.mpr rfl))
 exact q f d _ _ (S2.trans k) (.cnt q0 x [] ca ⟨⟨dx,k _ _ hx2 xP⟩,k _ _ hd2 dP⟩ (Ly _) qw .nil rfl rfl) hd0
theorem CY (K:tx)(A:Adr):Ln (pN K A) 1:=by rintro vs H Q E ⟨m,rfl,_⟩;rfl
theorem HS (T:Txt K mg A)(q0:Addr)(hnd:([q0]:List Addr).Nodup)(vs:List V)(H:Hp)(Q:VK)(E:XK)(h:pN K A vs H Q E):DI K A q0 {nx:=fun σ H'=>(∀p∈([(0,q0)]:List (Nat×Addr)),H' p.2=none)→Q .non (bN [(0,q0)] σ H'),rt:=fun σ v H'=>(∀p∈([(0,q0)]:List (Nat×Addr)),H' p.2=none)→Q v (bN [(0,q0)] σ H')} (L2.start ["_law_many","_law_stamp"] vs) H:=by
 obtain⟨m,rfl,m1,m2,hP,q⟩:=h
 refine⟨#[],hP,trivial,.inl ⟨rfl,fun c f hc hf hne hq=>?_⟩⟩
 obtain⟨k,ca⟩:=tV (v:=.int m) hP hc hf hne (hq _ (KW.mpr rfl))
 exact q f f _ _ k (.wea q0 m m1 m2 ca rfl rfl rfl) hf
theorem FJ {H:Hp}{P c f q0 q1 q2:Addr}{o1 o2:HO}{t:cV}{v0 v1 v2:V}(hP:H P=some o1)(hc:H c=none)(hf:H f=none)(hne:c≠f)(n01:q0≠q1)(n02:q0≠q2)(n12:q1≠q2)(h0:upd (upd (upd H P o2) c (bT c t.qual)) f (cJ f t [q2,q0,q1] c) q0=none)(h1:upd (upd (upd H P o2) c (bT c t.qual)) f (cJ f t [q2,q0,q1] c) q1=none)(h2:upd (upd (upd H P o2) c (bT c t.qual)) f (cJ f t [q2,q0,q1] c) q2=none):
  bI P H (upd (upd (upd (upd (upd (upd H P o2) c (bT c t.qual)) f (cJ f t [q2,q0,q1] c)) q0 (bw q0 v0)) q1 (bw q1 v1)) q2 (bw q2 v2))∧dh (upd (upd (upd (upd (upd (upd H P o2) c (bT c t.qual)) f (cJ f t [q2,q0,q1] c)) q0 (bw q0 v0)) q1 (bw q1 v1)) q2 (bw q2 v2)) f t [q2,q0,q1] [v2,v0,v1]:=by
 have c1:upd H P o2 c=none:=by rw[ao (bU hP hc)];exact hc
 have f1:upd (upd H P o2) c (bT c t.qual) f=none:=by rw[ao (Lg hne),ao (bU hP hf)];exact hf
 have h1':upd (upd (upd (upd H P o2) c (bT c t.qual)) f (cJ f t [q2,q0,q1] c)) q0 (bw q0 v0) q1=none:=by rw[ao (Lg n01)];exact h1
 have h2':upd (upd (upd (upd (upd H P o2) c (bT c t.qual)) f (cJ f t [q2,q0,q1] c)) q0 (bw q0 v0)) q1 (bw q1 v1) q2=none:=by rw[ao (Lg n12),ao (Lg n02)];exact h2
 have S5:=bI.new (P:=P) (o:=bw q2 v2) h2'
 have S4:=(bI.new (P:=P) (o:=bw q1 v1) h1').trans S5
 have S3:=(bI.new (P:=P) (o:=bw q0 v0) h0).trans S4
 have S2:=(bI.new (P:=P) (o:=cJ f t [q2,q0,q1] c) f1).trans S3
 have S1:=(bI.new (P:=P) (o:=bT c t.qual) c1).trans S2
 exact⟨bI.tab.trans S1,⟨⟨c,S3 _ _ ai (bU hP hf),S2 _ _ ai (bU hP hc)⟩,.cons ai (.cons (by rw[ao n02,ao n01];exact ai) (.cons (by rw[ao n12];exact ai) .nil))⟩⟩
theorem Bz (K:tx)(A:Adr):Ln (pc K A) 3:=by rintro vs H Q E ⟨b,D,j,rfl,_⟩;rfl
theorem Hg (T:Txt K mg A)(q0 q1 q2:Addr)(hnd:([q0,q1,q2]:List Addr).Nodup)(vs:List V)(H:Hp)(Q:VK)(E:XK)(h:pc K A vs H Q E):BZ K A q0 q1 q2 {nx:=fun σ H'=>(∀p∈([(0,q0),(1,q1),(2,q2)]:List (Nat×Addr)),H' p.2=none)→Q .non (bN [(0,q0),(1,q1),(2,q2)] σ H'),rt:=fun σ v H'=>(∀p∈([(0,q0),(1,q1),(2,q2)]:List (Nat×Addr)),H' p.2=none)→Q v (bN [(0,q0),(1,q1),(2,q2)] σ H')} (L2.start ["_law_known","_law_alias","_law_step","_law_stamp"] vs) H:=by
 obtain⟨b,D,j,rfl,j0,j1,hP,hb,hD,bD,q⟩:=h
 have n01:q0≠q1:=fun e=>by simp[e]at hnd
 have n02:q0≠q2:=fun e=>by simp[e]at hnd
 have n12:q1≠q2:=fun e=>by simp[e]at hnd
 refine⟨#[],hP,trivial,.inl ⟨rfl,fun c f hc hf hne hq=>?_⟩⟩
 obtain⟨k,ca⟩:=FJ (v0:=.ref b) (v1:=.ref D) (v2:=.int j) hP hc hf hne n01 n02 n12 (hq (0,q0) (by simp)) (hq (1,q1) (by simp)) (hq (2,q2) (by simp))
 have nb:b≠A.t_20:=aW hb hP (fun z=>nomatch z)
 have nD:D≠A.t_20:=aW hD hP (fun z=>nomatch z)
 exact q f _ k (.pla q2 q0 q1 D j j0 j1 [] none ca (k _ _ hb nb) (k _ _ hD nD) bD (Ly _) qw .nil rfl rfl)
theorem IF {H:Hp}{D p:Addr}{k:List Key}{al:Option (List Key×List Key)}(ha:jV H D al)(hp:H p=some (.tup (k.map kV))):∃(o:Option V)(p':Addr),cB H D (.ref p) o∧o.getD (.ref p)=.ref p'∧H p'=some (.tup ((alF al k).map kV)):=by
 cases al with
 |none=>exact⟨_,p,cB.t ha hp,rfl,hp⟩
 |some r=>
  obtain⟨o,hD,ho,ok⟩:=ha
  by_cases e:k=r.1
  ·refine⟨_,o,cB.t hD hp,?_,?_⟩
   ·unfold bh;simp[e]
   ·show H o=some (.tup ((if k=r.1 then r.2 else k).map kV));rw[if_pos e];exact ho
  ·refine⟨_,p,cB.t hD hp,?_,?_⟩
   ·unfold bh;simp[Lg e]
   ·show H p=some (.tup ((if k=r.1 then r.2 else k).map kV));rw[if_neg e];exact hp
theorem Gn (T:Txt K mg A)(a0 b0 b1 b2:V)(H:Hp)(Q:VK)(E:XK)(h:tz K A [a0,b0,b1,b2] H Q E):Ct K A {nx:=fun _ H'=>Q .non H',rt:=Q} (dJ ["_law_term","_law_step","_law_known","_law_alias"] [a0] [b0,b1,b2]) H:=by
 obtain⟨p,b,D,j,k,kvs,al,e,j0,j1,hp,hb,ha,hl,q⟩:=h
 cases e
 obtain⟨o,p',hg,eo,hp'⟩:=IF ha hp
 have hD:∃kv,H D=some (.dT kv):=by
  cases al with
  |none=>exact⟨_,ha⟩
  |some r=>obtain⟨_,hD,_⟩:=ha;exact⟨_,hD⟩
 refine⟨.inr (.inr (.inl ⟨rfl,.inr ⟨_,hb⟩⟩)),.inr (.inr (.inl ⟨rfl,.inr hD⟩)),D,.ref p,.ref p,o,rfl,rfl,hg,?_⟩
 rw[eo]
 exact .inr ⟨b,kvs,rfl,hb,Jv j0 (by omega),b,.ref p',_,_,_,rfl,rfl,EM hb hp' hl,q⟩
theorem Er (K:tx)(A:Adr):Ln (pE K A) 4:=by rintro vs H Q E ⟨w,c,b,D,rfl,_⟩;rfl
theorem HW (T:Txt K mg A):Rd (pE K A) (JV K A) ["_law_way_here","_law_cell","_law_known","_law_alias"]:=by
 intro vs H Q E h
 obtain⟨w,c,b0,D,rfl,⟨t2,t1,t3,t4,t5,nd⟩,hb,hD,bD,w0,w3,q⟩:=h
 have n5w:A.t_23≠A.t_29:=fun e=>by rw[e]at nd;simp at nd
 have n5r:A.t_23≠A.t_55:=fun e=>by rw[e]at nd;simp at nd
 have n5c:A.t_23≠A.t_34:=fun e=>by rw[e]at nd;simp at nd
 have n5p:A.t_23≠A.t_20:=fun e=>by rw[e]at nd;simp at nd
 refine Sel.dec (fun h=>?_) (fun h=>?_)
 ·exact⟨by decide,_,rfl,by omega,by omega,t2,fun f b g H' k s hn=>q f b _ g H' (.of t2 k) (k _ _ t5 n5w) s (.inr hn) (fun e=>by omega) (fun e=>by omega)⟩
 refine Sel.dec (fun h=>?_) (fun h=>?_)
 ·refine⟨by decide,Sel.dec (fun h2=>?_) (fun h2=>?_)⟩
  ·exact⟨rfl,t1,fun f b g H' k s hn=>q f b _ g H' (.of t1 k) (k _ _ t5 n5r) s (.inr hn) (fun _=>trivial) (fun e=>by omega)⟩
  refine Sel.dec (fun h3=>?_) (fun h3=>absurd h h3)
  refine⟨by decide,Sel.dec (fun h4=>?_) (fun h4=>?_)⟩
  ·exact⟨rfl,t3,fun f b g H' k s hn=>q f b _ g H' (.of t3 k) (k _ _ t5 n5c) s (.inr hn) (fun _=>trivial) (fun e=>by omega)⟩
  ·exact⟨by decide,b0,D,_,rfl,by omega,by omega,t4,hb,hD,bD,fun f H' k s=>q f b0 _ _ H' (.of t4 k) (k _ _ t5 n5p) s (.inl rfl) (fun _=>rfl) (fun _=>⟨rfl,rfl⟩)⟩
 ·refine Sel.no rfl ?_
  refine Sel.dec (fun h3=>absurd h3 h) (fun h3=>?_)
  refine Sel.no rfl ?_
  exact⟨by decide,b0,D,_,rfl,by omega,by omega,t4,hb,hD,bD,fun f H' k s=>q f b0 _ _ H' (.of t4 k) (k _ _ t5 n5p) s (.inl rfl) (fun _=>rfl) (fun _=>⟨rfl,rfl⟩)⟩
theorem Stp.clo {H:Hp}{f b:Addr}{d:Kd}{g:gOp}{n:Nat}(s:Stp A H f b d g n):∃ts∈eE K A,∃cs cvs,dh H f ts.1 cs cvs:=by
 cases s with
 |wri hc _ _ _=>exact⟨_,m0,_,_,hc⟩
 |cnt _ _ _ hc=>exact⟨_,mS m0,_,_,hc⟩
 |wea _ _ _ _ hc=>exact⟨_,mS (mS m0),_,_,hc⟩
 |pla _ _ _ _ _ _ _ _ _ hc=>exact⟨_,mS (mS (mS m0)),_,_,hc⟩
theorem jV.keep {H H':Hp}{D:Addr}{al:Option (List Key×List Key)}(h:jV H D al)(kd:∀xs,H D=some (.dT xs)→H' D=some (.dT xs))(kt:∀o xs,H o=some (.tup xs)→H' o=some (.tup xs)):jV H' D al:=by
 cases al with
 |none=>exact kd _ h
 |some r=>obtain⟨o,h1,h2,h3⟩:=h;exact⟨o,kd _ h1,kt _ _ h2,h3⟩
theorem jV.dict {H:Hp}{D:Addr}{al:Option (List Key×List Key)}(ha:jV H D al):∃kv,H D=some (.dT kv):=by
 cases al with
 |none=>exact⟨_,ha⟩
 |some r=>obtain⟨_,hD,_⟩:=ha;exact⟨_,hD⟩
theorem Stp.same {H H':Hp}{f b:Addr}{d:Kd}{g:List Key→Option Key}{n m:Nat}(s:Stp A H f b d g n)(hn:n≤m)(S:au H H'):Stp A H' f b d g m:=by
 cases s with
 |wri hc hb hg ed=>exact .wri (hc.keep fun x φ e=>S _ _ e) hb hg ed
 |cnt q x kvs hc num hl hs st hg ed=>
  obtain⟨⟨dx,h1⟩,h2⟩:=num
  exact .cnt q x kvs (hc.keep fun x φ e=>S _ _ e) ⟨⟨dx,S _ _ h1⟩,S _ _ h2⟩ (KR hl hn) hs st hg ed
 |wea q m h1 h2 hc hb hg ed=>exact .wea q m h1 h2 (hc.keep fun x φ e=>S _ _ e) hb hg ed
 |pla q0 q1 q2 D j j0 j1 kvs al hc hb ha bD hl hs st hg ed=>exact .pla q0 q1 q2 D j j0 j1 kvs al (hc.keep fun x φ e=>S _ _ e) (S _ _ hb) (ha.keep (fun _ e=>S _ _ e) (fun _ _ e=>S _ _ e)) bD (KR hl hn) hs st hg ed
theorem fb {H:Hp}{f b p:Addr}{d:Kd}{g:List Key→Option Key}{n:Nat}{k:List Key}{R:VK}(s:Stp A H f b d g n)(hn:n≤45000)(hp:H p=some (.tup (k.map kV)))(ok:okT k=true)
  (q:∀(v:Key)(H':Hp)(g':List Key→Option Key),ba b H H'→Stp A H' f b d g' (n+1)→Sub g g'→g' k=some v→qB k v→R (kV v) H'):qd (eE K A) f [.ref p] H R E0:=by
 have s0:=s
 have hk:=(ng ok).1
 have ll:∀kvs:List (List Key×Key),(bq kvs).length=kvs.length:=fun kvs=>by simp[bq]
 cases s with
 |wri hc hb hg ed=>
  refine⟨_,m0,_,_,hc,rfl,p,k,rfl,hc.cells.hide hp (fun _ z=>nomatch z),ok,fun H' S=>?_⟩
  have S:=au.hide _ S
  exact q (.inr (bR k)) _ g (ba.same S) (s0.same (Np _) S) Sub.rfl' (by rw[hg]) ⟨oP (dy ok),oB (dy ok)⟩
 |wea c m h1 h2 hc hb hg ed=>
  refine⟨_,mS (mS m0),_,_,hc,rfl,p,m,k,rfl,h1,h2,hc.cells.hide hp (fun _ z=>nomatch z),ok,?_⟩
  have S:=au.hide [c] (.refl (cx [c] H))
  have r0:=NE (k.foldl mv k.length) (b:=m) (by omega)
  have r1:=MX (k.foldl mv k.length) (b:=m) (by omega)
  have p60:(9:Int)<10^59:=by decide+kernel
  exact q (uz m k) _ g (ba.same S) (s0.same (Np _) S) Sub.rfl' (by rw[hg]) (show 0≤_∧_<_ from⟨r0,by omega⟩)
 |cnt c x kvs hc num hl hs st hg ed=>
  have p60:(50000:Int)<10^59:=by decide+kernel
  refine⟨_,mS m0,_,_,hc,rfl,x,b,p,bq kvs,k,rfl,num.hide hc.cells,by rw[ll];omega,hc.cells.hide hp (fun _ z=>nomatch z),ok,fun H' S=>?_⟩
  obtain⟨dx,hx⟩:=num.ob
  obtain⟨kvs',v,H2,ev,eH,hb',keep,hl',hs',gv,sv,sub⟩:=qD k (.inl ((bq kvs).length:Int)) hs (show 0≤_∧_<_ from⟨by omega,by rw[ll];omega⟩) num.di hc.cells H' S
  rw[show V.int ((bq kvs).length:Int)=kV (.inl ((bq kvs).length:Int))from rfl,ev,eH]
  obtain⟨st',hl2⟩:=st.step (kk:=k) (by rw[show(1:Int)*(kvs.length:Int)+0=((bq kvs).length:Int)by rw[ll];omega];exact hl')
  refine q v H2 (bB kvs') (fun x o n e=>keep x o n e)
   (.cnt c x kvs' (hc.keep fun x φ e=>keep x _ (aW e num.di (fun z=>nomatch z)) e) ⟨⟨dx,keep _ _ (aW hx num.di (fun z=>nomatch z)) hx⟩,hb'⟩ (by omega) hs' st' rfl ed) ?_ gv (lZ hk sv)
  rw[hg];exact sub
 |pla q0 q1 q2 D j j0 j1 kvs al hc hb ha bD hl hs st hg ed=>
  have p60:(50000000:Int)<10^59:=by decide+kernel
  have bd:0≤j*((bq kvs).length:Int)+5∧j*((bq kvs).length:Int)+5<10^59:=by
   rw[ll]
   have h1:j*(kvs.length:Int)≤1000*45000:=Int.mul_le_mul (by omega) (by omega) (by omega) (by decide)
   have h2:0≤j*(kvs.length:Int):=Int.mul_nonneg (by omega) (by omega)
   omega
  obtain⟨kvs',v,H2,ev,eH,hb',keep,hl',hs',gv,sv,sub⟩:=qD (alF al k) (.inl (j*((bq kvs).length:Int)+5)) hs bd hb hc.cells _ (.refl _)
  obtain⟨kD,hD⟩:=ha.dict
  refine⟨_,mS (mS (mS m0)),_,_,hc,rfl,p,b,D,j,k,bq kvs,al,rfl,by omega,j1,hc.cells.hide hp (fun _ z=>nomatch z),hc.cells.hide hb (fun _ z=>nomatch z),ha.keep (fun _ e=>hc.cells.hide e (fun _ z=>nomatch z)) (fun _ _ e=>hc.cells.hide e (fun _ z=>nomatch z)),by rw[ll];omega,?_⟩
  dsimp only
  rw[show V.int (j*((bq kvs).length:Int)+5)=kV (.inl (j*((bq kvs).length:Int)+5))from rfl,ev,eH]
  obtain⟨st',hl2⟩:=st.step (kk:=alF al k) (by rw[←ll kvs];exact hl')
  refine q v H2 (fun k=>bB kvs' (alF al k)) (fun x o n e=>keep x o n e)
   (.pla q0 q1 q2 D j j0 j1 kvs' al (hc.keep fun x φ e=>keep x _ (aW e hb (fun z=>nomatch z)) e) hb' (ha.keep (fun _ e=>keep _ _ (Lg bD) e) (fun _ _ e=>keep _ _ (aW e hb (fun z=>nomatch z)) e)) bD (by omega) hs' st' rfl ed) ?_ gv (lZ hk sv)
  rw[hg];exact fun k v e=>sub _ _ e
theorem iP {n:Nat}(h:2≤n):1≤aB n∧aB n<n:=by
 unfold aB
 have h1:=Pa (n:=n- 1) (by omega)
 exact⟨Nat.one_le_two_pow,by omega⟩
theorem oH (h:List Key→Key):∀(n m:Nat)(es:List Key),es.length≤n→es.length≤m→ik h n es=ik h m es:=by
 intro n
 induction n with
 |zero=>
  intro m es h1 h2
  cases es with
  |nil=>cases m<;>rfl
  |cons a r=>simp at h1
 |succ n ih=>
  intro m es h1 h2
  cases m with
  |zero=>
   cases es with
   |nil=>rfl
   |cons a r=>simp at h2
  |succ m=>
   match es,h1,h2 with
   |[],_,_=>rfl
   |[e],_,_=>rfl
   |a::b::r,h1,h2=>
    have hl:2≤(a::b::r).length:=by simp
    obtain⟨g1,g2⟩:=iP hl
    show[_,h (ik h n ((a::b::r).take _)),h (ik h n ((a::b::r).drop _))]=[_,h (ik h m _),h (ik h m _)]
    rw[ih m _ (by rw[Lf];omega) (by rw[Lf];omega),ih m _ (by rw[LV];omega) (by rw[LV];omega)]
theorem oG (h:List Key→Key)(e:Key):eL h [e]=[.inr "entry",e]:=rfl
theorem oj (h:List Key→Key){es:List Key}(hl:2≤es.length):eL h es=[.inr "joint",h (eL h (es.take (aB es.length))),h (eL h (es.drop (aB es.length)))]:=by
 obtain⟨g1,g2⟩:=iP hl
 unfold eL
 match es,hl with
 |a::b::r,hl=>
  show[_,h (ik h ((b::r).length) ((a::b::r).take _)),h (ik h ((b::r).length) ((a::b::r).drop _))]=_
  have e:(a::b::r).length=(b::r).length+1:=rfl
  rw[oH h ((b::r).length) ((a::b::r).take (aB (a::b::r).length)).length _ (by rw[Lf];omega) (KA _),oH h ((b::r).length) ((a::b::r).drop (aB (a::b::r).length)).length _ (by rw[LV];omega) (KA _)]
theorem dY {H:Hp}(x:Key):aH H (kV x) (aY x):=by
 cases x with
 |inl i=>exact .int i
 |inr z=>exact .str z
theorem ixL {K:tx}{H:Hp}{Q:VK}{a:Addr}{xs:List V}{x:V}{i:Int}{j:Nat}(ha:H a=some (.lst xs))(e:i=j)(hx:xs[j]?=some x)(q:Q x H):aD K (.ref a) (.int i) H Q:=by
 subst e
 refine .inl (.inl ⟨a,xs,j,x,rfl,rfl,SqL.of ha,?_,q⟩)
 have hj:=(KC.mp hx).1
 rw[qY (by omega) (by omega)]
 simp[Lb,hx]
theorem iF {e:Key}(h:okP e=true):bp (aY e)=true:=by
 cases e with
 |inl i=>exact h
 |inr z=>rfl
theorem EW:(QD " !\"#$&'()*+,-./0123456789:;<=>?@ABCDEFGHIJKLMNOPQRSTUVWXYZ[\\]^_`"+QD "abcdefghijklmnopqrstuvwxyz{|}~")≤1000000:=by decide+kernel
def sg1:Str:=" !\"#$&'()*+,-./0123456789:;<=>?@ABCDEFGHIJKLMNOPQRSTUVWXYZ[\\]^_`"
def sg2:Str:="abcdefghijklmnopqrstuvwxyz{|}~"
theorem Dk:(sg1++sg2).length=94∧(sg1++sg2).cps.toList.length=94∧(sg1++sg2).cps.toList.all (·<128)=true:=by decide+kernel
theorem yA {zs:List Str}(h:∀z∈zs,cv z=true):cv (Txt.join "" zs)=true:=by
 rw[nO]
 induction zs with
 |nil=>decide+kernel
 |cons z r ih=>exact oM (h z Lv) (ih fun y hy=>h y (KQ _ hy))
theorem DZ (K:tx)(A:Adr):Ln (eO K A) 2:=by rintro vs H Q E ⟨a,ns,k,rfl,_⟩;rfl
theorem FO (T:Txt K mg A):Rd (eO K A) (Ke K A) ["_law_script","_law_k"]:=by
 intro vs H Q E h
 obtain⟨a,ns,k,rfl,hs,h0,q⟩:=h
 refine .inl (.inl ⟨_,hs,Sel.dec (fun h=>?_) (fun h=>q 0)⟩)
 obtain⟨v,hv⟩:=wM h0 h
 obtain⟨j,_,hj,_⟩:=iK hv
 obtain⟨z,_,rfl⟩:=iV hj
 exact .inl (.inl ⟨a,_,k,_,rfl,rfl,hs,hv,q z⟩)
theorem BN (K:tx)(A:Adr):Ln (pY K A) 1:=by rintro vs H Q E ⟨i,rfl,_⟩;rfl
theorem FV (T:Txt K mg A):Rd (pY K A) (Ki K A) ["_law_cell","_law_some"]:=by
 intro vs H Q E h
 obtain⟨c,rfl,q⟩:=h
 obtain⟨g1,g2,g3⟩:=Dk
 refine⟨aF EW,?_⟩
 show we K A _ [some (.int c),some (.str (sg1++sg2))] H
 refine⟨rfl,by decide,c%5,rfl,by omega,by omega,fun D hD=>?_⟩
 refine fS (dc.range (lo:=0) (n:=(c%5).toNat)) (fun i ys H2=>∃zs:List Str,ys=zs.map V.str∧zs.length=i∧(∀z∈zs,z.length=1∧cv z=true)∧H2=upd H D (.lst ys)) (fun _ _ _ _ _=>trivial) ⟨[],rfl,rfl,(fun _ h=>nomatch h),rfl⟩ (fun i ys H2 hi ⟨zs,e1,e2,e3,e4⟩=>?_) ?_
 ·subst e4
  refine lN ⟨⟨by decide,by decide⟩,⟨by decide,by decide⟩,by decide,Kb (by omega) (by omega),by decide,?_⟩
  generalize (c/5+_:Int)=w
  obtain⟨cc,hcc⟩:=wM (xs:=(sg1++sg2).cps.toList) (i:=w%94) (by omega) (by rw[g2];omega)
  refine .inl (.inr (.inr ⟨_,_,cc,rfl,rfl,by rw[g1];exact aF (by decide),hcc,?_⟩))
  have hyl:ys.length=i:=by rw[e1,Kz,e2]
  refine⟨ai,by rw[hyl];exact bK (by omega),CWd.next hi ⟨zs++[⟨#[cc]⟩],by rw[e1,Lc];rfl,by rw[KI,e2];rfl,fun z hz=>?_,eW⟩⟩
  rcases LY.mp hz with h|h
  ·exact e3 z h
  ·rw[KW.mp h]
   refine⟨rfl,?_⟩
   obtain⟨j,_,hj,_⟩:=iK hcc
   have:=of_decide_eq_true (Mc.mp g3 cc (KM hj))
   unfold cv
   simp
   omega
 ·rintro ys H2 ⟨zs,rfl,e2,e3,rfl⟩
  have hl:(Txt.join "" zs).length=zs.length:=xt zs fun z hz=>(e3 z hz).1
  refine⟨_,_,zs,rfl,rfl,ai,?_,q _ _ (au.upd hD) (by rw[hl];omega) (yA fun z hz=>(e3 z hz).2)⟩
  have e0:(("":String):Str).length=0:=by decide
  rw[e0,lC zs fun z hz=>(e3 z hz).1]
  omega
theorem Eg (K:tx)(A:Adr):Ln (jw K A) 1:=by rintro vs H Q E ⟨i,rfl,_⟩;rfl
theorem Hx (T:Txt K mg A):Rd (jw K A) (JW K A) ["_law_cell"]:=by
 intro vs H Q E h
 obtain⟨c,rfl,q⟩:=h
 have p60:(7:Int)<10^60:=by decide+kernel
 have num:∀i:Int,0≤i→i<10^60→Q (.int i) H:=fun i h0 h1=>q (.inl i) H (.refl _) ⟨decide_eq_true ⟨h0,h1⟩,show 62≤70 by decide⟩
 refine⟨by decide,Sel.dec (fun h=>?_) (fun h=>?_)⟩
 ·refine⟨by decide,_,rfl,fun z H' S hz ha=>q (.inr z) H' S ⟨?_,?_⟩⟩
  ·show(cv z&&decide (z.length≤100000))=true
   rw[ha,decide_eq_true (by omega)];rfl
  ·show z.length+62≤70
   omega
 refine⟨by decide,Sel.dec (fun h=>?_) (fun h=>?_)⟩
 ·refine⟨by decide,⟨by decide,by decide,by decide⟩,by decide+kernel,?_⟩
  have p:(0:Int)<10^60:=by decide+kernel
  exact num (c/4%10^60) (NE _ (Int.ne_of_gt p)) (MX _ p)
 ·exact⟨by decide,by decide,num (c/4%7) (by omega) (by omega)⟩
theorem gR {K:tx}{H:Hp}{Q:VK}{L:Addr}{qs:List V}{p:V}(hL:H L=some (.lst (qs++[p])))(q:Q p H):aD K (.ref L) (.int (-1)) H Q:=
 .inl (.inl ⟨L,_,-1,p,rfl,rfl,SqL.of hL,yK _ _,q⟩)
theorem jZ {w:Str}{r:List Key}(hw:okP (.inr w)=true)(hr:∀x∈r,okP x=true)(hl:r.length≤7):okT (.inr w::r)=true:=by
 show(decide (1≤r.length+1∧r.length+1≤8)&&true&&(okP (.inr w)&&r.all okP))=true
 rw[hw,Mc.mpr hr,decide_eq_true (by omega)];rfl
theorem nF {k:List Key}{v:Key}(h:qB k v):szK v≤szT k+62:=by
 cases v with
 |inl i=>exact Nat.le_add_left _ _
 |inr z=>exact SG h.2 _
theorem iQ {k:List Key}{v:Key}(h:qB k v)(hs:szT k≤100000):okP v=true:=by
 cases v with
 |inl i=>exact decide_eq_true (by obtain⟨h1,h2⟩:=(show 0≤i∧i<10^59 from h);omega)
 |inr z=>
  show(cv z&&decide (z.length≤100000))=true
  rw[h.1,decide_eq_true (KR h.2 hs)];rfl
theorem mF:∀{a b:Key},kV a=kV b→a=b
 |.inl _,.inl _,h=>by cases h;rfl
 |.inr _,.inr _,h=>by cases h;rfl
theorem okW:okP (.inr "void")=true∧okP (.inr "entry")=true∧okP (.inr "joint")=true∧okP (.inr "row")=true:=by decide+kernel
theorem szW:szK (.inr "void")=66∧szK (.inr "entry")=67∧szK (.inr "joint")=67∧szK (.inr "row")=65:=by decide+kernel
theorem sz1 (x:Key):szT [x]=szK x:=by simp[szT]
theorem sz2 (x y:Key):szT [x,y]=szK x+szK y:=by simp[szT]
theorem sz3 (x y z:Key):szT [x,y,z]=szK x+(szK y+szK z):=by simp[szT]
theorem oh {e:Key}(h:okP e=true):okT [.inr "entry",e]=true:=jZ okW.2.1 (fun x hx=>by rw[KW.mp hx];exact h) (show 1≤7 by decide)
theorem kE {x y:Key}(hx:okP x=true)(hy:okP y=true):okT [.inr "joint",x,y]=true:=jZ okW.2.2.1 (fun z hz=>by
 rcases KY.mp hz with h|h
 ·rw[h];exact hx
 ·rw[KW.mp h];exact hy) (show 2≤7 by decide)
theorem lP {m:Nat}(h:2≤m):aB m<m:=by
 have:=Pa (n:=m- 1) (by omega)
 unfold aB;omega
theorem ij {m:Nat}(h:2≤m):m≤2*aB m:=by
 have:=Nat.lt_log2_self (n:=m- 1)
 unfold aB;rw[Sq]at this;omega
theorem km {m e:Nat}(h:2≤m)(he:m≤2^e):∃k,aB m=2^k∧k<e:=by
 refine⟨QU (m- 1),rfl,?_⟩
 have h1:=Pa (n:=m- 1) (by omega)
 exact(RH (by decide:1<2)).mp (by omega:2^QU (m- 1)<2^e)
theorem hV {m e:Nat}(h:2≤m)(he:m≤2^(e+1)):aB m≤2^e:=by
 obtain⟨k,e1,hk⟩:=km h he
 rw[e1];exact PJ (by decide) (by omega)
theorem hU {e p m:Nat}(h:m≤1):cj e p m=[]:=by
 cases e with
 |zero=>rfl
 |succ e=>unfold cj;rw[if_pos h]
theorem gi {e p m:Nat}(h:¬m≤1):cj (e+1) p m=if p<aB m then 0::cj e p (aB m)else 1::cj e (p- aB m) (m- aB m):=by
 show(if m≤1 then _ else _)=_
 rw[if_neg h]
theorem EB (K:tx)(A:Adr):Ln (lh K A) 1:=by rintro vs H Q E ⟨m,rfl,_⟩;rfl
theorem HD (T:Txt K mg A)(vs:List V)(H:Hp)(Q:VK)(E:XK)(h:lh K A vs H Q E):JA K A {nx:=fun _ H'=>Q .non H',rt:=Q} (start ["many"] vs) H:=by
 obtain⟨m,rfl,h2,h60,q⟩:=h
 obtain⟨k,ek,hk⟩:=km h2 h60
 have e:(MH ((m:Int)- 1):Int)- 1=((QU (m- 1):Nat):Int):=by
  unfold MH
  rw[if_neg (by simp;omega)]
  have:((m:Int)- 1).natAbs=m- 1:=by omega
  rw[this];omega
 have hl:QU (m- 1)<60:=by
  have h1:=Pa (n:=m- 1) (by omega)
  exact(RH (by decide:1<2)).mp (by omega:2^QU (m- 1)<2^60)
 refine⟨rfl,?_⟩
 show((0≤(MH ((m:Int)- 1):Int)- 1∧_∧_)∧Q (.int (1*2^((MH ((m:Int)- 1):Int)- 1).toNat)) H)
 rw[e]
 refine⟨⟨by omega,by omega,by decide⟩,?_⟩
 rw[Int.one_mul,MB,←FZ]
 exact q
theorem BP (K:tx)(A:Adr):Ln (lW K A) 2:=by rintro vs H Q E ⟨p,m,rfl,_⟩;rfl
theorem Gg (T:Txt K mg A)(vs:List V)(H:Hp)(Q:VK)(E:XK)(h:lW K A vs H Q E):IQ K A {nx:=fun _ H'=>Q .non H',rt:=Q} (start ["place","many","turns","first","rest","ahead"] vs) H:=by
 obtain⟨p,m,rfl,hp,hm,q⟩:=h
 refine⟨by show 0≤sizeLine;decide,fun D hD=>?_⟩
 have q':=q D hD
 refine⟨fun e σ H2=>∃(f r:Nat)(ts:List Int)(ah:Option V),σ=[some (.int p),some (.int m),some (.ref D),some (.int f),some (.int r),ah]∧H2=upd H D (.lst (ts.map V.int))∧
  f≤p∧p<f+r∧r≤2^e∧e≤60∧ts.length+e=60∧ts++cj e (p- f) r=cj 60 p m,⟨60,0,m,[],none,rfl,rfl,by omega,by omega,hm,by omega,rfl,by rw[TX,NC]⟩,?_⟩
 rintro e σ H2 ⟨f,r,ts,ah,rfl,rfl,hf,hr,he,h60,hl,hw⟩
 refine xa (fun h=>?_) (fun h=>?_)
 ·have h2:2≤r:=by omega
  cases e with
  |zero=>simp at he;omega
  |succ e=>
  have b1:=lP h2
  have b2:=ij h2
  have b3:=hV h2 he
  have hr60:r≤2^60:=KR he (PJ (by decide) h60)
  rw[gi (by omega)]at hw
  refine⟨fun σ' H'=>∃(f r:Nat)(ts:List Int)(ah:Option V),σ'=[some (.int p),some (.int m),some (.ref D),some (.int f),some (.int r),ah]∧H'=upd H D (.lst (ts.map V.int))∧
   f≤p∧p<f+r∧r≤2^e∧e≤60∧ts.length+e=60∧ts++cj e (p- f) r=cj 60 p m,fun σ' H' w=>⟨e,by omega,w⟩,?_⟩
  refine⟨r,rfl,h2,hr60,?_⟩
  refine Sel.dec (fun hlt=>?_) (fun hlt=>?_)
  ·rw[if_pos (by omega)]at hw
   refine⟨.inl ⟨rfl,_,SqL.of ai⟩,D,_,_,rfl,rfl,ai,by rw[Kz];exact bK (by omega),?_⟩
   refine⟨f,aB r,ts++[0],_,rfl,by rw[Lc];exact eW,hf,by omega,b3,by omega,by rw[KI];simp;omega,?_⟩
   rw[Mz];exact hw
  ·rw[if_neg (by omega)]at hw
   refine⟨.inl ⟨rfl,_,SqL.of ai⟩,D,_,_,rfl,rfl,ai,by rw[Kz];exact bK (by omega),?_⟩
   refine⟨f+aB r,r- aB r,ts++[1],some (.int (aB r)),?_,by rw[Lc];exact eW,by omega,by omega,by omega,by omega,by rw[KI];simp;omega,?_⟩
   ·show[some (V.int p),some (V.int m),some (V.ref D),some (V.int ((f:Int)+(aB r:Int))),some (V.int ((r:Int)- (aB r:Int))),some (V.int (aB r))]=_
    rw[show((f:Int)+(aB r:Int))=((f+aB r:Nat):Int)by omega,show((r:Int)- (aB r:Int))=((r- aB r:Nat):Int)by omega]
   ·rw[Mz,show p- (f+aB r)=p- f- aB r by omega];exact hw
 ·rw[hU (by omega),LW]at hw
  show Q (.ref D) (upd H D (.lst (ts.map V.int)))
  rw[hw];exact q'
theorem Cb (K:tx)(A:Adr):Ln (pS K A) 3:=by rintro vs H Q E ⟨t,o,a,rfl,_⟩;rfl
theorem Gc (T:Txt K mg A):Rd (pS K A) (JB K A) ["turn","own","aside"]:=by
 intro vs H Q E h
 obtain⟨t,o,a,rfl,q⟩:=h
 unfold jtT at q
 refine Sel.dec (fun h=>⟨aF (show 3≤1000000 by decide),fun p hp=>?_⟩) (fun h=>⟨aF (show 3≤1000000 by decide),fun p hp=>?_⟩)
 ·rw[if_pos h]at q;exact q p hp
 ·rw[if_neg h]at q;exact q p hp
theorem bL.same {H H':Hp}{P T:Addr}{e:Key}{ks:List Key}(w:bL H P T e ks)(S:au H H'):bL H' P T e ks:=⟨S _ _ w.hP,S _ _ w.hT⟩
theorem Hq (K:tx)(A:Adr):Ln (tF K A) 2:=by rintro vs H Q E ⟨x,dx,f,rfl,_⟩;rfl
theorem IG (T:Txt K mg A):Rd (tF K A) (T_3 K A) ["self","stamper"]:=by
 intro vs H Q E h
 obtain⟨x,dx,f,rfl,hx,q⟩:=h
 refine⟨x,A.c_Row,dx,[],rfl,hx,T.cl_Row,T.na_Row_stamper,by decide,Ly _,fun L hL=>?_⟩
 obtain⟨Lx,hL⟩:=bO hL
 refine⟨x,A.c_Row,dx,_,rfl,by rw[ao (Lg Lx)];exact ai,T.cl_Row,T.na_Row_entries,by show 1<1000;decide,.inr fun D hD=>?_⟩
 obtain⟨Dx,hD⟩:=bO hD
 obtain⟨DL,hD⟩:=bO hD
 obtain⟨_,hD⟩:=bO hD
 refine⟨x,A.c_Row,dx,_,rfl,by rw[ao (Lg Dx)];exact ai,T.cl_Row,T.na_Row_tops,by show 2<1000;decide,q L D _ (fun z o zx e=>?_) hL hD (Lg DL) ai ?_ ?_⟩
 ·rw[ao zx,ao (av e hD),ao zx,ao (av e hL),ao zx];exact e
 ·rw[ao Lx,ao (Lg DL),ao Lx];exact ai
 ·rw[ao Dx];exact ai
theorem Ft (K:tx)(A:Adr):Ln (kI K A) 1:=by rintro vs H Q E ⟨x,f,L,D,es,kvs,rfl,_⟩;rfl
theorem Jb (T:Txt K mg A):Rd (kI K A) (T_9 K A) ["self"]:=by
 intro vs H Q E h
 obtain⟨x,f,L,D,es,kvs,rfl,r,q⟩:=h
 obtain⟨dx,hx⟩:=r.ob
 refine⟨x,A.c_Row,dx,_,.ref L,rfl,hx,T.cl_Row,T.na_Row_entries,rfl,.inl (.inl ⟨_,SqL.of r.hl,?_⟩)⟩
 rw[Kz];exact q
theorem Stp.bb {H:Hp}{f b:Addr}{d:Kd}{g:gOp}{n:Nat}(s:Stp A H f b d g n):(∃φ,H b=some (.ext φ))∨∃kvs,H b=some (.dT kvs):=by
 cases s with
 |wri hc hb hg=>obtain⟨c,h1,_⟩:=hc.ex;exact .inl ⟨_,by rw[hb];exact h1⟩
 |cnt q x kvs hc num=>exact .inr ⟨_,num.di⟩
 |wea q m h1 h2 hc hb hg=>obtain⟨c,h1,_⟩:=hc.ex;exact .inl ⟨_,by rw[hb];exact h1⟩
 |pla q0 q1 q2 D j j0 j1 kvs al hc hb=>exact .inr ⟨_,hb⟩
theorem Stp.nb {H:Hp}{f b z:Addr}{d:Kd}{g:gOp}{n:Nat}{o:HO}(s:Stp A H f b d g n)(h:H z=some o)(h1:∀φ,o≠.ext φ)(h2:∀kvs,o≠.dT kvs):z≠b:=fun e=>by
 subst e
 rcases s.bb with⟨φ,e⟩|⟨kvs,e⟩
 ·rw[h]at e;exact h1 _ (KL e)
 ·rw[h]at e;exact h2 _ (KL e)
theorem Stp.setL {H:Hp}{f b L:Addr}{d:Kd}{g:List Key→Option Key}{n:Nat}{xs:List V}{o:HO}(s:Stp A H f b d g n)(hL:H L=some (.lst xs)):Stp A (upd H L o) f b d g n:=by
 have kx:∀z (u:HO),H z=some u→(∀xs,u≠.lst xs)→upd H L o z=some u:=fun z u e hu=>by rw[ao (aW e hL (hu _))];exact e
 cases s with
 |wri hc hb hg ed=>exact .wri (hc.keep fun x φ e=>kx _ _ e (fun _ z=>nomatch z)) hb hg ed
 |cnt q x kvs hc num hl hs st hg ed=>
  obtain⟨⟨dx,h1⟩,h2⟩:=num
  exact .cnt q x kvs (hc.keep fun x φ e=>kx _ _ e (fun _ z=>nomatch z)) ⟨⟨dx,kx _ _ h1 (fun _ z=>nomatch z)⟩,kx _ _ h2 (fun _ z=>nomatch z)⟩ hl hs st hg ed
 |wea q m h1 h2 hc hb hg ed=>exact .wea q m h1 h2 (hc.keep fun x φ e=>kx _ _ e (fun _ z=>nomatch z)) hb hg ed
 |pla q0 q1 q2 D j j0 j1 kvs al hc hb ha bD hl hs st hg ed=>exact .pla q0 q1 q2 D j j0 j1 kvs al (hc.keep fun x φ e=>kx _ _ e (fun _ z=>nomatch z)) (kx _ _ hb (fun _ z=>nomatch z)) (ha.keep (fun _ e=>kx _ _ e (fun _ z=>nomatch z)) (fun _ _ e=>kx _ _ e (fun _ z=>nomatch z))) bD hl hs st hg ed
theorem Stp.keep {H H':Hp}{f b:Addr}{d:Kd}{g:List Key→Option Key}{n m:Nat}(s:Stp A H f b d g n)(hn:n≤m)(k:∀z o,H z=some o→(∀xs,o≠.dK xs)→(∀xs,o≠.lst xs)→H' z=some o):Stp A H' f b d g m:=by
 have kx:∀z φ,H z=some (.ext φ)→H' z=some (.ext φ):=fun z φ e=>k z _ e (fun _ z=>nomatch z) (fun _ z=>nomatch z)
 have kd:∀z xs,H z=some (.dT xs)→H' z=some (.dT xs):=fun z φ e=>k z _ e (fun _ z=>nomatch z) (fun _ z=>nomatch z)
 cases s with
 |wri hc hb hg ed=>exact .wri (hc.keep kx) hb hg ed
 |cnt q x kvs hc num hl hs st hg ed=>
  obtain⟨⟨dx,h1⟩,h2⟩:=num
  exact .cnt q x kvs (hc.keep kx) ⟨⟨dx,k _ _ h1 (fun _ z=>nomatch z) (fun _ z=>nomatch z)⟩,kd _ _ h2⟩ (KR hl hn) hs st hg ed
 |wea q m h1 h2 hc hb hg ed=>exact .wea q m h1 h2 (hc.keep kx) hb hg ed
 |pla q0 q1 q2 D j j0 j1 kvs al hc hb ha bD hl hs st hg ed=>exact .pla q0 q1 q2 D j j0 j1 kvs al (hc.keep kx) (kd _ _ hb) (ha.keep (fun _ e=>kd _ _ e) (fun _ _ e=>k _ _ e (fun _ z=>nomatch z) (fun _ z=>nomatch z))) bD (KR hl hn) hs st hg ed
theorem Stp.setD {H:Hp}{f b D:Addr}{kd:Kd}{g:List Key→Option Key}{n m:Nat}{xs:List (List Key×V)}{o:HO}(s:Stp A H f b kd g n)(hD:H D=some (.dT xs))(h1:D≠b)(h2:∀A0 al,kd=.pla A0 al→D≠A0)(hn:n≤m):Stp A (upd H D o) f b kd g m:=by
 have kx:∀z u,H z=some u→z≠D→upd H D o z=some u:=fun z u e ne=>by rw[ao ne];exact e
 have ke:∀z φ,H z=some (.ext φ)→upd H D o z=some (.ext φ):=fun z φ e=>kx _ _ e (aW e hD (fun z=>nomatch z))
 cases s with
 |wri hc hb hg ed=>exact .wri (hc.keep fun x φ e=>ke _ _ e) hb hg ed
 |cnt q x kvs hc num hl hs st hg ed=>
  obtain⟨⟨dx,e1⟩,e2⟩:=num
  exact .cnt q x kvs (hc.keep fun x φ e=>ke _ _ e) ⟨⟨dx,kx _ _ e1 (aW e1 hD (fun z=>nomatch z))⟩,kx _ _ e2 (Lg h1)⟩ (by omega) hs st hg ed
 |wea q m h1 h2 hc hb hg ed=>exact .wea q m h1 h2 (hc.keep fun x φ e=>ke _ _ e) hb hg ed
 |pla q0 q1 q2 A0 j j0 j1 kvs al hc hb ha bD hl hs st hg ed=>
  have nA:=h2 A0 al ed
  refine .pla q0 q1 q2 A0 j j0 j1 kvs al (hc.keep fun x φ e=>ke _ _ e) (kx _ _ hb (Lg h1)) ?_ bD (by omega) hs st hg ed
  cases al with
  |none=>exact kx _ _ ha (Lg nA)
  |some p=>
   obtain⟨u,e1,e2,e3⟩:=ha
   exact⟨u,kx _ _ e1 (Lg nA),kx _ _ e2 (aW e2 hD (fun z=>nomatch z)),e3⟩
theorem AC (kvs:List (List Key×Key))(k:List Key)(v:Key):∃kvs',bq kvs'=bx (bq kvs) k (kV v)∧kvs'.length≤kvs.length+1∧∀j,bB kvs' j=if j=k then some v else bB kvs j:=by
 have fin:∀kvs':List (List Key×Key),bq kvs'=bx (bq kvs) k (kV v)→∀j,bB kvs' j=if j=k then some v else bB kvs j:=by
  intro kvs' e j
  have h:=fN kvs' j
  rw[e,fV,fN]at h
  by_cases hj:j=k
  ·rw[if_pos hj]at h⊢
   cases g:bB kvs' j with
   |none=>rw[g]at h;cases h
   |some w=>rw[g]at h;rw[mF (KL h)]
  ·rw[if_neg hj]at h⊢
   cases g:bB kvs' j with
   |none=>
    rw[g]at h
    cases g2:bB kvs j with
    |none=>rfl
    |some w=>rw[g2]at h;cases h
   |some w=>
    rw[g]at h
    cases g2:bB kvs j with
    |none=>rw[g2]at h;cases h
    |some u=>rw[g2]at h;rw[mF (KL h)]
 by_cases c:((bq kvs).any fun kv=>decide (kv.1=k))=true
 ·have e:bq (kvs.map fun kv=>if kv.1=k then(kv.1,v)else kv)=bx (bq kvs) k (kV v):=by
   unfold bx
   rw[if_pos c]
   unfold bq
   rw[Pr,Pr]
   apply List.map_congr_left
   intro p _
   show((if p.1=k then(p.1,v)else p).1,kV (if p.1=k then(p.1,v)else p).2)=if p.1=k then(p.1,kV v)else(p.1,kV p.2)
   by_cases h:p.1=k
   ·rw[if_pos h,if_pos h]
   ·rw[if_neg h,if_neg h]
  exact⟨_,e,by rw[Kz];omega,fin _ e⟩
 ·have e:bq (kvs++[(k,v)])=bx (bq kvs) k (kV v):=by
   unfold bx
   rw[if_neg c]
   unfold bq
   rw[Lc];rfl
  exact⟨_,e,by simp,fin _ e⟩
theorem fJ.mono {g g':gOp}{es:List Key}{kvs:List (List Key×Key)}(c:fJ g es kvs)(s:Sub g g'):fJ g' es kvs:=fun k v e=>by
 obtain⟨a,m,h1,h2,h3,h4,h5⟩:=c k v e
 exact⟨a,m,h1,h2,h3,h4,fun h x=>h5 h (Ext.of s x)⟩
theorem yD:okT [.inr "void"]=true:=jZ okW.1 (fun _ h=>nomatch h) (by decide)
theorem iC.same {H H':Hp}{x f L D:Addr}{es:List Key}{kvs:List (List Key×Key)}(r:iC A H x f L D es kvs)(S:au H H'):iC A H' x f L D es kvs:=by
 obtain⟨dx,hx⟩:=r.ob
 exact⟨⟨dx,S _ _ hx⟩,S _ _ r.hl,S _ _ r.hd,r.en,r.le⟩
section
variable {H H':Hp}{x f L D b:Addr}{kd:Kd}{es:List Key}{kvs:List (List Key×Key)}{g g':gOp}{n m:Nat}
theorem bY.same (r:bY A H x f L D b kd es kvs g n)(S:au H H')(hn:n≤m):bY A H' x f L D b kd es kvs g m:=⟨r.r.same S,r.s.same hn S,r.c,r.db,r.da,KR r.kl hn⟩
theorem bY.call (r:bY A H x f L D b kd es kvs g n)(kb:ba b H H')(s:Stp A H' f b kd g' m)(sub:Sub g g')(hn:n≤m):bY A H' x f L D b kd es kvs g' m:=by
 obtain⟨dx,hx⟩:=r.r.ob
 exact⟨⟨⟨dx,kb _ _ (r.s.nb hx (fun _ z=>nomatch z) (fun _ z=>nomatch z)) hx⟩,kb _ _ (r.s.nb r.r.hl (fun _ z=>nomatch z) (fun _ z=>nomatch z)) r.r.hl,kb _ _ r.db r.r.hd,r.r.en,r.r.le⟩,s,r.c.mono sub,r.db,r.da,KR r.kl hn⟩
theorem bY.n2 (r:bY A H x f L D b kd es kvs g n){z:Addr}{o:HO}(h:H z=some o)(h1:∀φ,o≠.ext φ)(h2:∀kvs,o≠.dT kvs):z≠b∧z≠D:=⟨r.s.nb h h1 h2,aW h r.r.hd (h2 _)⟩
theorem bS.trans {H1 H2:Hp}(a:bS b D H H1)(c:bS b D H1 H2):bS b D H H2:=fun x o n n' e=>c x o n n' (a x o n n' e)
theorem bS.same (S:au H H'):bS b D H H':=fun x o _ _ e=>S x o e
theorem bS.kb (k:ba b H H'):bS b D H H':=fun x o n _ e=>k x o n e
end
theorem DJ (K:tx)(A:Adr)(n:Nat):Ln (qf K A n) 3:=by rintro vs H Q E ⟨x,f,L,D,b,kd,es,kvs,g,n,a,m,rfl,_⟩;rfl
theorem HA (T:Txt K mg A)(n:Nat)(vs:List V)(H:Hp)(Q:VK)(E:XK)(h:qf K A n vs H Q E):Kn K A n {nx:=fun _ H'=>Q .non H',rt:=Q} (L2.start ["self","first","many","ahead"] vs) H:=by
 obtain⟨x,f,L,D,b,kd,es,kvs,g,N,a,m,rfl,r,ham,hm,hN,q⟩:=h
 obtain⟨dx,hx⟩:=r.r.ob
 have l60:=r.r.le
 refine Sel.dec (fun h=>?_) (fun h=>?_)
 ·obtain rfl:m=0:=by omega
  refine⟨aF (show 1≤1000000 by decide),fun p hp=>q p [.inr "void"] kvs g _ (bS.same (au.upd hp)) (r.same (au.upd hp) (KA _)) Sub.rfl' ai yD (by rw[sz1,szW.1];decide) fun h _=>?_⟩
  rw[List.take_zero];rfl
 refine Sel.dec (fun h=>?_) (fun h=>?_)
 ·obtain rfl:m=1:=by omega
  obtain⟨e,he⟩:∃e,es[a]?=some e:=⟨_,KB (by omega)⟩
  have en:=r.r.en e (KM he)
  refine⟨x,A.c_Row,dx,_,.ref L,rfl,hx,T.cl_Row,T.na_Row_entries,rfl,ixL r.r.hl rfl (by rw[La,he];rfl) ⟨aF (show 2≤1000000 by decide),fun p hp=>q p [.inr "entry",e] kvs g _ (bS.same (au.upd hp)) (r.same (au.upd hp) (KA _)) Sub.rfl' ai (oh en.1) ?_ fun h _=>?_⟩⟩
  ·have:=en.2
   rw[sz2,szW.2.1];show _≤200;omega
  ·have e1:(es.drop a).take 1=[e]:=by rw[List.take_one,List.head?_drop,he];rfl
   rw[e1];rfl
 ·have h2:2≤m:=by omega
  obtain⟨g1,g2⟩:=iP h2
  refine⟨m,rfl,h2,by omega,x,dx,_,rfl,hx,rfl,x,f,L,D,b,kd,es,kvs,g,N,a,aB m,rfl,r,by omega,by omega,by omega,fun v1 kvs1 g1' H1 k1 r1 s1 ok1 sz1' e1=>?_⟩
  obtain⟨dx1,hx1⟩:=r1.r.ob
  refine⟨x,dx1,_,rfl,hx1,rfl,x,f,L,D,b,kd,es,kvs1,g1',_,a+aB m,m- aB m,?_,r1,by omega,by omega,by omega,fun v2 kvs2 g2' H2 k2 r2 s2 ok2 sz2' e2=>?_⟩
  ·rw[Rh,RW (by omega)]
  ·refine⟨aF (show 3≤1000000 by decide),fun p hp=>q p [.inr "joint",v1,v2] kvs2 g2' _ ((k1.trans k2).trans (bS.same (au.upd hp))) (r2.same (au.upd hp) (by omega)) (s1.trans s2) ai (kE ok1 ok2) ?_ fun h eh=>?_⟩
   ·rw[sz3,szW.2.2.1]
    unfold szB at sz1' sz2'⊢
    omega
   ·have hl:((es.drop a).take m).length=m:=by rw[Lf,LV];omega
    rw[oj h (by rw[hl];exact h2),hl,e1 h (Ext.of s2 eh),e2 h eh,OH,ND (by omega),Um,Uo]
theorem DE (K:tx)(A:Adr)(n:Nat):Ln (ft K A n) 3:=by rintro vs H Q E ⟨x,f,L,D,b,kd,es,kvs,g,n,a,m,rfl,_⟩;rfl
theorem zX (K:tx)(A:Adr):∀vs H Q E,ft K A 0 vs H Q E→False:=by rintro vs H Q E ⟨x,f,L,D,b,kd,es,kvs,g,n,a,m,_,_,_,h,_⟩;omega
theorem Gi (T:Txt K mg A)(n:Nat):Rd (ft K A (n+1)) (Kf K A n) ["self","first","many","part"]:=by
 intro vs H Q E h
 obtain⟨x,f,L,D,b,kd,es,kvs,g,N,a,m,rfl,r,ham,hm,hN,q⟩:=h
 have l60:=r.r.le
 refine⟨aF (show 2≤1000000 by decide),fun p hp=>?_⟩
 have S1:au H (upd H p (.tup [.int (a:Int),.int (m:Int)])):=au.upd hp
 have r1:=r.same S1 (KA _)
 have hp1:upd H p (.tup [.int (a:Int),.int (m:Int)]) p=some (.tup (([.inl (a:Int),.inl (m:Int)]:List Key).map kV)):=ai
 generalize upd H p (.tup [.int (a:Int),.int (m:Int)])=H1 at S1 r1 hp1
 obtain⟨dx,hx1⟩:=r1.r.ob
 have g1:=cB.t r1.r.hd hp1
 rw[fN]at g1
 refine⟨x,A.c_Row,dx,_,.ref D,rfl,hx1,T.cl_Row,T.na_Row_tops,rfl,.inl ⟨D,_,rfl,g1,?_⟩⟩
 cases e:bB kvs [.inl (a:Int),.inl (m:Int)]with
 |some v=>
  rw[e]at g1
  refine Sel.no rfl ⟨x,A.c_Row,dx,_,.ref D,rfl,hx1,T.cl_Row,T.na_Row_tops,rfl,.inr ⟨D,_,rfl,g1,?_⟩⟩
  obtain⟨a',m',h1,h2,h3,h4,h5⟩:=r.c _ _ e
  have ea:a=a':=by have:=Qq (Mu h1).1;omega
  have em:m=m':=by have:=Qq (Mu (Mu h1).2).1;omega
  subst ea em
  exact q v kvs g H1 (bS.same S1) (r1.same au.rfl' (by omega)) Sub.rfl' h3 h4 h5
 |none=>
  refine Sel.yes rfl ⟨x,dx,_,f,rfl,hx1,rfl,r1.s.clo,x,dx,_,rfl,hx1,rfl,x,f,L,D,b,kd,es,kvs,g,N,a,m,rfl,r1,ham,by omega,hN,fun p2 k kvs2 g2 H2 k2 r2 s2 hp2 okk szk ek=>?_⟩
  dsimp only[am]
  refine fb r2.s (by omega) hp2 okk fun v H3 g3 kb s3 sub3 gv st=>?_
  have r3:=r2.call kb s3 sub3 (Np _)
  obtain⟨np,np'⟩:=r1.n2 hp1 (fun _ z=>nomatch z) (fun _ z=>nomatch z)
  have hp3:=kb _ _ np (k2 _ _ np np' hp1)
  obtain⟨dx3,hx3⟩:=r3.r.ob
  obtain⟨kvs4,e4,l4,f4⟩:=AC kvs2 [.inl (a:Int),.inl (m:Int)] v
  have kl:=r2.kl
  have ll:(bq kvs2).length=kvs2.length:=by simp[bq]
  refine⟨x,A.c_Row,dx3,_,.ref D,rfl,hx3,T.cl_Row,T.na_Row_tops,rfl,.inr ⟨D,_,rfl,.inr ⟨_,[.inl (a:Int),.inl (m:Int)],p,r3.r.hd,rfl,hp3,Mh (m:=50000) (by omega) (aF (n:=50001) (by decide)),rfl⟩,?_⟩⟩
  have xD:x≠D:=aW hx3 r3.r.hd (fun z=>nomatch z)
  have LD:L≠D:=aW r3.r.hl r3.r.hd (fun z=>nomatch z)
  have pD:p≠D:=np'
  have szv:szK v≤szB m:=KR (nF st) szk
  have okv:okP v=true:=iQ st (by unfold szB at szk;omega)
  have ev:∀h,Ext g3 h→v=h (eL h ((es.drop a).take m)):=fun h eh=>by rw[←ek h (Ext.of sub3 eh)];exact(eh _ _ gv).symm
  have gg:=cB.t (H:=upd H3 D (.dT (bx (bq kvs2) [.inl (a:Int),.inl (m:Int)] (kV v)))) (kvs:=bx (bq kvs2) [.inl (a:Int),.inl (m:Int)] (kV v)) (k:=[.inl (a:Int),.inl (m:Int)]) ai (by rw[ao pD];exact hp3)
  rw[fV,if_pos rfl]at gg
  refine⟨x,A.c_Row,dx3,_,.ref D,rfl,by rw[ao xD];exact hx3,T.cl_Row,T.na_Row_tops,rfl,.inr ⟨D,_,rfl,gg,?_⟩⟩
  have K4:bS b D H3 (upd H3 D (.dT (bx (bq kvs2) [.inl (a:Int),.inl (m:Int)] (kV v)))):=fun z o _ n e=>by rw[ao n];exact e
  refine q v kvs4 g3 _ ((((bS.same S1).trans k2).trans (bS.kb kb)).trans K4) ⟨⟨⟨dx3,by rw[ao xD];exact hx3⟩,by rw[ao LD];exact r3.r.hl,by rw[e4];exact ai,r3.r.en,r3.r.le⟩,?_,?_,r3.db,r3.da,by omega⟩ (s2.trans sub3) okv szv ev
  ·exact r3.s.setD r3.r.hd r3.db r3.da (by omega)
  ·intro k' v' e'
   rw[f4]at e'
   by_cases hk:k'=[.inl (a:Int),.inl (m:Int)]
   ·rw[if_pos hk]at e'
    obtain rfl:=KL e'
    exact⟨a,m,hk,ham,okv,szv,ev⟩
   ·rw[if_neg hk]at e'
    exact r3.c _ _ e'
def dw (c:Int)(st:List (Int×Key))(i:Nat)(v:Key):List Key:=match st[i]? with
 |some x=>jtT x.1 v x.2
 |none=>[.inr "row",.inl c,v]
theorem iu (h:List Key→Key)(c:Int)(e:Key)(st:List (Int×Key))(i:Nat):bZ h c e st (i+1)=dw c st i (h (bZ h c e st i)):=rfl
theorem oa (h:List Key→Key)(c:Int)(e:Key)(st:List (Int×Key))(m:Nat):dD h c e st (m+1)=dD h c e st m++[bZ h c e st m]:=by
 unfold dD;rw[List.range_succ,Lc];rfl
theorem yW (h:List Key→Key)(c:Int)(e:Key)(st:List (Int×Key)){m i:Nat}(hi:i<m):(dD h c e st m)[i]?=some (bZ h c e st i):=by
 unfold dD;rw[La,List.getElem?_range hi];rfl
theorem Ext.refl' (g:gOp):Ext g (fun k=>(g k).getD (.inl 0)):=fun k v e=>by show(g k).getD _=v;rw[e];rfl
theorem lB {g:gOp}{c:Int}{e:Key}{st:List (Int×Key)}{m:Nat}{tt:List (List Key)}{t:List Key}(H1:∀h,Ext g h→tt++[t]=dD h c e st (m+1)){h:List Key→Key}(eh:Ext g h):t=bZ h c e st m:=by
 have:=H1 h eh
 rw[oa]at this
 exact List.singleton_inj.mp (List.append_inj' this rfl).2
theorem xq {g g':gOp}{c:Int}{e:Key}{st:List (Int×Key)}{m:Nat}{tt:List (List Key)}{t:List Key}{v:Key}(H1:∀h,Ext g h→tt++[t]=dD h c e st (m+1))(sub:Sub g g')(gv:g' t=some v):
  ∀h,Ext g' h→(tt++[t])++[dw c st m v]=dD h c e st (m+2):=fun h eh=>by
 have e1:=Ext.of sub eh
 rw[oa,←H1 h e1,iu,←lB H1 e1,eh _ _ gv]
theorem yp {g g':gOp}{c:Int}{e:Key}{st:List (Int×Key)}{m:Nat}{tt:List (List Key)}(H1:∀h,Ext g h→tt=dD h c e st m)(sub:Sub g g'):∀h,Ext g' h→tt=dD h c e st m:=fun h eh=>H1 h (Ext.of sub eh)
theorem okC {c:Nat}(h:c<2^60):okP (.inl (c:Int))=true:=by
 have p60:(2:Int)^60<10^60:=by decide+kernel
 have k:∀i:Int,0≤i→i<10^60→okP (.inl i)=true:=fun i h0 h1=>decide_eq_true ⟨h0,h1⟩
 exact k _ (by omega) (by omega)
theorem Ht {t:Int}{v a:Key}(hv:okP v=true)(ha:okP a=true):okT (jtT t v a)=true:=by
 unfold jtT;split
 ·exact kE hv ha
 ·exact kE ha hv
theorem HR {t:Int}{v a:Key}:szT (jtT t v a)=67+szK v+szK a:=by
 unfold jtT;split
 ·rw[sz3,szW.2.2.1];omega
 ·rw[sz3,szW.2.2.1];omega
theorem Ee {c:Nat}{st:List (Int×Key)}{i B:Nat}{v:Key}(hc:c<2^60)(hm:∀x∈st,mkK x.2)(ov:okP v=true)(sv:szK v≤B+62):okT (dw c st i v)=true∧szT (dw c st i v)≤B+12200:=by
 unfold dw
 cases e:st[i]? with
 |some x=>
  have hx:=hm x (KM e)
  exact⟨Ht ov hx.1,by rw[HR];have:=hx.2;omega⟩
 |none=>
  refine⟨jZ okW.2.2.2 (fun z hz=>?_) (show 2≤7 by decide),?_⟩
  ·rcases KY.mp hz with rfl|hz
   ·exact okC hc
   ·rw[KW.mp hz];exact ov
  ·show szT [.inr "row",.inl (c:Int),v]≤_
   rw[sz3,szW.2.2.2];show 65+(62+szK v)≤_;omega
theorem Em {t:Int}{v v' a a':Key}(h:jtT t v a=jtT t v' a'):v=v'∧a=a':=by
 unfold jtT at h
 split at h
 ·cases h;exact⟨rfl,rfl⟩
 ·cases h;exact⟨rfl,rfl⟩
theorem Br {h:List Key→Key}{c:Int}{e e':Key}{st st':List (Int×Key)}(ht:st.map (·.1)=st'.map (·.1))(n:Nat)(hn:n≤st.length+1)
  (hc:∀i,i<n→h (bZ h c e st i)=h (bZ h c e' st' i)→bZ h c e st i=bZ h c e' st' i)(hl:bZ h c e st n=bZ h c e' st' n):e=e'∧∀j,j<n→st[j]? =st'[j]? :=by
 have hlen:st.length=st'.length:=by have:=congrArg PX ht;simpa using this
 induction n with
 |zero=>exact⟨by cases hl;rfl,fun j hj=>absurd hj (Nat.not_lt_zero _)⟩
 |succ n ih=>
  rw[iu,iu]at hl
  by_cases hn2:n<st.length
  ·have e1:st[n]? =some st[n]:=KB hn2
   have e2:st'[n]? =some (st'[n]'(by omega)):=KB (by omega)
   have et:(st[n]).1=(st'[n]'(by omega)).1:=by
    have:=congrArg (fun l=>l[n]?) ht
    simp only[La,e1,e2,NM,Option.some.injEq]at this
    exact this
   unfold dw at hl
   rw[e1,e2]at hl
   dsimp only at hl
   rw[←et]at hl
   obtain⟨hv,ha⟩:=Em hl
   obtain⟨r1,r2⟩:=ih (by omega) (fun i hi=>hc i (by omega)) (hc n (by omega) hv)
   refine⟨r1,fun j hj=>?_⟩
   rcases MV j n with h1|h1
   ·exact r2 j h1
   ·have:j=n:=by omega
    subst this
    rw[e1,e2]
    exact congrArg some (Uv et ha)
  ·have e1:st[n]? =none:=Lh (by omega)
   have e2:st'[n]? =none:=Lh (by omega)
   unfold dw at hl
   rw[e1,e2]at hl
   have hv:h (bZ h c e st n)=h (bZ h c e' st' n):=by injection hl with _ hl;injection hl with _ hl;injection hl
   obtain⟨r1,r2⟩:=ih (by omega) (fun i hi=>hc i (by omega)) (hc n (by omega) hv)
   refine⟨r1,fun j hj=>?_⟩
   rcases MV j n with h1|h1
   ·exact r2 j h1
   ·have:j=n:=by omega
    subst this
    rw[e1,e2]
theorem eD {ts:List Int}{ks:List Key}(h:ks.length=ts.length):(stR ts ks).length=ts.length:=by unfold stR;simp[Ps,h]
theorem Ai {ts:List Int}{ks ks':List Key}(h:ks.length=ts.length)(h':ks'.length=ts.length):(stR ts ks).map (·.1)=(stR ts ks').map (·.1):=by
 unfold stR
 rw[QC,QC]
 congr 1
 have z:∀(l:List Key),l.length=ts.length→(ts.zip l).map (·.1)=ts:=fun l hl=>by
  rw[show(fun x:Int×Key=>x.1)=Prod.fst from rfl,List.map_fst_zip (by omega)]
 rw[z _ h,z _ h']
theorem AL {ts:List Int}{ks ks':List Key}(h:ks.length=ts.length)(h':ks'.length=ts.length)(e:∀j,j<ts.length+1→(stR ts ks)[j]?=(stR ts ks')[j]?):ks=ks':=by
 have e1:stR ts ks=stR ts ks':=by
  refine OQ fun j=>?_
  rcases MV j (ts.length+1)with hj|hj
  ·exact e j hj
  ·rw[Lh (by rw[eD h];omega),Lh (by rw[eD h'];omega)]
 have e2:ts.zip ks=ts.zip ks':=by unfold stR at e1;exact List.reverse_inj.mp e1
 have z:∀(l:List Key),l.length=ts.length→(ts.zip l).map (·.2)=l:=fun l hl=>by
  rw[show(fun x:Int×Key=>x.2)=Prod.snd from rfl,List.map_snd_zip (by omega)]
 rw[←z _ h,e2,z _ h']
theorem AA {ts:List Int}{ks:List Key}{x:Int×Key}(h:x∈stR ts ks):x.1∈ts∧x.2∈ks:=by
 unfold stR at h
 rw[QB]at h
 obtain⟨a,b⟩:=x
 exact⟨(MC h).1,(MC h).2⟩
theorem mV {ts:List Int}{ks:List Key}(h:ks.length=ts.length){i:Nat}(hi:i<ts.length):∃t k,ts[ts.length- 1- i]?=some t∧ks[ts.length- 1- i]?=some k∧(stR ts ks)[i]?=some (t,k):=by
 refine⟨ts[ts.length- 1- i]'(by omega),ks[ts.length- 1- i]'(by omega),KB (by omega),KB (by omega),?_⟩
 unfold stR
 rw[Nz (by rw[Ps];omega)]
 have e:(ts.zip ks).length- 1- i=ts.length- 1- i:=by rw[Ps];omega
 rw[e,KB (by rw[Ps];omega),List.getElem_zip]
theorem vz {h:List Key→Key}{c:Int}{e e':Key}{ts:List Int}{ks ks':List Key}(l1:ks.length=ts.length)(l2:ks'.length=ts.length)
  (hc:∀a b,a∈dD h c e (stR ts ks) (ts.length+2)→b∈dD h c e' (stR ts ks') (ts.length+2)→h a=h b→a=b)
  (hl:h (bZ h c e (stR ts ks) (ts.length+1))=h (bZ h c e' (stR ts ks') (ts.length+1))):e=e'∧ks=ks':=by
 have m:∀(e:Key)(ks:List Key)(i:Nat),i≤ts.length+1→bZ h c e (stR ts ks) i∈dD h c e (stR ts ks) (ts.length+2):=fun e ks i hi=>KM (yW h c e (stR ts ks) (by omega:i<ts.length+2))
 obtain⟨r1,r2⟩:=Br (Ai l1 l2) (ts.length+1) (by rw[eD l1];omega) (fun i hi q=>hc _ _ (m _ _ i (by omega)) (m _ _ i (by omega)) q) (hc _ _ (m _ _ _ (KA _)) (m _ _ _ (KA _)) hl)
 exact⟨r1,AL l1 l2 r2⟩
theorem mi:∀(f p m:Nat),∀t∈cj f p m,t=0∨t=1
 |0,_,_,t,h=>nomatch h
 |f+1,p,m,t,h=>by
  rw[cj]at h
  split at h
  ·cases h
  ·split at h
   ·rcases KY.mp h with rfl|h
    ·exact .inl rfl
    ·exact mi f _ _ t h
   ·rcases KY.mp h with rfl|h
    ·exact .inr rfl
    ·exact mi f _ _ t h
theorem bL.kb {H H':Hp}{P T f b:Addr}{d:Kd}{e:Key}{ks:List Key}{g:gOp}{n:Nat}(w:bL H P T e ks)(s:Stp A H f b d g n)(k:ba b H H'):bL H' P T e ks:=
 ⟨k _ _ (s.nb w.hP (fun _ z=>nomatch z) (fun _ z=>nomatch z)) w.hP,k _ _ (s.nb w.hT (fun _ z=>nomatch z) (fun _ z=>nomatch z)) w.hT⟩
theorem gj.same {H H':Hp}{f b P T:Addr}{d:Kd}{c:Nat}{ts:List Int}{ks:List Key}{e:Key}{g:gOp}{n:Nat}(p:gj A H f b P T d c ts ks e g n)(S:au H H'):gj A H' f b P T d c ts ks e g n:=
 ⟨p.s.same (KA _) S,p.hn,p.c1,p.c2,p.tl,p.t01,p.kl,p.ee,p.ke,p.w.same S⟩
theorem CP (K:tx)(A:Adr):Ln (qh K A) 2:=by rintro vs H Q E ⟨p,m,rfl,_⟩;rfl
theorem EX (T:Txt K mg A):Rd (qh K A) (JI K A) ["_law_place","_law_many","_law_turns","_law_cut"]:=by
 intro vs H Q E h
 obtain⟨p,m,rfl,hp,hm,q⟩:=h
 refine⟨by show 0≤sizeLine;decide,fun D hD=>?_⟩
 have q':=q D hD
 refine⟨⟨by decide,by decide,by decide⟩,?_⟩
 show ∃_,_
 refine⟨fun e σ H2=>∃(f r c:Nat)(ts:List Int),σ=[some (.int (f:Int)),some (.int (r:Int)),some (.ref D),some (.int ((2^c:Nat):Int))]∧H2=upd H D (.lst (ts.map V.int))∧
  f<r∧r≤2^e∧r≤2^c∧e≤60∧ts.length+e=60∧ts++cj e f r=cj 60 p m,⟨60,p,m,60,[],rfl,rfl,hp,hm,hm,KA _,rfl,by rw[TX]⟩,?_⟩
 rintro e σ H2 ⟨f,r,c,ts,rfl,rfl,hf,he,hc,h60,hl,hw⟩
 refine xa (fun h=>?_) (fun h=>?_)
 ·have h2:2≤r:=by have h:(1:Int)<(r:Int):=h;omega
  cases e with
  |zero=>simp at he;omega
  |succ e=>
  have b1:=lP h2
  have b2:=ij h2
  have b3:=hV h2 he
  obtain⟨k,ek,hk⟩:=km h2 hc
  rw[gi (by omega)]at hw
  refine⟨fun σ' H'=>∃(f r c:Nat)(ts:List Int),σ'=[some (.int (f:Int)),some (.int (r:Int)),some (.ref D),some (.int ((2^c:Nat):Int))]∧H'=upd H D (.lst (ts.map V.int))∧
   f<r∧r≤2^e∧r≤2^c∧e≤60∧ts.length+e=60∧ts++cj e f r=cj 60 p m,fun σ' H' w=>⟨e,by omega,w⟩,?_⟩
  refine⟨fun g σ' H'=>∃d:Nat,σ'=[some (.int (f:Int)),some (.int (r:Int)),some (.ref D),some (.int ((2^d:Nat):Int))]∧H'=upd H D (.lst (ts.map V.int))∧g=d∧k≤d,⟨c,c,rfl,rfl,rfl,by omega⟩,?_⟩
  rintro g σ' H' ⟨d,rfl,rfl,rfl,hd⟩
  refine xa (fun h=>?_) (fun h=>?_)
  ·have h:(r:Int)≤((2^g:Nat):Int):=h
   have hkd:k<g:=by
    rcases MV k g with h'|h'
    ·exact h'
    ·have:k=g:=by omega
     subst this
     omega
   cases g with
   |zero=>omega
   |succ g=>
   refine⟨fun σ'' H''=>∃d:Nat,σ''=[some (.int (f:Int)),some (.int (r:Int)),some (.ref D),some (.int ((2^d:Nat):Int))]∧H''=upd H D (.lst (ts.map V.int))∧g=d∧k≤d,fun _ _ w=>⟨g,by omega,w⟩,?_⟩
   refine⟨⟨by decide,by decide⟩,g,?_,rfl,rfl,by omega⟩
   have hp2:2^(g+1)=2*2^g:=by rw[Sq];omega
   show[some (V.int f),some (V.int r),some (V.ref D),some (V.int (((2^(g+1):Nat):Int)/2))]=_
   rw[show(((2^(g+1):Nat):Int)/2)=((2^g:Nat):Int)by omega]
  ·have h:¬(r:Int)≤((2^g:Nat):Int):=h
   have hgk:g=k:=by
    rcases MV k g with h'|h'
    ·have:2^(k+1)≤2^g:=PJ (by decide) h'
     rw[Sq]at this
     omega
    ·omega
   subst hgk
   rw[←ek]at h⊢
   refine⟨.inl ⟨rfl,_,SqL.of ai⟩,D,_,_,rfl,rfl,ai,by rw[Kz];exact bK (by omega),?_⟩
   refine Sel.dec (fun hlt=>?_) (fun hlt=>?_)
   ·have hlt:((aB r:Nat):Int)≤(f:Int):=hlt
    rw[if_neg (by omega)]at hw
    refine⟨f- aB r,r- aB r,g,ts++[1],?_,?_,by omega,by omega,by omega,by omega,by rw[KI];simp;omega,by rw[Mz];exact hw⟩
    ·rw[←ek]
     show[some (V.int ((f:Int)- (aB r:Int))),some (V.int ((r:Int)- (aB r:Int))),some (V.ref D),some (V.int (aB r))]=_
     rw[show((f:Int)- (aB r:Int))=((f- aB r:Nat):Int)by omega,show((r:Int)- (aB r:Int))=((r- aB r:Nat):Int)by omega]
    ·rw[eW,Lc,decide_eq_true hlt];rfl
   ·have hlt:¬((aB r:Nat):Int)≤(f:Int):=hlt
    rw[if_pos (by omega)]at hw
    refine⟨f,aB r,g,ts++[0],by rw[ek];rfl,?_,by omega,b3,by omega,by omega,by rw[KI];simp;omega,by rw[Mz];exact hw⟩
    ·rw[eW,Lc,decide_eq_false hlt];rfl
 ·have h:¬(1:Int)<(r:Int):=h
  rw[hU (by omega),LW]at hw
  rw[hw];exact q'
theorem PK.keep {H H':Hp}{ps:List Addr}{tt:List (List Key)}(h:PK H ps tt)(k:∀x xs,H x=some (.tup xs)→H' x=some (.tup xs)):PK H' ps tt:=Paired.mapP h fun p t ⟨h1,h2⟩=>⟨k _ _ h1,h2⟩
theorem lv {α β:Type}{F:α→β→Prop}:∀{l₁:List α}{l₂:List β}{a:α}{b:β},Paired F l₁ l₂→F a b→Paired F (l₁++[a]) (l₂++[b])
 |_,_,_,_,.nil,h=>.cons h .nil
 |_,_,_,_,.cons r t,h=>.cons r (lv t h)
theorem ba.tup {H H':Hp}{f b:Addr}{d:Kd}{g:gOp}{n:Nat}(s:Stp A H f b d g n)(k:ba b H H'):∀x xs,H x=some (.tup xs)→H' x=some (.tup xs):=fun x xs e=>k _ _ (s.nb e (fun _ z=>nomatch z) (fun _ z=>nomatch z)) e
structure Ld (A:Adr)(H H':Hp)(f b M:Addr)(d:Kd)(c:Nat)(e:Key)(st:List (Int×Key))(i:Nat)(g g':gOp)(n:Nat)(ps:List Addr)(p:Addr)(tt:List (List Key))(t:List Key):Prop where
 kb:ba b H H'
 s:Stp A H' f b d g' (n+i)
 sub:Sub g g'
 hM:H' M=some (.lst (ps.map V.ref++[.ref p]))
 pk:PK H' (ps++[p]) (tt++[t])
 len:tt.length=i
 sz:∀k∈tt++[t],szT k≤12200*(i+1)
 eq:∀h,Ext g' h→tt++[t]=dD h c e st (i+1)
theorem iY {H:Hp}{p:Addr}{t:List Key}:∀{ps:List Addr}{tt:List (List Key)},ps.length=tt.length→PK H (ps++[p]) (tt++[t])→H p=some (.tup (t.map kV))∧okT t=true
 |[],[],_,.cons h _=>h
 |_::_,_::_,hl,.cons _ r=>iY (Nat.succ.inj hl) r
 |[],_::_,hl,_=>nomatch hl
 |_::_,[],hl,_=>nomatch hl
theorem fG {H:Hp}{p:Addr}{t:List Key}{ps:List Addr}{tt:List (List Key)}(h:PK H (ps++[p]) (tt++[t])):ps.length=tt.length:=by
 have:=iS h
 simp at this;exact this
theorem Ld.step {H H5:Hp}{f b M:Addr}{d:Kd}{c:Nat}{e:Key}{st:List (Int×Key)}{i:Nat}{g g5:gOp}{n:Nat}{ps:List Addr}{p:Addr}{tt:List (List Key)}{t:List Key}{R:VK}
  (l:Ld A H H5 f b M d c e st i g g5 n ps p tt t)(hM:H M=none)(hc:c<2^60)(hm:∀x∈st,mkK x.2)(hi:i≤7)(hn:n+i≤45000)
  (q:∀(v:Key)(H6:Hp)(g6:gOp),ba b H5 H6→H6 M=some (.lst (ps.map V.ref++[.ref p]))→(∀p7,H6 p7=none→Ld A H (upd (upd H6 p7 (.tup ((dw c st i v).map kV))) M (.lst (ps.map V.ref++[.ref p]++[.ref p7]))) f b M d c e st (i+1) g g6 n (ps++[p]) p7 (tt++[t]) (dw c st i v))→R (kV v) H6):qd (eE K A) f [.ref p] H5 R E0:=by
 obtain⟨kb,s5,sub,hM5,pk,len,sz,eq⟩:=l
 obtain⟨hp,ok⟩:=iY (fG pk) pk
 have nM:M≠b:=s5.nb hM5 (fun _ z=>nomatch z) (fun _ z=>nomatch z)
 refine fb s5 hn hp ok fun v H6 g6 kb6 s6 sub6 gv st6=>?_
 have hM6:=kb6 _ _ nM hM5
 have szt:=sz t (by simp)
 have ov:=iQ st6 (by omega)
 have sv:=nF st6
 obtain⟨ok7,sz7⟩:=Ee (i:=i) (B:=12200*(i+1)) hc hm ov (by omega)
 refine q v H6 g6 kb6 hM6 fun p7 hp7=>?_
 have L7:p7≠M:=Lg (av hM6 hp7)
 have hM7:upd H6 p7 (.tup ((dw c st i v).map kV)) M=some (.lst (ps.map V.ref++[.ref p])):=au.upd hp7 _ _ hM6
 have kt:∀x xs,H6 x=some (.tup xs)→upd (upd H6 p7 (.tup ((dw c st i v).map kV))) M (.lst (ps.map V.ref++[.ref p]++[.ref p7])) x=some (.tup xs):=fun x xs ex=>by
  rw[ao (aW ex hM6 (fun z=>nomatch z))];exact au.upd hp7 _ _ ex
 refine⟨fun z o nz ez=>?_,?_,sub.trans sub6,by rw[ai,Lc];rfl,lv ((pk.keep (ba.tup s5 kb6)).keep kt) ⟨by rw[ao L7];exact ai,ok7⟩,by rw[KI,len];rfl,fun k hk=>?_,xq eq sub6 gv⟩
 ·rw[ao (av ez hM)];exact au.upd hp7 _ _ (kb6 _ _ nz (kb _ _ nz ez))
 ·exact(s6.same (KA _) (au.upd hp7)).setL hM7
 ·rcases LY.mp hk with h|h
  ·have:=sz k h;omega
  ·rw[KW.mp h];omega
theorem Ld.start {H H3:Hp}{f b M t0:Addr}{d:Kd}{c:Nat}{e:Key}{st:List (Int×Key)}{g:gOp}{n:Nat}(s:Stp A H f b d g n)(S:au H H3)(he:enK e)(ht:H3 t0=some (.tup [.str "entry",kV e]))(hM:H3 M=some (.lst [.ref t0])):Ld A H H3 f b M d c e st 0 g g n [] t0 [] [.inr "entry",e]:=
 ⟨ba.same S,s.same (KA _) S,Sub.rfl',hM,.cons ⟨ht,oh he.1⟩ .nil,rfl,fun k hk=>by
  rw[KW.mp hk,sz2,szW.2.1];have:=he.2;omega,fun h _=>rfl⟩
theorem Ld.done {H H':Hp}{f b M:Addr}{d:Kd}{c:Nat}{e:Key}{st:List (Int×Key)}{i m:Nat}{g g':gOp}{n:Nat}{ps:List Addr}{p:Addr}{tt:List (List Key)}{t:List Key}{Q:VK}
  (l:Ld A H H' f b M d c e st i g g' n ps p tt t)(hM:H M=none)(hi:i≤7)(em:m=i+1)(q:kH A f b d c st e m g n H Q):Q (.ref M) H':=by
 subst em
 have nM:M≠b:=l.s.nb l.hM (fun _ z=>nomatch z) (fun _ z=>nomatch z)
 refine q M (ps++[p]) (tt++[t]) g' H' l.kb (l.s.same (by omega) (.refl _)) l.sub hM nM (by rw[l.hM,Lc];rfl) l.pk (fun x hx=>?_) (by rw[KI,l.len];rfl) (fun k hk=>by have:=l.sz k hk;omega) l.eq
 obtain⟨j,hj⟩:=ME.mp hx
 have hlt:j<(tt++[t]).length:=by rw[←iS l.pk];exact(KC.mp hj).1
 obtain⟨p',h1,h2,_⟩:=Ck l.pk (KB hlt)
 rw[hj]at h1
 cases h1
 exact l.s.nb h2 (fun _ z=>nomatch z) (fun _ z=>nomatch z)
theorem CT (K:tx)(A:Adr):Ln (jl K A) 5:=by rintro vs H Q E ⟨f,b,L,P,T,d,c,ts,ks,e,g,n,j,rfl,_⟩;rfl
theorem rg {ts:List Int}{ks:List Key}(h:∀k∈ks,mkK k):∀x∈stR ts ks,mkK x.2:=fun x hx=>h _ (AA hx).2
theorem ixB {K:tx}{H:Hp}{Q:VK}{a:Addr}{xs:List V}{x:V}{i:Nat}(ha:H a=some (.lst xs))(hi:i<xs.length)(hx:xs[xs.length- 1- i]?=some x)(q:Q x H):aD K (.ref a) (.int (-1- (i:Int))) H Q:=by
 refine .inl (.inl ⟨a,xs,-1- (i:Int),x,rfl,rfl,SqL.of ha,?_,q⟩)
 unfold atI L2.ixN
 rw[if_neg (by omega),if_pos (by omega)]
 show xs[(-1- (i:Int)+(xs.length:Int)).toNat]?=_
 have:(-1- (i:Int)+(xs.length:Int)).toNat=xs.length- 1- i:=by omega
 rw[this];exact hx
theorem Jm {K:tx}{H:Hp}{Q:VK}{a:Addr}{xs:List V}{x:V}{i:Nat}(ha:H a=some (.tup xs))(hi:i<xs.length)(hx:xs[xs.length- 1- i]?=some x)(q:Q x H):aD K (.ref a) (.int (-1- (i:Int))) H Q:=by
 refine .inl (.inr (.inl ⟨a,xs,-1- (i:Int),x,rfl,rfl,SqT.of ha,?_,q⟩))
 unfold atI L2.ixN
 rw[if_neg (by omega),if_pos (by omega)]
 show xs[(-1- (i:Int)+(xs.length:Int)).toNat]?=_
 have:(-1- (i:Int)+(xs.length:Int)).toNat=xs.length- 1- i:=by omega
 rw[this];exact hx
theorem GA (T:Txt K mg A):Rd (jl K A) (Kq K A) ["_law_stamper_here","_law_count","_law_turns","_law_paper","_law_height","_law_terms","_law_k","_law_below"]:=by
 intro vs H Q E h
 obtain⟨f,b,L,P,TT,d,c,ts,ks,e,g,n,j,rfl,pp,hL,hj,q⟩:=h
 obtain⟨s,hn,c1,c2,tl,t01,kl,ee,ke,w⟩:=pp
 have nL:L≠b:=s.nb hL (fun _ z=>nomatch z) (fun _ z=>nomatch z)
 refine ixT (j:=0) w.hP rfl rfl ⟨aF (show 2≤1000000 by decide),fun t ht=>⟨aF (show 1≤1000000 by decide),fun M hM=>?_⟩⟩
 have S3:au H (upd (upd H t (.tup [.str "entry",kV e])) M (.lst [.ref t])):=(au.upd ht).trans (au.upd hM)
 have hM3:upd (upd H t (.tup [.str "entry",kV e])) M (.lst [.ref t]) M=some (.lst [.ref t]):=ai
 have ht3:upd (upd H t (.tup [.str "entry",kV e])) M (.lst [.ref t]) t=some (.tup [.str "entry",kV e]):=au.upd hM _ _ ai
 have hMn:H M=none:=(bO hM).2
 generalize upd (upd H t (.tup [.str "entry",kV e])) M (.lst [.ref t])=H3 at S3 hM3 ht3
 refine⟨_,rfl,by omega,by omega,?_⟩
 rw[MB]
 refine vV (fun i σ H'=>∃x6 x7 g' ps p tt t,σ=[some (.ref f),some (.int (c:Int)),some (.ref L),some (.ref P),some (.int (j:Int)),some (.ref M),x6,x7]∧Ld A H H' f b M d c e (stR ts ks) i g g' n ps p tt t)
  ⟨none,none,g,_,_,_,_,rfl,Ld.start s S3 ee ht3 hM3⟩ ?_ ?_
 ·rintro i σ H5 hi ⟨x6,x7,g5,ps,p,tt,t5,rfl,l⟩
  have kb:=l.kb
  refine⟨f,rfl,l.s.clo,gR l.hM ?_⟩
  dsimp only[am]
  refine l.step hMn c2 (rg ke) (by omega) (by omega) fun v H6 g6 kb6 hM6 nx=>?_
  have hL6:=kb6 _ _ nL (kb _ _ nL hL)
  have w6:=(w.kb s kb).kb l.s kb6
  have hlen:(ps.map V.ref++[V.ref p]).length<sizeLine:=by
   have:=fG l.pk
   have:=l.len
   rw[KI,Kz];exact bK (by show ps.length+1≤_;omega)
  refine .inl (.inl ⟨_,SqL.of hL6,?_⟩)
  rw[Kz]
  refine Sel.dec (fun h=>?_) (fun h=>?_)
  ·have h:(0:Int)+(i:Int)=(ts.length:Int):=h
   have e0:(stR ts ks)[i]?=none:=Lh (by rw[eD kl];omega)
   have en:dw c (stR ts ks) i v=[.inr "row",.inl (c:Int),v]:=by unfold dw;rw[e0]
   refine⟨.inl ⟨rfl,_,SqL.of hM6⟩,aF (show 3≤1000000 by decide),fun p7 hp7=>⟨M,_,.ref p7,rfl,rfl,au.upd hp7 _ _ hM6,hlen,?_⟩⟩
   have:=nx p7 hp7
   rw[en]at this
   exact⟨_,_,g6,_,_,_,_,rfl,this⟩
  ·have h:¬(0:Int)+(i:Int)=(ts.length:Int):=h
   obtain⟨tn,k,h1,h2,h3⟩:=mV kl (i:=i) (by omega)
   have en:dw c (stR ts ks) i v=jtT tn v k:=by unfold dw;rw[h3]
   rw[show(0:Int)+(i:Int)=(i:Int)by omega]
   refine ixB (i:=i) hL6 (by rw[Kz];omega) (x:=.int tn) (by rw[Kz,La,h1];rfl) ?_
   have ix:∀{R:VK},R (kV k) H6→aD K (.ref P) (.int 1) H6 fun x H7=>aD K x (.int (-1- (i:Int))) H7 R:=fun r=>ixT (j:=1) w6.hP rfl rfl (Jm (i:=i) w6.hT (by rw[Kz];omega) (by rw[Kz,La,kl,h2];rfl) r)
   refine Sel.dec (fun h5=>?_) (fun h5=>?_)
   ·have h5:tn=1:=h5
    refine⟨.inl ⟨rfl,_,SqL.of hM6⟩,ix ⟨aF (show 3≤1000000 by decide),fun p7 hp7=>⟨M,_,.ref p7,rfl,rfl,au.upd hp7 _ _ hM6,hlen,?_⟩⟩⟩
    have:=nx p7 hp7
    rw[en]at this
    unfold jtT at this
    rw[if_neg (by omega)]at this
    exact⟨_,_,g6,_,_,_,_,rfl,this⟩
   ·have h5:¬tn=1:=h5
    have t0:tn=0:=(t01 tn (KM h1)).resolve_right h5
    refine⟨.inl ⟨rfl,_,SqL.of hM6⟩,ix ⟨aF (show 3≤1000000 by decide),fun p7 hp7=>⟨M,_,.ref p7,rfl,rfl,au.upd hp7 _ _ hM6,hlen,?_⟩⟩⟩
    have:=nx p7 hp7
    rw[en]at this
    unfold jtT at this
    rw[if_pos t0]at this
    exact⟨_,_,g6,_,_,_,_,rfl,this⟩
 ·rintro σ H5 ⟨x6,x7,g5,ps,p,tt,t5,rfl,l⟩
  exact l.done hMn (by omega) rfl q
theorem kH.last {tt:List (List Key)}{m:Nat}(h:tt.length=m+1):∃r t,tt=r++[t]:=by
 cases e:tt.reverse with
 |nil=>have:=congrArg PX e;rw[Ox,h]at this;simp at this
 |cons x r=>exact⟨r.reverse,x,by rw[←Sr tt,e,NZ]⟩
theorem lF {H:Hp}{ps:List Addr}{r:List (List Key)}{t:List Key}(h:PK H ps (r++[t])):∃qs p,ps=qs++[p]∧PK H (qs++[p]) (r++[t]):=by
 have hl:=iS h
 cases e:ps.reverse with
 |nil=>have:=congrArg PX e;rw[Ox,hl]at this;simp at this
 |cons x q=>
  have e2:ps=q.reverse++[x]:=by rw[←Sr ps,e,NZ]
  exact⟨_,_,e2,by rw[←e2];exact h⟩
theorem Ge (K:tx)(A:Adr):Ln (uY K A) 3:=by rintro vs H Q E ⟨a,x,y,rfl,_⟩;rfl
theorem IP (T:Txt K mg A):Rd (uY K A) (T_0 K A) ["self","due","came"]:=by
 intro vs H Q E h
 obtain⟨a,x,y,rfl,ha,q⟩:=h
 refine⟨a,rfl,T.ef_Broken_due,.inl ⟨ha,fun dx hdx ne=>?_⟩⟩
 refine⟨a,rfl,T.ef_Broken_came,.inr ⟨dx,_,by rw[ao (Lg ne)];exact ai,ai,ne,by show 1<1000;decide,?_⟩⟩
 exact q dx hdx
theorem ku {K:tx}{H:Hp}{Q:VK}{a b:Key}(q:Q (.bl (!decide (a=b))) H):gB K (kV a) (kV b) H Q:=by
 cases a<;>cases b
 ·rename_i i j
  have e:decide ((NH i:Key)=NH j)=decide (i=j):=by simp
  rw[e]at q;exact q
 ·have e:∀(i:Int)(j:Str),decide ((NH i:Key)=NA j)=false:=by simp
  rw[e]at q;exact q
 ·have e:∀(i:Int)(j:Str),decide ((NA j:Key)=NH i)=false:=by simp
  rw[e]at q;exact q
 ·rename_i i j
  have e:decide ((NA i:Key)=NA j)=decide (i=j):=by simp
  rw[e]at q;exact q
theorem ba.obj {H H':Hp}{b x:Addr}{o:HO}(k:ba b H H')(hb:(∃φ,H b=some (.ext φ))∨∃kvs,H b=some (.dT kvs))(e:H x=some o)(h:∀kvs,o≠.dT kvs)(h2:∀φ,o≠.ext φ:=by intro _ z;cases z):H' x=some o:=k _ _ (fun z=>by
 subst z
 rcases hb with⟨φ,hb⟩|⟨kvs,hb⟩
 ·rw[e]at hb;exact h2 _ (KL hb)
 ·rw[e]at hb;exact h _ (KL hb)) e
theorem Cf (K:tx)(A:Adr):Ln (lc K A) 1:=by rintro vs H Q E ⟨v,d,rfl,_⟩;rfl
theorem GE (T:Txt K mg A):Rd (lc K A) (IN K A) ["thing"]:=by
 intro vs H Q E h
 obtain⟨v,d,rfl,w,q⟩:=h
 refine⟨_,d,rfl,w,?_⟩
 cases w with
 |int i=>
  refine Sel.yes rfl (Sel.dec (fun h0=>⟨by decide,?_⟩) (fun h0=>?_))
  ·show Q (.bl (decide (i<1*2^(60:Int).toNat))) H
   have e:cX (.int i)=decide (i<1*2^(60:Int).toNat):=by
    show decide (0≤i∧i<2^60)=decide (i<1*2^60)
    by_cases h1:i<2^60
    ·rw[decide_eq_true ⟨h0,h1⟩,decide_eq_true (by omega)]
    ·rw[decide_eq_false fun z=>h1 z.2,decide_eq_false (by omega)]
   rw[←e];exact q
  ·have e:cX (.int i)=false:=decide_eq_false fun z=>h0 z.1
   rw[←e];exact q
 |non=>exact Sel.no rfl q
 |bl b=>exact Sel.no rfl q
 |str z=>exact Sel.no rfl q
 |lst e r=>exact Sel.no rfl q
 |tup e r=>exact Sel.no rfl q
 |dic e=>exact Sel.no rfl q
theorem kr {d:Dat}(h:cX d=true):∃c:Nat,d=.int (c:Int)∧c<2^60:=by
 cases d with
 |int i=>
  obtain⟨h0,h1⟩:0≤i∧i<2^60:=of_decide_eq_true h
  exact⟨i.toNat,by rw[Qd h0],by omega⟩
 |non=>cases h
 |bl b=>cases h
 |str z=>cases h
 |lst e=>cases h
 |tup e=>cases h
 |dic=>cases h
theorem aH.int_inv {H:Hp}{v:V}{i:Int}(w:aH H v (.int i)):v=.int i:=by cases w;rfl
theorem lS {i:Int}(h0:0≤i)(h1:i<2^60):cX (.int i)=true:=decide_eq_true ⟨h0,h1⟩
theorem Ey (K:tx)(A:Adr):Ln (lY K A) 1:=by rintro vs H Q E ⟨v,d,rfl,_⟩;rfl
theorem Ij (T:Txt K mg A):Rd (lY K A) (Ja K A) ["thing"]:=by
 intro vs H Q E h
 obtain⟨v,d,rfl,w,q⟩:=h
 cases w with
 | @tup a xs ds ea r=>
   have ty:tyN H (.ref a)=some "tuple":=by unfold tyN;dsimp only;rw[ea]
   refine⟨by decide,"tuple",ty,Sel.t (.inl (.inr (.inl ⟨_,SqT.of ea,?_⟩)))⟩
   have hl:=r.len
   by_cases h2:ds.length=2
   ·refine Sel.yes (decide_eq_true (by omega)) ?_
    cases r with
    |nil=>cases h2
    |cons r1 r=>
    cases r with
    |nil=>cases h2
    |cons r2 r=>
    cases r with
    |cons r3 r=>simp at h2
    |nil=>
    refine ixT (j:=0) ea rfl rfl ⟨_,_,rfl,r1,?_⟩
    refine Sel.mk (fun hc=>?_) (fun hc=>?_)
    ·refine ixT (j:=1) ea rfl rfl ⟨_,_,rfl,r2,?_⟩
     have q:Q (.bl (cX _&&bp _)) H:=q
     rw[hc,NG]at q;exact q
    ·have q:Q (.bl (cX _&&bp _)) H:=q
     rw[hc,PN]at q;exact q
   ·refine Sel.no (decide_eq_false (by omega)) ?_
    have e:dA (.tup ds)=false:=by
     match ds,h2 with
     |[],_=>rfl
     |[_],_=>rfl
     |[_,_],h=>exact absurd rfl h
     |_::_::_::_,_=>rfl
    rw[e]at q;exact q
 |int i=>exact⟨by decide,_,rfl,Sel.f q⟩
 |non=>exact⟨by decide,_,rfl,Sel.f q⟩
 |bl b=>exact⟨by decide,_,rfl,Sel.f q⟩
 |str z=>exact⟨by decide,_,rfl,Sel.f q⟩
 |lst e r=>exact⟨by decide,_,(aH.lst e r).ty,Sel.f q⟩
 |dic e=>exact⟨by decide,_,(aH.dic e).ty,Sel.f q⟩
theorem By (K:tx)(A:Adr):Ln (pK K A) 2:=by rintro vs H Q E ⟨n,v,d,rfl,_⟩;rfl
theorem FE (T:Txt K mg A):Rd (pK K A) (JN K A) ["many","thing"]:=by
 intro vs H Q E h
 obtain⟨n,v,d,rfl,w,sh,q⟩:=h
 cases w with
 | @tup p xs ds hp r=>
   have ty:tyN H (.ref p)=some "tuple":=by unfold tyN;dsimp only;rw[hp]
   have hl:=r.len
   have l5:ds.length≤500:=sh
   refine⟨by decide,"tuple",ty,Sel.t (.inl (.inr (.inl ⟨_,SqT.of hp,?_⟩)))⟩
   have q:∀H',au H H'→Q (.bl (decide ((ds.length:Int)=n)&&ds.all bp)) H':=q
   refine Sel.dec (fun hn=>?_) (fun hn=>?_)
   ·rw[decide_eq_true (show(ds.length:Int)=n by rw[←hl];exact hn)]at q
    refine⟨p,rfl,.inr ⟨⟨_,SqT.of hp⟩,fun D hD=>?_⟩⟩
    have hne:p≠D:=av hp hD
    refine fS (dc.tuple (xs:=xs) .non) (fun i ys H2=>ys=(ds.take i).map (fun x=>V.bl (bp x))∧H2=upd H D (.lst ys)) (fun i ys H2 hi ⟨_,e2⟩=>?_) ⟨rfl,rfl⟩ (fun i ys H2 hi ⟨e1,e2⟩=>?_) (fun ys H2 ⟨e1,e2⟩=>?_)
    ·rw[e2];exact SqT.of (by rw[ao hne];exact hp)
    ·subst e2
     obtain⟨x,hx⟩:∃x,xs[i]? =some x:=⟨_,KB hi⟩
     obtain⟨dx,hdx,wx⟩:=r.get hx
     have hg:xs.getD i .non=x:=by rw[Lb,hx];rfl
     rw[hg]
     refine lN ⟨_,dx,rfl,wx.mono (au.upd hD),?_⟩
     have hyl:ys.length=i:=by rw[e1,Kz,Lf];omega
     refine⟨ai,by rw[hyl];exact bK (by omega),CWd.next hi ⟨?_,eW⟩⟩
     rw[e1,OP,Lc,hdx];rfl
    ·subst e2
     rw[hl,Nq]at e1
     refine⟨D,ds.map bp,rfl,by rw[ai,e1,Pr];rfl,?_⟩
     have e:(ds.map bp).all id=ds.all bp:=by rw[Sf];rfl
     have:=q _ (au.upd (o:=.lst ys) hD)
     rw[NG,←e]at this
     exact this
   ·rw[decide_eq_false (show ¬(ds.length:Int)=n by rw[←hl];exact hn)]at q
    exact q H (.refl H)
 |int i=>exact⟨by decide,_,rfl,Sel.f (q H (.refl H))⟩
 |non=>exact⟨by decide,_,rfl,Sel.f (q H (.refl H))⟩
 |bl b=>exact⟨by decide,_,rfl,Sel.f (q H (.refl H))⟩
 |str z=>exact⟨by decide,_,rfl,Sel.f (q H (.refl H))⟩
 |lst e r=>exact⟨by decide,_,(aH.lst e r).ty,Sel.f (q H (.refl H))⟩
 |dic e=>exact⟨by decide,_,(aH.dic e).ty,Sel.f (q H (.refl H))⟩
theorem CJ {b L:Addr}{H:Hp}(bb:(∃φ,H b=some (.ext φ))∨∃kvs,H b=some (.dT kvs))(h:H L=none):b≠L:=by
 rintro rfl
 rcases bb with⟨φ,e⟩|⟨kvs,e⟩<;>(rw[h]at e;cases e)
theorem kX {H:Hp}:∀{xs:List V}{ks:List Key},DatWs H xs (ks.map aY)→xs=ks.map kV
 |[],[],_=>rfl
 |_::_,[],h=>nomatch h
 |[],_::_,h=>nomatch h
 |x::xs,k::ks,h=>by
  cases h with
  |cons a r=>
   have e:x=kV k:=by
    cases k with
    |inl i=>cases a;rfl
    |inr z=>cases a;rfl
   rw[e,kX r];rfl
theorem qW {H:Hp}:∀ks:List Key,DatWs H (ks.map kV) (ks.map aY)
 |[]=>.nil
 |k::r=>.cons (dY k) (qW r)
theorem Bu (K:tx)(A:Adr):Ln (pb K A) 1:=by rintro vs H Q E ⟨v,d,rfl,_⟩;rfl
theorem Ig (T:Txt K mg A):Rd (pb K A) (Jt K A) ["thing"]:=by
 intro vs H Q E h
 obtain⟨v,d,rfl,w,e,q⟩:=h
 refine⟨v,d,rfl,w,?_⟩
 rw[e];exact Sel.f q
theorem DF (K:tx)(A:Adr):Ln (mQ K A) 2:=by rintro vs H Q E ⟨v,d,w,e,rfl,_⟩;rfl
theorem Fi (T:Txt K mg A):Rd (mQ K A) (Kp K A) ["count","place"]:=by
 intro vs H Q E h
 obtain⟨v,d,w,e,rfl,hd,he,q⟩:=h
 refine⟨v,d,rfl,hd,?_⟩
 unfold cC at q
 cases hc:cX d with
 |false=>rw[hc]at q;exact Sel.f q
 |true=>
  rw[hc]at q
  obtain⟨c,rfl,c2⟩:=kr hc
  cases hd.int_inv
  refine Sel.t ⟨w,e,rfl,he,?_⟩
  cases he with
  |int i=>
   refine Sel.yes rfl (Sel.dec (fun h0=>?_) (fun h0=>?_))
   ·show Q (.bl (decide (i<(c:Int)))) H
    have ee:decide (0≤i∧i<(c:Int))=decide (i<(c:Int)):=by
     by_cases h1:i<(c:Int)
     ·rw[decide_eq_true ⟨h0,h1⟩,decide_eq_true h1]
     ·rw[decide_eq_false fun z=>h1 z.2,decide_eq_false h1]
    rw[←ee];exact q
   ·have ee:decide (0≤i∧i<(c:Int))=false:=decide_eq_false fun z=>h0 z.1
    rw[←ee];exact q
  |non=>exact Sel.no rfl q
  |bl b=>exact Sel.no rfl q
  |str z=>exact Sel.no rfl q
  |lst e r=>exact Sel.no rfl q
  |tup e r=>exact Sel.no rfl q
  |dic e=>exact Sel.no rfl q
theorem wz {d e:Dat}(h:cC d e=true):∃c el:Nat,d=.int (c:Int)∧e=.int (el:Int)∧el<c∧c<2^60:=by
 unfold cC at h
 obtain⟨h1,h2⟩:=KD.mp h
 obtain⟨h3,h4⟩:=KD.mp h1
 obtain⟨c,rfl,c2⟩:=kr h3
 cases e with
 |int i=>
  obtain⟨a,b⟩:0≤i∧i<(c:Int):=of_decide_eq_true h2
  exact⟨c,i.toNat,rfl,by rw[Qd a],by omega,c2⟩
 |non=>cases h4
 |bl b=>cases h4
 |str z=>cases h4
 |lst e=>cases h4
 |tup e=>cases h4
 |dic=>cases h4
theorem oF {c e:Int}(h0:0≤e)(h1:e<c)(h2:c<2^60):cC (.int c) (.int e)=true:=by
 unfold cC
 rw[lS (by omega) h2]
 show decide (0≤e∧e<c)=true
 exact decide_eq_true ⟨h0,h1⟩
theorem jF {c el:Nat}(h1:el<c)(h2:c<2^60):cC (.int (c:Int)) (.int (el:Int))=true:=oF (by omega) (by omega) (by omega)
theorem EE (K:tx)(A:Adr):Ln (qg K A) 2:=by rintro vs H Q E ⟨L,ts,v,d,rfl,_⟩;rfl
theorem HQ (T:Txt K mg A):Rd (qg K A) (JD K A) ["turns","thing"]:=by
 intro vs H Q E h
 obtain⟨L,ts,v,d,rfl,hL,l5,w,sh,q⟩:=h
 have q0:=q H (.refl H)
 cases w with
 | @tup a xs ds ea r=>
   have ty:tyN H (.ref a)=some "tuple":=by unfold tyN;dsimp only;rw[ea]
   refine⟨by decide,"tuple",ty,Sel.no rfl (.inl (.inr (.inl ⟨_,SqT.of ea,?_⟩)))⟩
   have hl:=r.len
   by_cases h2:ds.length=2
   ·refine Sel.no (by show(!decide ((xs.length:Int)=2))=false;rw[decide_eq_true (show(xs.length:Int)=2 by omega)];rfl) ?_
    cases r with
    |nil=>cases h2
    |cons r1 r=>
    cases r with
    |nil=>cases h2
    |cons r2 r=>
    cases r with
    |cons r3 r=>simp at h2
    |nil=>
    refine ixT (j:=0) ea rfl rfl ⟨_,_,rfl,r1,?_⟩
    refine Sel.mk (fun hc=>?_) (fun hc=>?_)
    ·refine .inl (.inl ⟨_,SqL.of hL,ixT (j:=1) ea rfl rfl ⟨_,_,_,rfl,r2,sh,fun H' S=>?_⟩⟩)
     have q:Q (.bl (bp _&&iw _ _)) H':=q H' S
     rw[hc,NG]at q
     rw[Kz];exact q
    ·have q:Q (.bl (bp _&&iw _ _)) H:=q0
     rw[hc,PN]at q;exact q
   ·refine Sel.yes (by show(!decide ((xs.length:Int)=2))=true;rw[decide_eq_false (show ¬(xs.length:Int)=2 by omega)];rfl) ?_
    have e:fI ts.length (.tup ds)=false:=by
     match ds,h2 with
     |[],_=>rfl
     |[_],_=>rfl
     |[_,_],h=>exact absurd rfl h
     |_::_::_::_,_=>rfl
    rw[e]at q0;exact q0
 |int i=>exact⟨by decide,_,rfl,Sel.yes rfl (Sel.t q0)⟩
 |non=>exact⟨by decide,_,rfl,Sel.yes rfl (Sel.t q0)⟩
 |bl b=>exact⟨by decide,_,rfl,Sel.yes rfl (Sel.t q0)⟩
 |str z=>exact⟨by decide,_,rfl,Sel.yes rfl (Sel.t q0)⟩
 |lst e r=>exact⟨by decide,_,(aH.lst e r).ty,Sel.yes rfl (Sel.t q0)⟩
 |dic e=>exact⟨by decide,_,(aH.dic e).ty,Sel.yes rfl (Sel.t q0)⟩
theorem dW.at {H:Hp}{m:V}{k:Dat}{n:Nat}{e:Key}{ks:List Key}(M:dW k n e ks)(w:aH H m k):∃P T,m=.ref P∧bL H P T e ks:=by
 rw[M.q]at w
 cases w with
 |tup ea r=>
  cases r with
  |cons r1 r=>
  cases r with
  |cons r2 r=>
  cases r
  cases r2 with
  |tup eb r2=>
   have:=kX (ks:=[e]) (.cons r1 .nil)
   cases this
   exact⟨_,_,rfl,ea,by rw[eb,kX r2]⟩
theorem dW.yes {k:Dat}{n:Nat}{e:Key}{ks:List Key}(M:dW k n e ks):fI n k=true:=by
 rw[M.q]
 show(bp (aY e)&&(decide (((ks.map aY).length:Int)=(n:Int))&&(ks.map aY).all bp))=true
 rw[iF M.ee.1,Kz,M.l,decide_eq_true rfl,NG,NG,Sf,Mc]
 exact fun x hx=>iF (M.en x hx).1
theorem dW.of {H:Hp}{P T:Addr}{e:Key}{ks:List Key}(w:bL H P T e ks):aH H (.ref P) (.tup [aY e,.tup (ks.map aY)]):=
 .tup w.hP (.cons (dY e) (.cons (.tup w.hT (qW ks)) .nil))
theorem ET (K:tx)(A:Adr):Ln (jo K A) 4:=by rintro vs H Q E ⟨f,b,kd,g,n,v,w,m,d,e,k,rfl,_⟩;rfl
theorem GG (T:Txt K mg A)(vs:List V)(H:Hp)(Q:VK)(E:XK)(h:jo K A vs H Q E):BY K A E {nx:=fun _ H'=>Q .non H',rt:=Q} (L2.start ["stamper","count","place","paper","turns","terms","step"] vs) H:=by
 obtain⟨f,b,kd,g,n,v,w,m,d,e,k,rfl,a,hd,q1,q2⟩:=h
 refine⟨v,d,w,e,rfl,hd,a.he,?_⟩
 cases hE:cC d e with
 |false=>exact Sel.t (q1 hE)
 |true=>
  refine Sel.f ?_
  obtain⟨c,p,rfl,rfl,lt,c2⟩:=wz hE
  cases hd.int_inv
  cases a.he.int_inv
  obtain⟨tl,q3⟩:=q2 c p rfl rfl lt c2
  have hn:=a.hn
  refine⟨p,c,rfl,lt,by omega,fun W hWn=>?_⟩
  have S1:au H (upd H W (.lst ((aS c p).map V.int))):=au.upd hWn
  have hW:upd H W (.lst ((aS c p).map V.int)) W=some (.lst ((aS c p).map V.int)):=ai
  generalize upd H W (.lst ((aS c p).map V.int))=H1 at S1 hW
  unfold uO at q3
  generalize hts:aS c p=ts at*
  refine⟨W,ts,m,k,rfl,hW,by omega,a.hm.mono S1,a.sh,fun H2 S2=>?_⟩
  rcases q3 with⟨hb,qE⟩|⟨e,ks,M,q⟩
  ·rw[hb];exact Sel.t (qE _ (S1.trans S2))
  rw[M.yes]
  refine Sel.f ?_
  obtain⟨P,TT,rfl,w⟩:=M.at a.hm
  have s:=a.s
  have ee:=M.ee
  have ke:=M.en
  have kl:=M.l
  have w2:=(w.same S1).same S2
  refine ixT (j:=0) w2.hP rfl rfl ⟨aF (show 2≤1000000 by decide),fun t ht=>⟨aF (show 1≤1000000 by decide),fun L hL=>?_⟩⟩
  have S3:au H2 (upd (upd H2 t (.tup [.str "entry",kV e])) L (.lst [.ref t])):=(au.upd ht).trans (au.upd hL)
  have hL3:upd (upd H2 t (.tup [.str "entry",kV e])) L (.lst [.ref t]) L=some (.lst [.ref t]):=ai
  have ht3:upd (upd H2 t (.tup [.str "entry",kV e])) L (.lst [.ref t]) t=some (.tup [.str "entry",kV e]):=au.upd hL _ _ ai
  have hLn:H2 L=none:=(bO hL).2
  generalize upd (upd H2 t (.tup [.str "entry",kV e])) L (.lst [.ref t])=H3 at S3 hL3 ht3
  have w3:=w2.same S3
  have hLH:H L=none:=by
   cases z:H L with
   |none=>rfl
   |some o=>rw[S2 _ _ (S1 _ _ z)]at hLn;cases hLn
  refine ixT (j:=1) w3.hP rfl rfl ⟨W,TT,_,_,rfl,SqL.of (S3 _ _ (S2 _ _ hW)),SqT.of w3.hT,by rw[Kz,Kz,kl],fun Z ps H4 hZn S4 lp hps hZ=>⟨Z,_,rfl,.inl ⟨SqL.of hZ,?_⟩⟩⟩
  have S:au H H4:=S1.trans (S2.trans (S3.trans S4))
  have lps:ps.length=ts.length:=by rw[lp,Kz]
  have hp4:∀(j:Nat)(p:Addr)(tn:Int)(k:Key),ps[j]? =some p→ts[j]? =some tn→ks[j]? =some k→H4 p=some (.tup [.int tn,kV k]):=fun j p' tn k h1 h2 h3=>hps j p' _ _ h1 (by rw[La,h2];rfl) (by rw[La,h3];rfl)
  have LZ:Z≠L:=Lg (av hL3 hZn)
  have hL4:=S4 _ _ hL3
  refine Cq (dc.revL (xs:=ps.map V.ref) .non) (fun i σ H'=>∃x6 g' qs pr tt t',σ=[some (.ref f),some (.int (c:Int)),some (.int (p:Int)),some (.ref P),some (.ref W),some (.ref L),x6]∧Ld A H H' f b L kd c e (stR ts ks) i g g' n qs pr tt t'∧H' Z=some (.lst (ps.map V.ref))∧
    ∀(j:Nat)(p:Addr)(tn:Int)(k:Key),ps[j]? =some p→ts[j]? =some tn→ks[j]? =some k→H' p=some (.tup [.int tn,kV k]))
   ⟨none,g,_,_,_,_,rfl,Ld.start s S ee (S4 _ _ ht3) hL4,hZ,hp4⟩
   (fun i σ H' _ h=>?_) (fun i σ H5 hi h=>?_) (fun σ H5 h=>?_)
  ·obtain⟨_,_,_,_,_,_,_,_,x,_⟩:=h
   exact SqL.of x
  ·obtain⟨x6,g5,qs,pr,tt,t5,rfl,l,hZ5,hp5⟩:=h
   have hi:i<ts.length:=by rw[Kz,lps]at hi;exact hi
   obtain⟨tn,k,h1,h2,h3⟩:=mV kl (i:=i) hi
   obtain⟨pj,hpj⟩:∃pj,ps[ts.length- 1- i]? =some pj:=⟨_,KB (by omega)⟩
   have hg:(ps.map V.ref).reverse.getD i .non=.ref pj:=by
    rw[Lb,Nz (by rw[Kz];omega),Kz,lps,La,hpj];rfl
   rw[hg]
   have hpp:=hp5 _ _ _ _ hpj h1 h2
   have s5:=l.s
   have npj:pj≠b:=s5.nb hpp (fun _ z=>nomatch z) (fun _ z=>nomatch z)
   have nZ:Z≠b:=s5.nb hZ5 (fun _ z=>nomatch z) (fun _ z=>nomatch z)
   have en:∀v,dw c (stR ts ks) i v=jtT tn v k:=fun v=>by unfold dw;rw[h3]
   have hlen:(qs.map V.ref++[V.ref pr]).length<sizeLine:=by
    have:=fG l.pk
    have:=l.len
    rw[KI,Kz];exact bK (by show qs.length+1≤_;omega)
   refine⟨.inl ⟨rfl,_,SqL.of l.hM⟩,ixT (j:=0) hpp rfl rfl ⟨f,rfl,s5.clo,gR l.hM ?_⟩⟩
   dsimp only[am]
   refine l.step hLH c2 (rg ke) (by omega) (by omega) fun v H6 g6 kb6 hL6 nx=>?_
   refine ixT (j:=1) (kb6 _ _ npj hpp) rfl rfl ⟨tn,v,k,rfl,fun p7 hp7=>⟨L,_,.ref p7,rfl,rfl,au.upd hp7 _ _ hL6,hlen,?_⟩⟩
   have l7:=nx p7 hp7
   rw[en v]at l7
   have Sx:∀z o,z≠L→H6 z=some o→upd (upd H6 p7 (.tup ((jtT tn v k).map kV))) L (.lst (qs.map V.ref++[.ref pr]++[.ref p7])) z=some o:=fun z o nz ez=>by rw[ao nz];exact au.upd hp7 _ _ ez
   refine⟨_,g6,_,_,_,_,rfl,l7,Sx _ _ LZ (kb6 _ _ nZ hZ5),fun j p' tn' k' a1 a2 a3=>?_⟩
   have h5:=hp5 j p' tn' k' a1 a2 a3
   exact Sx _ _ (aW h5 l.hM (fun z=>nomatch z)) (kb6 _ _ (s5.nb h5 (fun _ z=>nomatch z) (fun _ z=>nomatch z)) h5)
  ·obtain⟨x6,g5,qs,pr,tt,t5,rfl,l,hZ5,hp5⟩:=h
   rw[Kz,lps]at l
   have e0:∀v,dw c (stR ts ks) ts.length v=[.inr "row",.inl (c:Int),v]:=fun v=>by unfold dw;rw[Lh (by rw[eD kl];omega)]
   have hlen:(qs.map V.ref++[V.ref pr]).length<sizeLine:=by
    have:=fG l.pk
    have:=l.len
    rw[KI,Kz];exact bK (by show qs.length+1≤_;omega)
   refine⟨.inl ⟨rfl,_,SqL.of l.hM⟩,f,rfl,l.s.clo,gR l.hM ?_⟩
   dsimp only[am]
   refine l.step hLH c2 (rg ke) (by omega) (by omega) fun v H6 g6 kb6 hL6 nx=>?_
   refine⟨aF (show 3≤1000000 by decide),fun p7 hp7=>⟨L,_,.ref p7,rfl,rfl,au.upd hp7 _ _ hL6,hlen,?_⟩⟩
   have l7:=nx p7 hp7
   rw[e0 v]at l7
   exact l7.done hLH (by omega) rfl q
theorem EA (K:tx)(A:Adr):Ln (qa K A) 4:=by rintro vs H Q E ⟨f,b,kd,g,n,v,w,m,d,e,k,rfl,_⟩;rfl
theorem FY (T:Txt K mg A)(vs:List V)(H:Hp)(Q:VK)(E:XK)(h:qa K A vs H Q E):Df K A E {nx:=fun _ H'=>Q .non H',rt:=Q} (L2.start ["stamper","count","place","paper"] vs) H:=by
 obtain⟨f,b,kd,g,n,v,w,m,d,e,k,rfl,a,hd,q1,q2⟩:=h
 have hn:=a.hn
 refine⟨f,rfl,a.s.clo,f,b,kd,g,n,v,w,m,d,e,k,rfl,a,hd,q1,fun c p e1 e2 lt c2=>?_⟩
 obtain⟨tl6,q3⟩:=q2 c p e1 e2 lt c2
 refine⟨tl6,?_⟩
 rcases q3 with z|⟨en,ks,M,q⟩
 ·exact .inl z
 refine .inr ⟨en,ks,M,fun L ps tt g1 H1 k1 s1 sub1 hMn nM hM pk npb tl sz eq=>?_⟩
 obtain⟨r,t,rfl⟩:=kH.last tl
 obtain⟨qs,p1,rfl,pk1⟩:=lF pk
 obtain⟨hp,ok⟩:=iY (fG pk1) pk1
 rw[Lc]at hM
 refine gR hM ?_
 dsimp only[am]
 refine fb s1 (by omega) hp ok fun v H2 g2 kb s2 sub2 gv st=>?_
 have szt:=sz t (by simp)
 have:=nF st
 refine q v g2 H2 (k1.trans kb) s2 (sub1.trans sub2) (iQ st (by omega)) fun h eh=>?_
 rw[eD M.l,←lB eq (Ext.of sub2 eh),eh _ _ gv]
theorem DM (K:tx)(A:Adr):Ln (ph K A) 4:=by rintro vs H Q E ⟨f,b,kd,g,n,v,w,m,e,k,c,mk,rfl,_⟩;rfl
theorem sK {H:Hp}{v:V}{c:Nat}{mk:Key}(w:aH H v (.tup [.int (c:Int),aY mk])):∃hd,v=.ref hd∧H hd=some (.tup [.int (c:Int),kV mk]):=by
 cases w with
 |tup e r=>
  have:=kX (ks:=[.inl (c:Int),mk]) r
  subst this
  exact⟨_,rfl,e⟩
theorem qt {c:Nat}{mk:Key}(h:c<2^60)(ok:okP mk=true):dA (.tup [.int (c:Int),aY mk])=true:=by
 show(cX (.int (c:Int))&&bp (aY mk))=true
 rw[lS (by omega) (by omega),iF ok];rfl
theorem IC (T:Txt K mg A)(vs:List V)(H:Hp)(Q:VK)(E:XK)(h:ph K A vs H Q E):DV K A E {nx:=fun _ H'=>Q .non H',rt:=Q} (L2.start ["stamper","head","place","paper","came"] vs) H:=by
 obtain⟨f,b,kd,g,n,v,w,m,e,k,c,mk,rfl,a,hd,c2,okm,qP,q2⟩:=h
 refine⟨v,_,rfl,hd,qt c2 okm,?_⟩
 obtain⟨hp,rfl,hh⟩:=sK hd
 have hn:=a.hn
 refine ixT (j:=0) hh rfl rfl ?_
 refine⟨f,b,kd,g,n,.int (c:Int),w,m,.int (c:Int),e,k,rfl,a,.int _,qP,fun c' p ec ee le _=>?_⟩
 have ecc:c'=c:=by
  have:(c:Int)=(c':Int):=by injection ec
  omega
 subst ecc
 obtain⟨tl6,q3⟩:=q2 p ee le
 refine⟨tl6,?_⟩
 rcases q3 with z|⟨en,ks,M,q⟩
 ·exact .inl z
 obtain⟨P,TT,rfl,wP⟩:=M.at a.hm
 have nh:hp≠b:=a.s.nb hh (fun _ z=>nomatch z) (fun _ z=>nomatch z)
 refine .inr ⟨en,ks,M,fun w g1 H1 k1 s1 sub1 okw ew=>?_⟩
 obtain⟨q1,q2⟩:=q w g1 H1 k1 s1 sub1 okw ew
 have hh1:=k1 _ _ nh hh
 refine ixT (j:=1) hh1 rfl rfl (ku ?_)
 by_cases ewm:w=mk
 ·refine Sel.no (by rw[decide_eq_true ewm];rfl) ?_
  exact ixT (j:=0) (wP.kb a.s k1).hP rfl rfl (q1 ewm)
 ·refine Sel.yes (by rw[decide_eq_false ewm];rfl) ?_
  refine ixT (j:=1) hh1 rfl rfl fun a ha=>⟨a,kV mk,kV w,rfl,ai,fun dx hdx=>⟨rfl,some dx,?_,?_⟩⟩
  ·obtain⟨nd,_⟩:=bO hdx
   rw[ao (Lg nd),ao (Lg nd)];exact ai
  ·obtain⟨nd,hd0⟩:=bO hdx
   refine q2 ewm dx _ (fun z o ez=>?_)
   have na:=av ez ha
   have nz:=av ez hd0
   rw[eV na,ao nz,ao nz,ao na,ao na];exact ez
theorem mH {a b:Nat}(h:Dat.int (a:Int)=Dat.int (b:Int)):b=a:=by
 have:(a:Int)=(b:Int):=by injection h
 omega
theorem EI (K:tx)(A:Adr):Ln (ma K A) 4:=by rintro vs H Q E ⟨f,b,kd,g,n,v,w,m,e,k,c,mk,o,rfl,_⟩;rfl
theorem HU (T:Txt K mg A):Rd (ma K A) (JC K A) ["stamper","head","place","paper"]:=by
 intro vs H Q E h
 obtain⟨f,b,kd,g,n,v,w,m,e,k,c,mk,o,rfl,a,hd,c2,okm,er,q⟩:=h
 have s0:=a.s.same (m:=n+71) (by omega) (.refl H)
 have non:∀(H1:Hp),o=none→ba b H H1→(∃g1,Stp A H1 f b kd g1 (n+71)∧Sub g g1)→Q .non H1:=fun H1 eo kb ⟨g1,s1,sub1⟩=>by
  have:=q g1 H1 kb s1 sub1
  rw[eo]at this;exact this
 have at0:∃g1,Stp A H f b kd g1 (n+71)∧Sub g g1:=⟨g,s0,Sub.rfl'⟩
 have atS:∀H',au H H'→∃g1,Stp A H' f b kd g1 (n+71)∧Sub g g1:=fun H' S=>⟨g,s0.same (KA _) S,Sub.rfl'⟩
 refine⟨f,b,kd,g,n,v,w,m,e,k,c,mk,rfl,a,hd,c2,okm,?_⟩
 cases er with
 |place h=>
  refine⟨fun _=>⟨_,rfl,T.eo_NoPlace,true,T.sb_NoPlace_StampError,Sel.t (non H rfl ba.rfl' at0)⟩,fun p e1 h1=>?_⟩
  rw[e1,jF h1 c2]at h;cases h
 |paper p e1 h1 hw h=>
  subst e1
  refine⟨fun z=>(by rw[jF h1 c2]at z;cases z),fun p' e2 _=>?_⟩
  cases mH e2
  exact⟨hw,.inl ⟨h,fun H' S=>⟨_,rfl,T.eo_NoPaper,true,T.sb_NoPaper_StampError,Sel.t (non H' rfl (ba.same S) (atS H' S))⟩⟩⟩
 |good p tm en ks e1 h1 hw h ht=>
  subst e1
  refine⟨fun z=>(by rw[jF h1 c2]at z;cases z),fun p' e2 _=>?_⟩
  cases mH e2
  refine⟨hw,.inr ⟨en,ks,h,fun w1 g1 H1 kb1 s1 sub1 okw ew=>?_⟩⟩
  have etm:w1=tm:=by rw[ew _ (Ext.refl' g1),←ht _ (Ext.of sub1 (Ext.refl' g1))]
  subst etm
  refine⟨fun ee=>?_,fun ne dx H2 S2=>⟨_,rfl,T.eo_Broken,true,T.sb_Broken_StampError,Sel.t ?_⟩⟩
  ·have:=q g1 H1 kb1 s1 sub1
   rw[if_pos ee]at this;exact this
  ·exact non H2 (if_neg ne) (kb1.trans (ba.same S2)) ⟨g1,s1.same (by omega) S2,sub1⟩
def upF (h:List Key→Key)(en:Key):List Int→List Key→List Key
 |t::ts,k::ks=>jtT t (h (upF h en ts ks)) k
 |_,_=>[.inr "entry",en]
theorem vN {h:List Key→Key}{c:Int}{en:Key}{ts:List Int}{ks:List Key}(hl:ks.length=ts.length):∀i,i≤ts.length→bZ h c en (stR ts ks) i=upF h en (ts.drop (ts.length- i)) (ks.drop (ts.length- i))
 |0,_=>by rw[NC,TC];rfl
 |i+1,hi=>by
  obtain⟨t,k,h1,h2,h3⟩:=mV hl (i:=i) (by omega)
  have ih:=vN hl (h:=h) (c:=c) (en:=en) i (by omega)
  show(match (stR ts ks)[i]? with|some x=>jtT x.1 (h (bZ h c en (stR ts ks) i)) x.2|none=>_)=_
  rw[h3]
  have e1:ts.drop (ts.length- (i+1))=t::ts.drop (ts.length- i):=by
   rw[Nb (by omega)]
   have:=(KC.mp h1).2
   rw[show ts.length- (i+1)+1=ts.length- i by omega]
   congr 1
   rw[←this];congr 1;omega
  have e2:ks.drop (ts.length- (i+1))=k::ks.drop (ts.length- i):=by
   rw[Nb (by omega)]
   have:=(KC.mp h2).2
   rw[show ts.length- (i+1)+1=ts.length- i by omega]
   congr 1
   rw[←this];congr 1;omega
  rw[e1,e2,ih];rfl
structure Cu (g:gOp)(c:List Key)(v:Key):Prop where
 ok:okP v=true
 sz:szK v≤szB c.length
 eq:∀h,Ext g h→v=h (eL h c)
def AsF (g:gOp)(es:List Key):List Int→Nat→Nat→List Key→Prop
 |[],_,_,ks=>ks=[]
 |t::ts,fi,m,ks=>∃k r,ks=k::r∧if t=0 then Cu g ((es.drop (fi+aB m)).take (m- aB m)) k∧AsF g es ts fi (aB m) r else Cu g ((es.drop fi).take (aB m)) k∧AsF g es ts (fi+aB m) (m- aB m) r
theorem AsF.len {g:List Key→Option Key}{es:List Key}:∀{ts:List Int}{fi m:Nat}{ks:List Key},AsF g es ts fi m ks→ks.length=ts.length
 |[],_,_,_,h=>by rw[show _=[]from h];rfl
 |t::ts,fi,m,_,⟨k,r,e,h⟩=>by
  subst e
  split at h
  ·show r.length+1=ts.length+1;rw[AsF.len h.2]
  ·show r.length+1=ts.length+1;rw[AsF.len h.2]
theorem AsF.mk {g:List Key→Option Key}{es:List Key}(l:es.length≤29):∀{ts:List Int}{fi m:Nat}{ks:List Key},AsF g es ts fi m ks→∀k∈ks,mkK k
 |[],_,_,_,h,k,hk=>by rw[show _=[]from h]at hk;cases hk
 |t::ts,fi,m,_,⟨k,r,e,h⟩,k',hk=>by
  subst e
  have cu:∀{c:List Key},c.length≤es.length→Cu g c k→mkK k:=fun hc x=>⟨x.ok,by have:=x.sz;unfold szB at this;omega⟩
  split at h
  ·rcases KY.mp hk with rfl|hk
   ·exact cu (by rw[Lf,LV];omega) h.1
   ·exact AsF.mk l h.2 k' hk
  ·rcases KY.mp hk with rfl|hk
   ·exact cu (by rw[Lf,LV];omega) h.1
   ·exact AsF.mk l h.2 k' hk
theorem AsF.top {g:List Key→Option Key}{es:List Key}{p:Nat}{en:Key}(hp:es[p]? =some en){h:List Key→Key}(eh:Ext g h):∀{e fi m:Nat}{ks:List Key},fi≤p→p- fi<m→fi+m≤es.length→m≤2^e→AsF g es (cj e (p- fi) m) fi m ks→eL h ((es.drop fi).take m)=upF h en (cj e (p- fi) m) ks:=by
 intro e
 induction e with
 |zero=>
  intro fi m ks h1 h2 h3 h4 a
  have m1:m=1:=by simp at h4;omega
  subst m1
  have e0:p=fi:=by omega
  subst e0
  have:(es.drop p).take 1=[en]:=by
   have hlt:=(KC.mp hp)
   rw[Nb hlt.1,hlt.2];rfl
  rw[this,oG];rfl
 |succ e ih=>
  intro fi m ks h1 h2 h3 h4 a
  by_cases m1:m≤1
  ·rw[hU m1]at a⊢
   have m1:m=1:=by omega
   subst m1
   have e0:p=fi:=by omega
   subst e0
   have:(es.drop p).take 1=[en]:=by
    have hlt:=(KC.mp hp)
    rw[Nb hlt.1,hlt.2];rfl
   rw[this,oG];rfl
  ·have m2:2≤m:=by omega
   have b1:=lP m2
   have b2:=ij m2
   have b3:=hV m2 h4
   have b4:=(iP m2).1
   have sl:((es.drop fi).take m).length=m:=by rw[Lf,LV];omega
   have tk:((es.drop fi).take m).take (aB m)=(es.drop fi).take (aB m):=by rw[OH,ND (by omega)]
   have dp:((es.drop fi).take m).drop (aB m)=(es.drop (fi+aB m)).take (m- aB m):=by rw[Um,Uo]
   rw[gi m1]at a⊢
   rw[oj h (es:=(es.drop fi).take m) (by rw[sl];exact m2),sl,tk,dp]
   by_cases hlt:p- fi<aB m
   ·rw[if_pos hlt]at a⊢
    obtain⟨k,r,rfl,a⟩:=a
    rw[if_pos rfl]at a
    obtain⟨cu,a⟩:=a
    rw[ih h1 hlt (by omega) b3 a,←cu.eq h eh];rfl
   ·rw[if_neg hlt]at a⊢
    obtain⟨k,r,rfl,a⟩:=a
    rw[if_neg (by decide)]at a
    obtain⟨cu,a⟩:=a
    have ep:p- fi- aB m=p- (fi+aB m):=by omega
    rw[ep]at a⊢
    rw[ih (by omega) (by omega) (by omega) (by omega) a,←cu.eq h eh];rfl
theorem AsF.row {g:gOp}{es:List Key}{c p:Nat}{en:Key}{ks:List Key}(hp:es[p]?=some en)(lt:p<c)(hc:c≤es.length)(c2:c≤2^60)(a:AsF g es (aS c p) 0 c ks){h:List Key→Key}(eh:Ext g h):bZ h c en (stR (aS c p) ks) (ks.length+1)=jT h (es.take c):=by
 have hl:=a.len
 have t:=AsF.top hp eh (e:=60) (fi:=0) (m:=c) (ks:=ks) (Ly _) (by omega) (by omega) c2 (by rw[NC];exact a)
 rw[NC,Oe]at t
 have e1:(stR (aS c p) ks)[ks.length]?=none:=Lh (by rw[eD hl];omega)
 rw[iu]
 unfold dw
 rw[e1]
 have e2:=vN hl (h:=h) (c:=c) (en:=en) ks.length (by omega)
 rw[hl,Pz,Oe,Oe,←t]at e2
 rw[hl]
 dsimp only
 rw[e2]
 unfold jT
 rw[Lf,ND hc]
theorem GC (K:tx)(A:Adr):Ln (ux K A) 2:=by rintro vs H Q E ⟨x,f,L,D,es,kvs,e,rfl,_⟩;rfl
theorem Kv (T:Txt K mg A):Rd (ux K A) (T_4 K A) ["self","entry"]:=by
 intro vs H Q E h
 obtain⟨x,f,L,D,es,kvs,e,rfl,r,en,le,q⟩:=h
 obtain⟨dx,hx⟩:=r.ob
 have q:Q (.int (es.length:Int)) (upd H L (.lst (es.map kV++[kV e]))):=by
  rw[Lc]at q;exact q
 refine⟨_,_,rfl,dY e,Sel.no (by rw[iF en.1];rfl) ⟨x,A.c_Row,dx,_,.ref L,rfl,hx,T.cl_Row,T.na_Row_entries,rfl,.inl ⟨rfl,_,SqL.of r.hl⟩,L,_,_,rfl,rfl,r.hl,?_,?_⟩⟩
 ·rw[Kz];exact KU le (aF (by decide))
 ·have hL:x≠L:=aW hx r.hl (fun z=>nomatch z)
  refine⟨x,A.c_Row,dx,_,.ref L,rfl,by rw[ao hL];exact hx,T.cl_Row,T.na_Row_entries,rfl,.inl (.inl ⟨_,SqL.of ai,?_⟩)⟩
  have e:(((es.map kV++[kV e]).length:Nat):Int)- 1=(es.length:Int):=by simp
  show Q (.int ((((es.map kV++[kV _]).length:Nat):Int)- 1)) _
  rw[e];exact q
theorem BB (K:tx)(A:Adr):Ln (pf K A) 2:=by rintro vs H Q E ⟨c,p,rfl,_⟩;rfl
theorem HB (T:Txt K mg A):Rd (pf K A) (Jj K A) ["count","elder"]:=by
 intro vs H Q E h
 obtain⟨c,p,rfl,h0,h1,h2,q⟩:=h
 refine⟨_,_,rfl,.int c,Sel.yes (lS (by omega) (by omega)) ⟨_,_,rfl,.int p,Sel.yes rfl (Sel.yes (decide_eq_true h0) ?_)⟩⟩
 show Q (.bl (decide (p≤c))) H
 rw[decide_eq_true h1];exact q
theorem Gk (K:tx)(A:Adr):Ln (tN K A) 3:=by rintro vs H Q E ⟨x,f,L,D,es,kvs,c,p,rfl,_⟩;rfl
theorem Jd (T:Txt K mg A):Rd (tN K A) (T_5 K A) ["self","count","elder"]:=by
 intro vs H Q E h
 obtain⟨x,f,L,D,es,kvs,c,p,rfl,r,h0,h1,h2,q⟩:=h
 obtain⟨dx,hx⟩:=r.ob
 have:=r.le
 refine⟨c,p,rfl,h0,h1,by omega,Sel.t ⟨x,dx,_,rfl,hx,rfl,x,f,L,D,es,kvs,rfl,r,?_⟩⟩
 show Q (.bl (decide (c≤(es.length:Int)))) H
 rw[decide_eq_true h2];exact q
theorem Gv (K:tx)(A:Adr):Ln (tR K A) 3:=by rintro vs H Q E ⟨x,f,L,D,es,kvs,c,p,rfl,_⟩;rfl
theorem IE (T:Txt K mg A):Rd (tR K A) (T_6 K A) ["self","count","place"]:=by
 intro vs H Q E h
 obtain⟨x,f,L,D,es,kvs,c,p,rfl,r,h0,h1,h2,q⟩:=h
 obtain⟨dx,hx⟩:=r.ob
 have:=r.le
 refine⟨_,_,_,_,rfl,.int c,.int p,Sel.yes (oF h0 h1 (by omega)) ⟨x,dx,_,rfl,hx,rfl,x,f,L,D,es,kvs,rfl,r,?_⟩⟩
 show Q (.bl (decide (c≤(es.length:Int)))) H
 rw[decide_eq_true h2];exact q
theorem AO {c:Nat}{v:Key}(h:c<2^60)(ok:okP v=true):okT [.inr "row",.inl (c:Int),v]=true:=jZ okW.2.2.2 (fun x hx=>by
 rcases KY.mp hx with rfl|hx
 ·exact okC h
 ·rw[KW.mp hx];exact ok) (by show 2≤7;decide)
theorem Fd {k:List Key}{v:Key}(h:qB k v):wZ v:=fun i e=>by subst e;exact h.2
theorem FN (K:tx)(A:Adr):Ln (va K A) 2:=by rintro vs H Q E ⟨x,f,L,D,b,kd,es,kvs,g,n,c,rfl,_⟩;rfl
theorem JE (T:Txt K mg A):Rd (va K A) (T_7 K A) ["self","count"]:=by
 intro vs H Q E h
 obtain⟨x,f,L,D,b,kd,es,kvs,g,n,c,rfl,r,hc,hn,q⟩:=h
 obtain⟨dx,hx⟩:=r.r.ob
 have l60:=r.r.le
 refine⟨x,dx,_,rfl,hx,rfl,x,dx,_,rfl,hx,rfl,x,f,L,D,es,kvs,rfl,r.r,x,f,L,D,es,kvs,_,_,rfl,r.r,by omega,by omega,by omega,Sel.f ?_⟩
 refine⟨x,dx,_,f,rfl,hx,rfl,r.s.clo,x,dx,_,rfl,hx,rfl,x,f,L,D,b,kd,es,kvs,g,n,0,c,rfl,r,by omega,by omega,by omega,fun v kvs1 g1 H1 k1 r1 s1 ok1 sz1' e1=>⟨aF (show 3≤1000000 by decide),fun p hp=>?_⟩⟩
 have S2:au H1 (upd H1 p (.tup [.str "row",.int (c:Int),kV v])):=au.upd hp
 have hp2:upd H1 p (.tup [.str "row",.int (c:Int),kV v]) p=some (.tup (([.inr "row",.inl (c:Int),v]:List Key).map kV)):=ai
 have r2:=r1.same S2 (KA _)
 dsimp only[am]
 refine fb r2.s (by omega) hp2 (AO (by omega) ok1) fun w H3 g3 kb s3 sub3 gv st=>?_
 have e2:(es.drop 0).take c=es.take c:=rfl
 rw[e2]at e1
 have hl:(es.take c).length=c:=by rw[Lf];omega
 refine q w kvs1 g3 H3 ((k1.trans (bS.same S2)).trans (bS.kb kb)) ((r2.call kb s3 sub3 (Np _)).same au.rfl' (by omega)) (s1.trans sub3) (iQ st ?_) (Fd st) fun h eh=>?_
 ·rw[sz3,szW.2.2.2]
  unfold szB at sz1'
  show 65+(62+_)≤_
  omega
 ·rw[←eh _ _ gv]
  unfold jT
  rw[hl,←e1 h (Ext.of sub3 eh)]
theorem bY.setM {H:Hp}{x f L D b M:Addr}{kd:Kd}{es:List Key}{kvs:List (List Key×Key)}{g:gOp}{n:Nat}{xs ys:List V}(r:bY A H x f L D b kd es kvs g n)(hM:H M=some (.lst xs))(ne:L≠M):bY A (upd H M (.lst ys)) x f L D b kd es kvs g n:=by
 obtain⟨dx,hx⟩:=r.r.ob
 exact⟨⟨⟨dx,by rw[ao (aW hx hM (fun z=>nomatch z))];exact hx⟩,by rw[ao ne];exact r.r.hl,by rw[ao (aW r.r.hd hM (fun z=>nomatch z))];exact r.r.hd,r.r.en,r.r.le⟩,r.s.setL hM,r.c,r.db,r.da,r.kl⟩
structure Pp (A:Adr)(H H':Hp)(x f L D b M W:Addr)(kd:Kd)(es:List Key)(c p fi m i:Nat)(g g':gOp)(n:Nat)(ks:List Key):Prop where
 fp:fi≤p
 pm:p- fi<m
 fm:fi+m≤c
 tr:∃e,(aS c p).drop i=cj e (p- fi) m∧m≤2^e∧∀g2 ks2,Sub g' g2→AsF g2 es (cj e (p- fi) m) fi m ks2→AsF g2 es (aS c p) 0 c (ks++ks2)
 hM:H' M=some (.lst (ks.map kV))
 hW:H' W=some (.lst ((aS c p).map V.int))
 k2:bS b D H H'
 r:∃kvs N,bY A H' x f L D b kd es kvs g' N∧N+2*m≤n+2*c
 sub:Sub g g'
 kl:ks.length+m≤c
theorem Gs (K:tx)(A:Adr):Ln (tH K A) 3:=by rintro vs H Q E ⟨x,f,L,D,b,kd,es,kvs,g,n,c,p,rfl,_⟩;rfl
theorem JO (T:Txt K mg A):Rd (tH K A) (T_8 K A) ["self","count","place","marks","first","many","turn","ahead"]:=by
 intro vs H Q E h
 obtain⟨x,f,L,D,b,kd,es,kvs,g,n,c,p,rfl,r,hc,hpc,hn,q⟩:=h
 obtain⟨dx,hx⟩:=r.r.ob
 have l60:=r.r.le
 refine⟨x,dx,_,rfl,hx,rfl,x,f,L,D,es,kvs,_,_,rfl,r.r,by omega,by omega,by omega,Sel.f ⟨Ly _,fun M hM=>?_⟩⟩
 have LM:L≠M:=av r.r.hl hM
 have S1:au H (upd H M (.lst [])):=au.upd hM
 have hM1:upd H M (.lst []) M=some (.lst (([]:List Key).map kV)):=ai
 generalize upd H M (.lst [])=H1 at S1 hM1
 refine⟨p,c,rfl,hpc,by omega,fun W hWn=>⟨W,rfl,.inl ⟨⟨_,SqL.of ai⟩,?_⟩⟩⟩
 have S2:=au.upd (o:=.lst ((aS c p).map V.int)) hWn
 have hW:upd H1 W (.lst ((aS c p).map V.int)) W=some (.lst ((aS c p).map V.int)):=ai
 generalize upd H1 W (.lst ((aS c p).map V.int))=H2 at S2 hW
 have MW:W≠M:=Lg (av hM1 hWn)
 refine jH (xs:=(aS c p).map V.int) (fun i σ H'=>∃(fi m:Nat)(ks:List Key)(g':List Key→Option Key)(x6 x7:Option V),σ=[some (.ref x),some (.int (c:Int)),some (.int (p:Int)),some (.ref M),some (.int (fi:Int)),some (.int (m:Int)),x6,x7]∧Pp A H H' x f L D b M W kd es c p fi m i g g' n ks)
  ⟨0,c,[],g,none,none,rfl,Ly _,hpc,by omega,⟨60,by rw[Oe,NC],by omega,fun g2 ks2 _ a=>by rw[NC]at a;exact a⟩,S2 _ _ hM1,hW,bS.same (S1.trans S2),⟨kvs,n,r.same (S1.trans S2) (KA _),KA _⟩,Sub.rfl',by simp⟩
  (fun i σ H' _ h=>?_) (fun i v σ H' hx' h=>?_) (fun σ H' h=>?_)
 ·obtain⟨_,_,_,_,_,_,_,pp⟩:=h
  exact SqL.of pp.hW
 ·obtain⟨fi,m,ks,g',x6,x7,rfl,pp⟩:=h
  obtain⟨fp,pm,fm,⟨e,tr,me,acc⟩,hM',hW',k2,⟨kv,N,r',hN⟩,sub,kl⟩:=pp
  obtain⟨t,ht,rfl⟩:=iV hx'
  have hi:=(KC.mp ht).1
  have ed:(aS c p).drop i=t::(aS c p).drop (i+1):=by rw[Nb hi,(KC.mp ht).2]
  rw[ed]at tr
  have m2:2≤m:=by
   rcases MV m 2 with h|h
   ·rw[hU (by omega)]at tr;cases tr
   ·exact h
  cases e with
  |zero=>simp at me;omega
  |succ e=>
  obtain⟨g1,g2⟩:=iP m2
  have b2:=ij m2
  have b3:=hV m2 me
  rw[gi (by omega)]at tr acc
  obtain⟨dx',hxx⟩:=r'.r.ob
  have lt:(ks.map kV).length<sizeLine:=by rw[Kz];exact bK (by omega)
  obtain⟨nM,nM2⟩:=r'.n2 hM' (fun _ z=>nomatch z) (fun _ z=>nomatch z)
  obtain⟨nW,nW2⟩:=r'.n2 hW' (fun _ z=>nomatch z) (fun _ z=>nomatch z)
  have app:∀v:Key,ks.map kV++[kV v]=(ks++[v]).map kV:=fun v=>by rw[Lc];rfl
  have l1:((es.drop fi).take (aB m)).length=aB m:=by rw[Lf,LV];omega
  have l2:((es.drop (fi+aB m)).take (m- aB m)).length=m- aB m:=by rw[Lf,LV];omega
  refine⟨m,rfl,m2,by omega,?_⟩
  by_cases hp:p- fi<aB m
  ·rw[if_pos hp]at tr acc
   have tr2:=(Mu tr).2
   obtain rfl:=(Mu tr).1
   refine Sel.dec (fun _=>?_) (fun h=>absurd rfl h)
   refine⟨.inl ⟨rfl,_,SqL.of hM'⟩,x,dx',_,rfl,hxx,rfl,x,f,L,D,b,kd,es,kv,g',N,fi+aB m,m- aB m,?_,r',by omega,by omega,by omega,fun v kv2 g2' H3 k3 r3 sub3 okv szv ev=>?_⟩
   ·rw[Rh,RW (by omega)]
   have hM3:=k3 _ _ nM nM2 hM'
   refine⟨M,_,kV v,rfl,rfl,hM3,lt,?_⟩
   rw[app]
   refine⟨fi,aB m,ks++[v],g2',_,_,rfl,fp,hp,by omega,⟨e,tr2,b3,fun g3 ks2 s3 a=>?_⟩,ai,by rw[ao MW];exact k3 _ _ nW nW2 hW',fun z o n1 n2 e=>?_,⟨kv2,_,r3.setM hM3 LM,by omega⟩,sub.trans sub3,by rw[KI];show ks.length+1+_≤_;omega⟩
   ·rw[Mz]
    exact acc g3 _ (sub3.trans s3) ⟨v,ks2,rfl,by rw[if_pos rfl];exact⟨⟨okv,by rw[l2];exact szv,fun h eh=>ev h (Ext.of s3 eh)⟩,a⟩⟩
   ·rw[ao (av e hM)];exact k3 _ _ n1 n2 (k2 _ _ n1 n2 e)
  ·rw[if_neg hp]at tr acc
   have tr2:=(Mu tr).2
   obtain rfl:=(Mu tr).1
   have ep:p- fi- aB m=p- (fi+aB m):=by omega
   rw[ep]at tr2 acc
   refine Sel.dec (fun h=>absurd h (by decide)) (fun _=>?_)
   refine⟨.inl ⟨rfl,_,SqL.of hM'⟩,x,dx',_,rfl,hxx,rfl,x,f,L,D,b,kd,es,kv,g',N,fi,aB m,rfl,r',by omega,by omega,by omega,fun v kv2 g2' H3 k3 r3 sub3 okv szv ev=>?_⟩
   have hM3:=k3 _ _ nM nM2 hM'
   refine⟨M,_,kV v,rfl,rfl,hM3,lt,?_⟩
   rw[app]
   refine⟨fi+aB m,m- aB m,ks++[v],g2',some (.int 1),some (.int ((aB m:Nat):Int)),?_,by omega,by omega,by omega,⟨e,tr2,by omega,fun g3 ks2 s3 a=>?_⟩,ai,by rw[ao MW];exact k3 _ _ nW nW2 hW',fun z o n1 n2 e=>?_,⟨kv2,_,r3.setM hM3 LM,by omega⟩,sub.trans sub3,by rw[KI];show ks.length+1+_≤_;omega⟩
   ·rw[RW (by omega),Rh];rfl
   ·rw[Mz]
    exact acc g3 _ (sub3.trans s3) ⟨v,ks2,rfl,by rw[if_neg (by decide)];exact⟨⟨okv,by rw[l1];exact szv,fun h eh=>ev h (Ext.of s3 eh)⟩,a⟩⟩
   ·rw[ao (av e hM)];exact k3 _ _ n1 n2 (k2 _ _ n1 n2 e)
 ·obtain⟨fi,m,ks,g',x6,x7,rfl,pp⟩:=h
  obtain⟨fp,pm,fm,⟨e,tr,me,acc⟩,hM',hW',k2,⟨kv,N,r',hN⟩,sub,kl⟩:=pp
  rw[Kz,TC]at tr
  have all:=acc g' [] Sub.rfl' (by rw[←tr];rfl)
  rw[LW]at all
  obtain⟨dx',hxx⟩:=r'.r.ob
  obtain⟨e,he⟩:∃e,es[p]? =some e:=⟨_,KB (by omega)⟩
  refine⟨x,A.c_Row,dx',_,.ref L,rfl,hxx,T.cl_Row,T.na_Row_entries,rfl,ixL r'.r.hl rfl (by rw[La,he];rfl) ?_⟩
  refine⟨M,_,rfl,.inl ⟨SqL.of hM',fun T hT=>⟨aF (show 2≤1000000 by decide),fun P hP=>?_⟩⟩⟩
  have S5:=(au.upd (o:=.tup (ks.map kV)) hT).trans (au.upd (o:=.tup [kV e,.ref T]) hP)
  have new:∀{z:Addr},H' z=none→H z=none:=fun{z} hz=>by
   cases hz0:H z with
   |none=>rfl
   |some o=>
    by_cases z1:z=b
    ·rcases r'.s.bb with⟨φ,h⟩|⟨kvs,h⟩<;>rw[z1,h]at hz<;>cases hz
    ·by_cases z2:z=D
     ·rw[z2,r'.r.hd]at hz;cases hz
     ·rw[k2 _ _ z1 z2 hz0]at hz;cases hz
  exact q P T e ks kv g' _ (k2.trans (bS.same S5)) (r'.same S5 (by omega)) sub ⟨ai,au.upd hP _ _ ai⟩ he all.len (AsF.mk l60 all) (fun h eh=>AsF.row he hpc hc (by omega) all eh) (new (bO hP).2) (new hT)
theorem oO (m:Key):∀(ms:List Key)(i:Nat),ef i (ms++[m])=ef i ms++[([.inl ((i+ms.length+1:Nat):Int),m],.bl true)]
 |[],i=>rfl
 |a::r,i=>by
  show _::ef (i+1) (r++[m])=_::(ef (i+1) r++_)
  rw[oO m r (i+1),LO,show i+1+r.length+1=i+(r.length+1)+1 by omega]
theorem iX {c:Int}{v:Key}:∀{ms:List Key}{i:Nat},(bh (ef i ms) [.inl c,v]).isSome=true↔∃j:Nat,ms[j]? =some v∧c=((i+j+1:Nat):Int)
 |[],i=>⟨fun h=>(by cases h),fun⟨j,h,_⟩=>(by simp at h)⟩
 |m::r,i=>by
  have ih:=iX (c:=c) (v:=v) (ms:=r) (i:=i+1)
  by_cases e:([.inl ((i+1:Nat):Int),m]:List Key)=[.inl c,v]
  ·have:bh (ef i (m::r)) [.inl c,v]=some (.bl true):=cO (κ:=List Key) (p:=(([.inl ((i+1:Nat):Int),m]:List Key),V.bl true)) (r:=ef (i+1) r) e
   rw[this]
   refine⟨fun _=>⟨0,?_,?_⟩,fun _=>rfl⟩
   ·injection e with e1 e2;injection e2 with e2 _;rw[e2];rfl
   ·injection e with e1 _;injection e1 with e1;exact e1.symm
  ·have:bh (ef i (m::r)) [.inl c,v]=bh (ef (i+1) r) [.inl c,v]:=cQ (κ:=List Key) (p:=(([.inl ((i+1:Nat):Int),m]:List Key),V.bl true)) (r:=ef (i+1) r) e
   rw[this,ih]
   constructor
   ·rintro⟨j,h1,h2⟩
    exact⟨j+1,h1,by rw[h2];congr 1;omega⟩
   ·rintro⟨j,h1,h2⟩
    cases j with
    |zero=>
     exfalso;apply e
     have h1:m=v:=by simpa using h1
     rw[h1,h2]
    |succ j=>exact⟨j,by simpa using h1,by rw[h2];congr 1;omega⟩
theorem AK {ms:List Key}{v:Key}:bh (dB ms) [.inl ((ms.length+1:Nat):Int),v]=none:=by
 cases h:bh (dB ms) [.inl ((ms.length+1:Nat):Int),v]with
 |none=>rfl
 |some u=>
  have h1:(bh (dB ms) [.inl ((ms.length+1:Nat):Int),v]).isSome=true:=by rw[h];rfl
  obtain⟨j,h2,h3⟩:=iX.mp h1
  have:=(KC.mp h2).1
  omega
theorem Aq {ms:List Key}{v:Key}:bx (dB ms) [.inl ((ms.length+1:Nat):Int),v] (.bl true)=dB (ms++[v]):=by
 rw[qR _ AK]
 show _=ef 0 (ms++[v])
 rw[oO,Nat.zero_add]
theorem mY:∀(ms:List Key)(i:Nat),(ef i ms).length=ms.length
 |[],_=>rfl
 |m::r,i=>by show(ef (i+1) r).length+1=r.length+1;rw[mY r]
theorem fJ.grow {g:gOp}{es:List Key}{kvs:List (List Key×Key)}{ci:List Key}(c:fJ g es kvs):fJ g (es++ci) kvs:=fun k v e=>by
 obtain⟨a,m,h1,h2,h3,h4,h5⟩:=c k v e
 refine⟨a,m,h1,by rw[KI];omega,h3,h4,?_⟩
 rw[List.drop_append_of_le_length (by omega),List.take_append_of_le_length (by rw[LV];omega)]
 exact h5
theorem wX {H:Hp}{x f L D b:Addr}{kd:Kd}{es:List Key}{kvs:List (List Key×Key)}{g:gOp}{n:Nat}{e:Key}(r:bY A H x f L D b kd es kvs g n)(en:enK e)(lt:es.length<29):bY A (upd H L (.lst ((es++[e]).map kV))) x f L D b kd (es++[e]) kvs g n:=by
 obtain⟨dx,hx⟩:=r.r.ob
 refine⟨⟨⟨dx,by rw[ao (aW hx r.r.hl (fun z=>nomatch z))];exact hx⟩,ai,by rw[ao (aW r.r.hd r.r.hl (fun z=>nomatch z))];exact r.r.hd,fun y hy=>?_,by rw[KI];show _+1≤_;omega⟩,r.s.setL r.r.hl,r.c.grow,r.db,r.da,r.kl⟩
 rcases LY.mp hy with h|h
 ·exact r.r.en y h
 ·rw[KW.mp h];exact en
theorem bY.setS {H:Hp}{x f L D b S:Addr}{kd:Kd}{es:List Key}{kvs:List (List Key×Key)}{g:gOp}{n:Nat}{ys:List (List Key×V)}{o:HO}(r:bY A H x f L D b kd es kvs g n)(hS:H S=some (.dT ys))(h1:S≠b)(h2:S≠D)(h3:∀A0 al,kd=.pla A0 al→S≠A0):bY A (upd H S o) x f L D b kd es kvs g n:=by
 obtain⟨dx,hx⟩:=r.r.ob
 exact⟨⟨⟨dx,by rw[ao (aW hx hS (fun z=>nomatch z))];exact hx⟩,by rw[ao (aW r.r.hl hS (fun z=>nomatch z))];exact r.r.hl,by rw[ao (Lg h2)];exact r.r.hd,r.r.en,r.r.le⟩,r.s.setD hS h1 h3 (KA _),r.c,r.db,r.da,r.kl⟩
theorem DO (K:tx)(A:Adr):Ln (pV K A) 3:=by rintro vs H Q E ⟨f,b,E,S,kd,es,g,rfl,_⟩;rfl
theorem Fx (T:Txt K mg A):Rd (pV K A) (IL K A) ["_law_stamper_here","_law_entries","_law_sealed","_law_row_here","_law_entry"]:=by
 intro vs H Q E h
 obtain⟨f,b,Ea,S,kd,es,g,rfl,s,hE,en,l29,hS,Sb,Sa,q⟩:=h
 intro x dx hx hdx ne
 refine⟨x,dx,f,rfl,ai,fun L D H1 k1 hL hD nLD e1 e2 e3=>⟨rfl,?_⟩⟩
 have S1:au H H1:=fun z o e=>by
  have n1:z≠x:=av e hx
  have n2:z≠dx:=av e hdx
  exact k1 z o n1 (by rw[ao n1,ao n2];exact e)
 obtain⟨_,hL0⟩:=bO hL
 obtain⟨_,hL0⟩:=bO hL0
 obtain⟨_,hD0⟩:=bO hD
 obtain⟨_,hD0⟩:=bO hD0
 have SD:S≠D:=av hS hD0
 have s1:=s.same (KA _) S1
 have da:∀A0 al,kd=.pla A0 al→D≠A0:=fun A0 al e z=>by
  subst e
  cases s with
  |wri _ _ _ ed=>cases ed
  |cnt _ _ _ _ _ _ _ _ _ ed=>cases ed
  |wea _ _ _ _ _ _ _ ed=>cases ed
  |pla q0 q1 q2 A1 j j0 j1 kvs al' hc hb ha bD hl hs st hg ed=>
   cases ed
   obtain⟨kk,hk⟩:=ha.dict
   rw[←z,hD0]at hk;cases hk
 have r1:bY A H1 x f L D b kd [] [] g 0:=⟨⟨⟨dx,e1⟩,e2,e3,fun _ h=>(nomatch h),Ly _⟩,s1,fun k v h=>(nomatch h),Lg (CJ s.bb hD0),da,Ly _⟩
 refine⟨Ea,rfl,.inl ⟨⟨_,SqL.of (S1 _ _ hE)⟩,?_⟩⟩
 refine jH (xs:=es.map kV) (fun i σ H'=>∃(kvs:List (List Key×Key))(ms:List Key)(g':List Key→Option Key)(x4:Option V),σ=[some (.ref f),some (.ref Ea),some (.ref S),some (.ref x),x4]∧vc b S H H'∧bY A H' x f L D b kd (es.take i) kvs g' (200*i)∧Sub g g'∧H' S=some (.dT (dB ms))∧dG g' (es.take i) ms∧H' Ea=some (.lst (es.map kV)))
  ⟨[],[],g,none,rfl,fun z o _ _ e=>S1 z o e,r1,Sub.rfl',S1 _ _ hS,⟨rfl,fun _ h=>(nomatch h),fun i m h=>(by simp at h)⟩,S1 _ _ hE⟩ (fun i σ H' _ h=>?_) (fun i v σ H' hv h=>?_) (fun σ H' h=>?_)
 ·obtain⟨kvs,ms,g',x4,rfl,ks,r,sub,hS',sl,hE'⟩:=h
  exact SqL.of hE'
 ·obtain⟨kvs,ms,g',x4,rfl,ks,r,sub,hS',sl,hE'⟩:=h
  obtain⟨e,he,rfl⟩:=iV hv
  have hi:=(KC.mp he).1
  have tk:es.take i++[e]=es.take (i+1):=by rw[OP,he];rfl
  have tl:(es.take i).length=i:=by rw[Lf];omega
  have tl1:(es.take (i+1)).length=i+1:=by rw[Lf];omega
  have ml:ms.length=i:=by rw[sl.l,tl]
  have enE:=en e (KM he)
  obtain⟨dx',hx'⟩:=r.r.ob
  refine⟨x,dx',_,rfl,hx',rfl,x,f,L,D,_,kvs,e,rfl,r.r,enE,by omega,?_⟩
  have r2:=wX r enE (by omega)
  have LS:L≠S:=aW r.r.hl hS' (fun z=>nomatch z)
  have LE:Ea≠L:=av hE hL0
  have hS2:upd H' L (.lst ((es.take i++[e]).map kV)) S=some (.dT (dB ms)):=by rw[ao (Lg LS)];exact hS'
  have hE2:upd H' L (.lst ((es.take i++[e]).map kV)) Ea=some (.lst (es.map kV)):=by rw[ao LE];exact hE'
  have ks2:vc b S H (upd H' L (.lst ((es.take i++[e]).map kV))):=fun z o z1 z2 ez=>by rw[ao (av ez hL0)];exact ks z o z1 z2 ez
  generalize upd H' L (.lst ((es.take i++[e]).map kV))=H2 at*
  rw[tk]at r2
  obtain⟨dx2,hx2⟩:=r2.r.ob
  refine⟨x,dx2,_,rfl,hx2,rfl,x,f,L,D,_,kvs,rfl,r2.r,x,dx2,_,rfl,hx2,rfl,x,dx2,_,rfl,hx2,rfl,x,f,L,D,_,kvs,rfl,r2.r,x,f,L,D,b,kd,_,kvs,g',_,(es.take (i+1)).length,rfl,r2,KA _,by omega,fun v kvs3 g3 H3 k3 r3 sub3 okv v59 ev=>⟨aF (show 2≤1000000 by decide),fun p hp=>?_⟩⟩
  rw[Nq]at ev
  rw[tl1]
  obtain⟨n1,n2⟩:=r2.n2 hE2 (fun _ z=>nomatch z) (fun _ z=>nomatch z)
  have hS3:=k3 _ _ Sb SD hS2
  have S4:=au.upd (o:=.tup [V.int ((i+1:Nat):Int),kV v]) hp
  have hp4:upd H3 p (.tup [V.int ((i+1:Nat):Int),kV v]) p=some (.tup (([.inl ((i+1:Nat):Int),v]:List Key).map kV)):=ai
  generalize upd H3 p (.tup [V.int ((i+1:Nat):Int),kV v])=H4 at*
  have hS4:=S4 _ _ hS3
  refine .inr ⟨S,_,rfl,jj.t hS4 hp4 (by rw[mY,ml];exact bK (by omega)),?_⟩
  have ep:bx (dB ms) [.inl ((i+1:Nat):Int),v] (.bl true)=dB (ms++[v]):=by rw[←ml];exact Aq
  rw[ep]
  refine⟨kvs3,ms++[v],g3,_,rfl,fun z o z1 z2 ez=>?_,(r3.same S4 (by omega)).setS hS4 Sb SD Sa,sub.trans sub3,ai,⟨by rw[KI,ml,tl1];rfl,fun m hm=>?_,fun j m hj h eh=>?_⟩,by rw[ao (aW (S4 _ _ (k3 _ _ n1 n2 hE2)) hS4 (fun z=>nomatch z))];exact S4 _ _ (k3 _ _ n1 n2 hE2)⟩
  ·rw[ao z2]
   exact S4 _ _ (k3 _ _ z1 (av ez hD0) (ks2 z o z1 z2 ez))
  ·rcases LY.mp hm with h|h
   ·exact sl.ok m h
   ·rw[KW.mp h];exact⟨okv,v59⟩
  ·rcases MV j ms.length with hlt|hge
   ·rw[LN hlt]at hj
    have:=sl.eq j m hj h (Ext.of sub3 eh)
    rw[OH,ND (by omega)]at this
    rw[OH,ND (by omega)];exact this
   ·have hj':=(KC.mp hj).1
    rw[KI]at hj'
    have ej:j=i:=by have hj':j<ms.length+1:=hj';omega
    subst ej
    rw[LU (by omega),ml,Pz]at hj
    obtain rfl:v=m:=by simpa using hj
    rw[OH,Nat.min_self]
    exact ev h eh
 ·obtain⟨kvs,ms,g',x4,rfl,ks,r,sub,hS',sl,hE'⟩:=h
  rw[Kz,Nq]at r sl
  exact q x L D kvs ms g' H' ks (r.same (au.refl _) (by omega)) sub hS' sl hD0
theorem GD (T:Txt K mg A)(a0 b0:V)(H:Hp)(Q:VK)(E:XK)(h:tK K A [a0,b0] H Q E):Cs K A (dJ ["_law_head","_law_sealed"] [a0] [b0]) H Q:=by
 obtain⟨p,S,ms,c,v,e,hp,hS,q⟩:=h
 cases e
 exact .inl ⟨S,_,rfl,cB.t (k:=[.inl c,v]) hS hp,q⟩
theorem tL (cs:List Addr)(H:Hp):bX cs H (cx cs H)=H:=funext fun b=>by
 by_cases h:b∈cs
 ·rw[gW h]
 ·rw[bV h,cK h]
theorem CB (m:Key):xk (aY m)=some m:=by cases m<;>rfl
theorem zi {d:Dat}(h:bp d=true):∃m,d=aY m:=by
 cases d with
 |int i=>exact⟨.inl i,rfl⟩
 |str z=>exact⟨.inr z,rfl⟩
 |non=>cases h
 |bl b=>cases h
 |lst ds=>cases h
 |tup ds=>cases h
 |dic=>cases h
theorem yg {d:Dat}(h:dA d=true):∃(c:Nat)(m:Key),d=.tup [.int (c:Int),aY m]∧c<2^60:=by
 unfold dA at h
 split at h
 ·obtain⟨h1,h2⟩:=KD.mp h
  obtain⟨c,rfl,c2⟩:=kr h1
  obtain⟨m,rfl⟩:=zi h2
  exact⟨c,m,rfl,c2⟩
 ·cases h
theorem AJ {ms:List Key}{d:Dat}(h:dA d=false):bG ms d=false:=by
 unfold bG
 split
 ·rw[h];rfl
 ·rfl
theorem je {ms:List Key}{c:Int}{m:Key}:bG ms (.tup [.int c,aY m])=(dA (.tup [.int c,aY m])&&(bh (dB ms) [.inl c,m]).isSome):=by
 show(dA (.tup [.int c,aY m])&&(match xk (aY m)with|some v=>(bh (dB ms) [.inl c,v]).isSome|none=>false))=_
 rw[CB]
theorem DK (K:tx)(A:Adr):Ln (my K A) 2:=by rintro vs H Q E ⟨fk,S,ms,v,d,rfl,_⟩;rfl
theorem Fs (T:Txt K mg A):Rd (my K A) (Je K A) ["knows","thing"]:=by
 intro vs H Q E h
 obtain⟨fk,S,ms,v,d,rfl,kn,w,q⟩:=h
 refine⟨v,d,rfl,w,?_⟩
 cases hH:dA d with
 |false=>rw[AJ hH]at q;exact Sel.f q
 |true=>
  obtain⟨c,m,rfl,c2⟩:=yg hH
  obtain⟨p,rfl,hp⟩:=sK w
  obtain⟨cq,hc⟩:=kn.c
  rw[je,hH,NG]at q
  refine Sel.t ⟨fk,rfl,⟨_,mS (mS (mS (mS m0))),_,_,hc⟩,?_⟩
  dsimp only[am]
  refine⟨_,mS (mS (mS (mS m0))),_,_,hc,rfl,p,S,ms,(c:Int),m,rfl,hc.cells.hide hp (fun _ z=>nomatch z),hc.cells.hide kn.s (fun _ z=>nomatch z),?_⟩
  show Q _ (bX [cq] H (cx [cq] H))
  rw[tL];exact q
theorem cr.mono {g g':gOp}{c:Nat}{mk:Key}{e k:Dat}{o:Option Key}(x:cr g c mk e k o)(s:Sub g g'):cr g' c mk e k o:=by
 cases x with
 |place h=>exact .place h
 |paper p he h1 hw h=>exact .paper p he h1 hw h
 |good p tm en ks he h1 hw h ht=>exact .good p tm en ks he h1 hw h fun h' eh=>ht h' (Ext.of s eh)
mutual
theorem aH.keepG {H H':Hp}(k:∀a o,H a=some o→(∀φ,o≠.ext φ)→(∀kvs,o≠.dT kvs)→(∀ps,o≠.tbl ps)→H' a=some o):∀{v:V}{d:Dat},aH H v d→aH H' v d
 |_,_,.non=>.non
 |_,_,.bl b=>.bl b
 |_,_,.int i=>.int i
 |_,_,.str z=>.str z
 |_,_,.lst e r=>.lst (k _ _ e (fun _ z=>nomatch z) (fun _ z=>nomatch z) (fun _ z=>nomatch z)) (DatWs.keepG k r)
 |_,_,.tup e r=>.tup (k _ _ e (fun _ z=>nomatch z) (fun _ z=>nomatch z) (fun _ z=>nomatch z)) (DatWs.keepG k r)
 |_,_,.dic ⟨kk,e⟩=>.dic ⟨kk,k _ _ e (fun _ z=>nomatch z) (fun _ z=>nomatch z) (fun _ z=>nomatch z)⟩
theorem DatWs.keepG {H H':Hp}(k:∀a o,H a=some o→(∀φ,o≠.ext φ)→(∀kvs,o≠.dT kvs)→(∀ps,o≠.tbl ps)→H' a=some o):∀{xs:List V}{ds:List Dat},DatWs H xs ds→DatWs H' xs ds
 |_,_,.nil=>.nil
 |_,_,.cons a r=>.cons (aH.keepG k a) (DatWs.keepG k r)
end
theorem ba.dat {H H':Hp}{f b:Addr}{kd:Kd}{g:gOp}{n:Nat}{v:V}{d:Dat}(k:ba b H H')(s:Stp A H f b kd g n)(w:aH H v d):aH H' v d:=w.keepG fun a o e h1 h2 _=>k a o (s.nb e h1 h2) e
theorem Cj {K:tx}{H:Hp}{Q:VK}(e:Key)(q:Q (.bl true) H):gH (kV e) .non H Q:=by cases e<;>exact q
theorem BR (K:tx)(A:Adr):Ln (mR K A) 3:=by rintro vs H Q E ⟨f,b,fk,S,kd,ms,g,n,v,d,rfl,_⟩;rfl
theorem Fe (T:Txt K mg A):Rd (mR K A) (Jg K A) ["stamper","knows","thing","entry","other"]:=by
 intro vs H Q E h
 obtain⟨f,b,fk,S,kd,ms,g,n,v,d,rfl,s,hn,kn,w,q⟩:=h
 rcases q with⟨nl,qF⟩|⟨c0,c1,m0,m1,e,k0,k1,o0,o1,rfl,nl,b0,b1,ok0,ok1,sh0,sh1,er0,er1,q⟩
 ·have q0:=qF H (.refl H)
  cases w with
  | @tup a xs ds ea r=>
    have ty:tyN H (.ref a)=some "tuple":=by unfold tyN;dsimp only;rw[ea]
    have hl:=r.len
    refine⟨by decide,"tuple",ty,Sel.no rfl (.inl (.inr (.inl ⟨_,SqT.of ea,?_⟩)))⟩
    by_cases h5:ds.length=5
    ·refine Sel.no (by show(!decide ((xs.length:Int)=5))=false;rw[decide_eq_true (show(xs.length:Int)=5 by omega)];rfl) ?_
     cases r with
     |nil=>cases h5
     | @cons x0 xs0 d0 ds0 r0 r=>
     cases r with
     |nil=>cases h5
     | @cons x1 xs1 d1 ds1 r1 r=>
     have nl:(!bG ms d0|| !bG ms d1)=true:=by
      match ds1,h5 with
      |[_,_,_],_=>exact nl
     refine ixT (j:=0) ea rfl rfl ⟨fk,S,ms,x0,d0,rfl,kn,r0,?_⟩
     cases s0:bG ms d0 with
     |false=>exact Sel.yes rfl (Sel.t q0)
     |true=>
      rw[s0]at nl
      refine Sel.no rfl (ixT (j:=1) ea rfl rfl ⟨fk,S,ms,x1,d1,rfl,kn,r1,?_⟩)
      cases s1:bG ms d1 with
      |false=>exact Sel.yes rfl q0
      |true=>rw[s1]at nl;cases nl
    ·exact Sel.yes (by show(!decide ((xs.length:Int)=5))=true;rw[decide_eq_false (show ¬(xs.length:Int)=5 by omega)];rfl) q0
  |int i=>exact⟨by decide,_,rfl,Sel.yes rfl (Sel.t q0)⟩
  |non=>exact⟨by decide,_,rfl,Sel.yes rfl (Sel.t q0)⟩
  |bl b=>exact⟨by decide,_,rfl,Sel.yes rfl (Sel.t q0)⟩
  |str z=>exact⟨by decide,_,rfl,Sel.yes rfl (Sel.t q0)⟩
  |lst e r=>exact⟨by decide,_,(aH.lst e r).ty,Sel.yes rfl (Sel.t q0)⟩
  |dic e=>exact⟨by decide,_,(aH.dic e).ty,Sel.yes rfl (Sel.t q0)⟩
 ·have nl:(!bG ms (.tup [.int (c0:Int),aY m0])|| !bG ms (.tup [.int (c1:Int),aY m1]))=false:=nl
  obtain⟨n0,n1⟩:=Bool.or_eq_false_iff.mp nl
  have s0:bG ms (.tup [.int (c0:Int),aY m0])=true:=by simpa using n0
  have s1:bG ms (.tup [.int (c1:Int),aY m1])=true:=by simpa using n1
  cases w with
  | @tup a xs ds ea r=>
    have ty:tyN H (.ref a)=some "tuple":=by unfold tyN;dsimp only;rw[ea]
    cases r with
    | @cons x0 _ _ _ r0 r=>
    cases r with
    | @cons x1 _ _ _ r1 r=>
    cases r with
    | @cons x2 _ _ _ r2 r=>
    cases r with
    | @cons x3 _ _ _ r3 r=>
    cases r with
    | @cons x4 _ _ _ r4 r=>
    cases r
    refine⟨by decide,"tuple",ty,Sel.no rfl (.inl (.inr (.inl ⟨_,SqT.of ea,Sel.no rfl ?_⟩)))⟩
    refine ixT (j:=0) ea rfl rfl ⟨fk,S,ms,x0,_,rfl,kn,r0,?_⟩
    rw[s0]
    refine Sel.no rfl (ixT (j:=1) ea rfl rfl ⟨fk,S,ms,x1,_,rfl,kn,r1,?_⟩)
    rw[s1]
    refine Sel.no rfl ?_
    refine ixT (j:=0) ea rfl rfl (ixT (j:=2) ea rfl rfl (ixT (j:=3) ea rfl rfl ?_))
    refine⟨f,b,kd,g,n,x0,x2,x3,e,k0,c0,m0,o0,rfl,⟨s,by omega,r2,r3,sh0⟩,r0,b0,ok0,er0,fun g1 H1 kb1 s1' sub1=>?_⟩
    have ea1:H1 a=some (.tup [x0,x1,x2,x3,x4]):=kb1 _ _ (s.nb ea (fun _ z=>nomatch z) (fun _ z=>nomatch z)) ea
    refine ixT (j:=1) ea1 rfl rfl (ixT (j:=2) ea1 rfl rfl (ixT (j:=4) ea1 rfl rfl ?_))
    refine⟨f,b,kd,g1,n+71,x1,x2,x4,e,k1,c1,m1,o1,rfl,⟨s1',by omega,kb1.dat s r2,kb1.dat s r4,sh1⟩,kb1.dat s r1,b1,ok1,er1.mono sub1,fun g2 H2 kb2 s2' sub2=>?_⟩
    have q:=q g2 H2 (kb1.trans kb2) (s2'.same (by omega) (.refl _)) (sub1.trans sub2)
    show gH (kO o0) .non H2 (fun x H3=>match x with|.bl c=>Sel c (gH (kO o1) .non H3 (fun y H4=>match y with|.bl c=>Sel c (gB K (kO o0) (kO o1) H4 Q) (Q (.bl false) H4)|_=>False)) (Q (.bl false) H3)|_=>False)
    cases o0 with
    |none=>exact Sel.f q
    |some e0=>
     refine Cj (K:=K) e0 ?_
     refine Sel.t ?_
     cases o1 with
     |none=>exact Sel.f q
     |some e1=>exact Cj (K:=K) e1 (Sel.t (ku q))
theorem Stp.keepP {H H':Hp}{f b:Addr}{kd:Kd}{g:List Key→Option Key}{n:Nat}(s:Stp A H f b kd g n)(k:∀z o,H z=some o→(∀ps,o≠.tbl ps)→H' z=some o):Stp A H' f b kd g n:=by
 have ke:∀z φ,H z=some (.ext φ)→H' z=some (.ext φ):=fun z φ e=>k _ _ e (fun _ z=>nomatch z)
 have kD:∀z xs,H z=some (.dT xs)→H' z=some (.dT xs):=fun z φ e=>k _ _ e (fun _ z=>nomatch z)
 cases s with
 |wri hc hb hg ed=>exact .wri (hc.keep fun x φ e=>ke _ _ e) hb hg ed
 |cnt q x kvs hc num hl hs st hg ed=>
  obtain⟨⟨dx,e1⟩,e2⟩:=num
  exact .cnt q x kvs (hc.keep fun x φ e=>ke _ _ e) ⟨⟨dx,k _ _ e1 (fun _ z=>nomatch z)⟩,kD _ _ e2⟩ hl hs st hg ed
 |wea q m h1 h2 hc hb hg ed=>exact .wea q m h1 h2 (hc.keep fun x φ e=>ke _ _ e) hb hg ed
 |pla q0 q1 q2 A0 j j0 j1 kvs al hc hb ha bD hl hs st hg ed=>
  refine .pla q0 q1 q2 A0 j j0 j1 kvs al (hc.keep fun x φ e=>ke _ _ e) (kD _ _ hb) ?_ bD hl hs st hg ed
  cases al with
  |none=>exact kD _ _ ha
  |some p=>
   obtain⟨u,e1,e2,e3⟩:=ha
   exact⟨u,kD _ _ e1,k _ _ e2 (fun _ z=>nomatch z),e3⟩
theorem CL (K:tx)(A:Adr):Ln (jg K A) 3:=by rintro vs H Q E ⟨f,b,S,kd,ms,g,n,v,d,rfl,_⟩;rfl
theorem Hc (T:Txt K mg A)(q0:Addr)(vs:List V)(H:Hp)(Q:VK)(E:XK)(h:jg K A vs H Q E):Jk K A q0 (L2.start ["_law_stamper_here","_law_sealed","_law_thing"] vs) H fun ws H1=>(∀p∈([(1,q0)]:List (Nat×Addr)),H1 p.2=none)→mR K A ws (bN [(1,q0)] (L2.start ["_law_stamper_here","_law_sealed","_law_thing"] vs) H1) Q E0:=by
 obtain⟨f,b,S,kd,ms,g,n,v,d,rfl,s,hn,tab,hS,w,q⟩:=h
 have tP:∃ps,H A.t_23=some (.tbl ps):=by
  rcases tab with h|⟨c,h,_⟩
  ·exact⟨_,h⟩
  ·exact⟨_,h⟩
 obtain⟨ps0,tP⟩:=tP
 have go:∀(fk:Addr)(H2:Hp),bI A.t_23 H H2→gw A b H2→(∃ps,H2 A.t_23=some (.tbl ps))→dh H2 fk cZ [q0] [.ref S]→mR K A [.ref f,.ref fk,v] H2 Q E0:=fun fk H2 k tb ⟨pp,tp⟩ ca=>by
  have k':∀z o,H z=some o→(∀ps,o≠.tbl ps)→H2 z=some o:=fun z o e h=>k z o e (aW e tP (h _))
  have s2:=s.keepP k'
  have Pb:A.t_23≠b:=s2.nb tp (fun _ z=>nomatch z) (fun _ z=>nomatch z)
  have kT:∀{H':Hp},ba b H2 H'→jb A b H H':=fun kb z o z1 z2 e=>kb z o z1 (k z o e z2)
  have tS:∀{H':Hp},ba b H2 H'→gw A b H':=fun kb=>by
   rcases tb with h|⟨c,h1,h2,cb⟩
   ·exact .inl (kb _ _ Pb h)
   ·exact .inr ⟨c,kb _ _ Pb h1,kb _ _ cb h2,cb⟩
  refine⟨f,b,fk,S,kd,ms,g,n,v,d,rfl,s2,hn,⟨⟨q0,ca⟩,k' _ _ hS (fun _ z=>nomatch z)⟩,w.keepG fun a o e _ _ h=>k' a o e h,?_⟩
  rcases q with⟨nl,q⟩|⟨c0,c1,m0,m1,e,k0,k1,o0,o1,ed,nl,b0,b1,ok0,ok1,sh0,sh1,er0,er1,q⟩
  ·exact .inl ⟨nl,fun H' S'=>q H' (kT (ba.same S')) (tS (ba.same S')) (s2.same (KA _) S')⟩
  ·exact .inr ⟨c0,c1,m0,m1,e,k0,k1,o0,o1,ed,nl,b0,b1,ok0,ok1,sh0,sh1,er0,er1,fun g' H' kb s' sub=>q g' H' (kT kb) (tS kb) s' sub⟩
 rcases tab with h|⟨c,h1,h2,cb⟩
 ·refine⟨#[],h,trivial,.inl ⟨rfl,fun c fk hc hfk hne free=>?_⟩⟩
  obtain⟨kp,ca⟩:=tV (v:=.ref S) h hc hfk hne (free _ (KW.mpr rfl))
  have hq:=free _ (KW.mpr rfl)
  have cP:=bU h hc
  have fP:=bU h hfk
  have eP:upd (upd (upd H A.t_23 (.tbl (#[]++#[rawInt 329,rawInt 37,.ref c]))) c (bT c cZ.qual)) fk (cJ fk cZ [q0] c) A.t_23=some (.tbl #[rawInt 329,rawInt 37,.ref c]):=by rw[ao (Lg fP),ao (Lg cP),ai];rfl
  have eC:upd (upd (upd H A.t_23 (.tbl (#[]++#[rawInt 329,rawInt 37,.ref c]))) c (bT c cZ.qual)) fk (cJ fk cZ [q0] c) c=some (bT c cZ.qual):=by rw[ao hne];exact ai
  refine go fk _ kp (.inr ⟨c,?_,?_,Lg (CJ s.bb hc)⟩) ⟨#[rawInt 329,rawInt 37,.ref c],?_⟩ ca
  ·exact au.upd (o:=bw q0 (.ref S)) hq _ _ eP
  ·exact au.upd (o:=bw q0 (.ref S)) hq _ _ eC
  ·exact au.upd (o:=bw q0 (.ref S)) hq _ _ eP
 ·refine⟨_,h1,by trivial,.inr ⟨c,by rfl,fun fk hfk free=>?_⟩⟩
  have hq:upd H fk (cJ fk cZ [q0] c) q0=none:=free _ (KW.mpr rfl)
  have fP:A.t_23≠fk:=av h1 hfk
  have S2:au H (upd (upd H fk (cJ fk cZ [q0] c)) q0 (bw q0 (.ref S))):=(au.upd hfk).trans (au.upd hq)
  refine go fk _ (fun z o e _=>S2 _ _ e) (.inr ⟨c,S2 _ _ h1,S2 _ _ h2,cb⟩) ⟨_,S2 _ _ h1⟩ ⟨⟨c,au.upd hq _ _ ai,S2 _ _ h2⟩,.cons ai .nil⟩
theorem vJ (xs:List V)(j:Nat)(hj:j≤xs.length):eT xs none (some (j:Int))=xs.take j:=by
 unfold eT
 rw[HT.la,HT.qI,Oe,NC,ND hj]
theorem xZ (xs:List V)(j:Nat)(hj:j≤xs.length):eT xs (some (j:Int)) none=xs.drop j:=by
 unfold eT
 rw[HT.la,HT.qI,ND hj,List.take_of_length_le (by rw[LV];omega)]
theorem Cc {w:Str}(hw:w="z"∨w="y"){n:Nat}(hn:n≤100000):okP (.inr (Pu w (n:Int)))=true∧(Pu w (n:Int)).length≤n:=by
 obtain⟨c,hc,rfl⟩:∃c:Nat,c<128∧w=⟨#[c]⟩:=by
  rcases hw with rfl|rfl
  ·exact⟨122,by decide,by decide+kernel⟩
  ·exact⟨121,by decide,by decide+kernel⟩
 have hl:(Pu ⟨#[c]⟩ (n:Int)).length≤n:=len_mul_one (N:=n) rfl (by omega)
 refine⟨?_,hl⟩
 show(cv _&&decide _)=true
 rw[decide_eq_true (by omega),UA]
 unfold cv
 rw[←Array.all_toList,mul_one_list,Mc]
 intro x hx
 rw[(List.mem_replicate.mp hx).2];exact decide_eq_true hc
theorem Co (K:tx)(A:Adr):Ln (jE K A) 1:=by rintro vs H Q E ⟨m,rfl,_⟩;rfl
theorem Iu (T:Txt K mg A):Rd (jE K A) (IH K A) ["_law_mark"]:=by
 intro vs H Q E h
 obtain⟨m,rfl,en,q⟩:=h
 cases m with
 |inl i=>
  refine⟨by decide,"int",rfl,Sel.no rfl ?_⟩
  have r0:=NE (i+2520) (b:=10^60) (by decide+kernel)
  have r1:=MX (i+2520) (b:=10^60) (by decide+kernel)
  have k:∀i:Int,0≤i→i<10^60→okP (.inl i)=true:=fun i h0 h1=>decide_eq_true ⟨h0,h1⟩
  refine⟨⟨by decide,by decide⟩,by decide,?_⟩
  exact q (.inl ((i+2520)%10^60)) H (.refl H) (k _ r0 r1) (KA _)
 |inr z=>
  have hz:z.length≤12000:=by have:z.length+62≤12000:=en.2;omega
  refine⟨by decide,"str",rfl,Sel.yes rfl ⟨aF (show 2≤1000000 by decide),fun p hp=>⟨1,rfl,.inr ⟨z,rfl,Mq (aF (by omega)),?_⟩⟩⟩⟩
  have fin:∀w:Str,(w="z"∨w="y")→uC (.str w) (.int (z.length:Int)) (upd H p (.lst [.str "z",.str "y"])) Q:=fun w hw=>by
   obtain⟨o1,o2⟩:=Cc hw (n:=z.length) (by omega)
   refine⟨w,_,rfl,rfl,⟨by omega,by omega,by rcases hw with rfl|rfl<;>decide⟩,q (.inr (Pu w (z.length:Int))) _ (au.upd hp) o1 (SG o2 62)⟩
  by_cases e:Qk z none (some 1)="z"
  ·show aD K (.ref p) (.int (if decide (Qk z none (some 1)="z")=true then 1 else 0)) _ _
   rw[if_pos (decide_eq_true e)]
   exact ixL (j:=1) ai rfl rfl (.inl ⟨Mq (aF (by omega)),fin _ (.inr rfl)⟩)
  ·show aD K (.ref p) (.int (if decide (Qk z none (some 1)="z")=true then 1 else 0)) _ _
   rw[if_neg (by rw[decide_eq_false e];decide)]
   exact ixL (j:=0) ai rfl rfl (.inl ⟨Mq (aF (by omega)),fin _ (.inl rfl)⟩)
theorem EL (K:tx)(A:Adr):Ln (pZ K A) 3:=by rintro vs H Q E ⟨k,c,P,T,e,ks,rfl,_⟩;rfl
theorem pR {H:Hp}{Q:VK}{T':Addr}{e':Key}{ks ks':List Key}(hT:H T'=some (.tup (ks'.map kV)))(ee:enK e')(ke:∀x∈ks',mkK x)(kl:ks'.length=ks.length)
  (q:∀(P' T':Addr)(e':Key)(ks':List Key)(H':Hp),au H H'→bL H' P' T' e' ks'→enK e'→(∀x∈ks',mkK x)→ks'.length=ks.length→Q (.ref P') H'):([kV e',V.ref T']:List V).length≤sizeLine∧∀p,H p=none→Q (.ref p) (upd H p (.tup [kV e',.ref T'])):=
 ⟨(by show 2≤sizeLine;decide),fun p hp=>q p T' e' ks' _ (au.upd hp) ⟨ai,au.upd hp _ _ hT⟩ ee ke kl⟩
theorem mX {e e':Key}(h:enK e)(ok:okP e'=true)(sz:szK e'≤szK e):enK e':=⟨ok,KR sz h.2⟩
theorem Ba {e e':Key}(h:mkK e)(ok:okP e'=true)(sz:szK e'≤szK e):mkK e':=⟨ok,KR sz h.2⟩
theorem pI {e:Key}(h:enK e):mkK e:=⟨h.1,by have:=h.2;omega⟩
theorem HN (T:Txt K mg A):Rd (pZ K A) (II K A) ["_law_kind","_law_cell","_law_paper","_law_entry","_law_marks","_law_spot","_law_thing"]:=by
 intro vs H Q E h
 obtain⟨k,c,P,TT,e,ks,rfl,w,ee,ke,l60,q⟩:=h
 have qS:∀{H1:Hp},au H H1→∀(P' T':Addr)(e':Key)(ks':List Key)(H':Hp),au H1 H'→bL H' P' T' e' ks'→enK e'→(∀x∈ks',mkK x)→ks'.length=ks.length→Q (.ref P') H':=fun S P' T' e' ks' H' S' w' a b c=>q P' T' e' ks' H' (S.trans S') w' a b c
 refine⟨P,[kV e,.ref TT],rfl,SqT.of w.hP,rfl,_,_,rfl,_,_,rfl,rfl,?_⟩
 refine Sel.dec (fun h=>?_) (fun h0=>?_)
 ·exact⟨e,rfl,pI ee,fun e' H1 S1 ok' sz'=>pR (S1 _ _ w.hT) (mX ee ok' sz') ke rfl (qS S1)⟩
 have one:∀(c':Int),jw K A [.int c'] H (fun v H1=>([v,V.ref TT]:List V).length≤sizeLine∧∀p,H1 p=none→Q (.ref p) (upd H1 p (.tup [v,.ref TT]))) E0:=fun c'=>⟨c',rfl,fun e' H1 S1 ee'=>pR (S1 _ _ w.hT) ee' ke rfl (qS S1)⟩
 refine Sel.dec (fun h=>Sel.yes rfl (one c)) (fun h1=>.inl (.inr (.inl ⟨_,SqT.of w.hT,?_⟩)))
 rw[Kz]
 refine Sel.dec (fun h=>one c) (fun h2=>?_)
 have kpos:0<ks.length:=by have h2:¬(ks.length:Int)=0:=h2;omega
 refine Sel.dec (fun h=>?_) (fun h3=>?_)
 ·refine⟨e,rfl,pI ee,fun e' H1 S1 ok' sz'=>⟨TT,_,rfl,SqT.of (S1 _ _ w.hT),fun l hl=>?_⟩⟩
  rw[←QC]
  exact pR ai (mX ee ok' sz') (fun x hx=>ke x (QB.mp hx)) (Ox ..) (qS (S1.trans (au.upd hl)))
 have l1:(ks.map kV).length=ks.length:=Kz ..
 have lz:∀m:Nat,m≤200→m≤sizeLine:=fun m hm=>Mq (aF (by omega))
 refine .inl (.inr (.inl ⟨_,SqT.of w.hT,?_⟩))
 rw[Kz]
 have r0:=NE c (b:=(ks.length:Int)) (by omega)
 have r1:=MX c (b:=(ks.length:Int)) (by omega)
 refine⟨by omega,?_⟩
 obtain⟨sp,hsp⟩:=Mp r0
 rw[hsp]
 have spl:sp<ks.length:=by omega
 obtain⟨kk,hkk⟩:∃kk,ks[sp]?=some kk:=⟨_,KB spl⟩
 have ekk:=ke kk (KM hkk)
 refine ixT (j:=sp) w.hT rfl (by rw[La,hkk];rfl) ⟨kk,rfl,ekk,fun t1 H1 S1 ok1 sz1=>?_⟩
 have last:∀{H2:Hp}(t:Key),au H H2→mkK t→wL K A {nx:=fun _ H'=>Q .non H',rt:=Q} [some (.int k),some (.int c),some (.ref P),some (kV e),some (.ref TT),some (.int (sp:Int)),some (kV t)] H2:=by
  intro H2 t S2 et
  refine⟨e,rfl,pI ee,fun e' H2' S2' ok' sz'=>?_⟩
  have S2:=S2.trans S2'
  refine⟨(sp:Int),rfl,.inl (.inr ⟨TT,_,rfl,S2 _ _ w.hT,fun p1 H3 S3 hp1=>?_⟩)⟩
  refine⟨by show 1≤sizeLine;decide,fun t4 h4=>?_⟩
  have S4:=au.upd (o:=.tup [kV t]) h4
  have hp1:upd H3 t4 (.tup [kV t]) p1=some (.tup ((ks.take sp).map kV)):=by rw[S4 _ _ hp1,Ux];exact congrArg (fun z=>some (HO.tup z)) (vJ _ sp (by omega))
  refine .inr ⟨p1,t4,_,[kV t],rfl,rfl,hp1,ai,lz _ (by simp;omega),fun p5 H5 S5 hp5=>?_⟩
  have S15:=(((S2.trans S3).trans S4).trans S5)
  refine⟨(sp:Int)+1,rfl,.inl (.inr ⟨TT,_,rfl,S15 _ _ w.hT,fun p6 H6 S6 hp6=>?_⟩)⟩
  have hp6:H6 p6=some (.tup ((ks.drop (sp+1)).map kV)):=by rw[hp6,Uy];exact congrArg (fun z=>some (HO.tup z)) (xZ _ (sp+1) (by omega))
  refine .inr ⟨p5,p6,_,_,rfl,rfl,S6 _ _ hp5,hp6,lz _ (by simp;omega),fun p7 H7 S7 hp7=>?_⟩
  have e7:(ks.take sp).map kV++[kV t]++(ks.drop (sp+1)).map kV=(ks.take sp++[t]++ks.drop (sp+1)).map kV:=by simp
  rw[e7]at hp7
  refine pR hp7 (mX ee ok' sz') (fun x hx=>?_) (by simp;omega) (qS ((S15.trans S6).trans S7))
  rcases LY.mp hx with h|h
  ·rcases LY.mp h with h|h
   ·exact ke x (Ss h)
   ·rw[KW.mp h];exact et
  ·exact ke x (List.mem_of_mem_drop h)
 refine Sel.dec (fun h=>?_) (fun h=>?_)
 ·exact⟨⟨by decide,by decide⟩,_,rfl,fun t2 H2 S2 et2=>last t2 (S1.trans S2) (pI et2)⟩
 ·exact last t1 S1 (Ba ekk ok1 sz1)
theorem DA (K:tx)(A:Adr):Ln (pH K A) 4:=by rintro vs H Q E ⟨f,b,D,o1,o2,k1,k2,g,n,rfl,_⟩;rfl
theorem Ir (T:Txt K mg A):Rd (pH K A) (JF K A) ["_law_known","_law_alias","_law_new","_law_old"]:=by
 intro vs H Q E h
 obtain⟨f,b,D,o1,o2,k1,k2,g,n,rfl,s,hn,h1,h2,ok1,ok2,q⟩:=h
 have s0:=s
 cases s with
 |wri _ _ _ ed=>cases ed
 |cnt _ _ _ _ _ _ _ _ _ ed=>cases ed
 |wea _ _ _ _ _ _ _ ed=>cases ed
 |pla q0 q1 q2 D' j j0 j1 kvs al hc hb ha bD hl hs st hg ed=>
  obtain⟨rfl,rfl⟩:D=D'∧none=al:=by cases ed;exact⟨rfl,rfl⟩
  have hD:H D=some (.dT []):=ha
  refine .inl ⟨b,_,rfl,cB.t hb h1,?_⟩
  cases e:bB kvs k1 with
  |some v=>
   rw[fN,e]
   exact Sel.no rfl (q none g H (fun x o _ e=>e) s0 Sub.rfl')
  |none=>
   rw[fN,e]
   refine Sel.yes rfl (.inr ⟨D,upd H D (.dT (bx [] k1 (.ref o2))),rfl,.inr ⟨[],k1,o1,hD,rfl,h1,by decide,rfl⟩,?_⟩)
   have kx:∀z (u:HO),z≠D→H z=some u→upd H D (.dT (bx [] k1 (.ref o2))) z=some u:=fun z u nz ez=>by rw[ao nz];exact ez
   refine q (some (k1,k2)) (fun k=>bB kvs (alF (some (k1,k2)) k)) _ (fun x o n e=>kx x o n e) (.pla q0 q1 q2 D j j0 j1 kvs (some (k1,k2)) (hc.keep fun x φ e=>kx _ _ (aW e hD (fun z=>nomatch z)) e) (kx _ _ bD hb) ⟨o2,ai,kx _ _ (aW h2 hD (fun z=>nomatch z)) h2,ok2⟩ bD hl hs st rfl rfl) fun k v gk=>?_
   rw[hg]at gk
   have gk:bB kvs k=some v:=gk
   show bB kvs (if k=k1 then k2 else k)=some v
   rw[if_neg (fun z=>by rw[z,e]at gk;cases gk)];exact gk
theorem xp {α:Type}{ks:List α}{a:α}:∀(j:Nat),ks[j]? =some a→∃j0,j0≤j∧ks[j0]? =some a∧∀j',j'<j0→ks[j']? ≠some a:=by
 intro j
 induction j using Nat.strongRecOn with
 |ind j ih=>
  intro h
  by_cases e:∃j',j'<j∧ks[j']? =some a
  ·obtain⟨j',h1,h2⟩:=e
   obtain⟨j0,h3,h4,h5⟩:=ih j' h1 h2
   exact⟨j0,by omega,h4,h5⟩
  ·exact⟨j,KA _,h,fun j' h1 h2=>e ⟨j',h1,h2⟩⟩
theorem gQ {k:List Key}(h:okT k=true):k.all vG=true:=by
 rw[Mc]
 intro x hx
 have:=lf h hx
 cases x with
 |inl i=>rfl
 |inr z=>exact CD (KD.mp this).1
theorem Iz {H:Hp}{ps:List Addr}{ts:List (List Key)}(h:PK H ps ts):∀{i:Nat}{p:Addr},ps[i]? =some p→∃t,ts[i]? =some t∧H p=some (.tup (t.map kV))∧okT t=true:=by
 induction h with
 |nil=>intro i t e;cases e
 |cons r _ ih=>
  intro i t e
  cases i with
  |zero=>cases e;exact⟨_,rfl,r⟩
  |succ i=>exact ih e
theorem Cv (K:tx)(A:Adr):Ln (pG K A) 2:=by rintro vs H Q E ⟨f,bb,L,dd,ps,ks,g,n,rfl,_⟩;rfl
theorem Ho (T:Txt K mg A):Rd (pG K A) (IU K A) ["stamper","terms","firsts","term","ahead"]:=by
 intro vs H Q E h
 obtain⟨f,bb,L,dd,ps,ks,g,n,rfl,s,hL,pk,hk9,hn,q⟩:=h
 have sdd:=s.bb
 have pl:=iS pk
 refine .inl fun d hd=>?_
 have S0:=au.upd (o:=.dK []) hd
 refine⟨L,rfl,.inl ⟨⟨_,SqL.of (S0 _ _ hL)⟩,?_⟩⟩
 have noc:∀(i:Nat)(H':Hp)(g':List Key→Option Key)(kvs:List (Key×V)),(∀j a,j<i→ks[j]? =some a→∃v p,g' a=some v∧bh kvs v=some (.ref p)∧H' p=some (.tup (a.map kV)))→∀(h:List Key→Key),Ext g' h→∀(j k:Nat) a b,j<k→k<i→ks[j]? =some a→ks[k]? =some b→h a=h b→a=b:=by
  intro i H' g' kvs I1 h hh j k a b h1 h2 h3 h4 h5
  obtain⟨v,p,e1,e2,e3⟩:=I1 j a (by omega) h3
  obtain⟨v',p',e1',e2',e3'⟩:=I1 k b h2 h4
  have:v=v':=by rw[hh _ _ e1,hh _ _ e1']at h5;exact h5
  subst this
  rw[e2]at e2';cases e2'
  rw[e3]at e3'
  injection e3' with e;injection e with e
  exact iW e
 refine jH (xs:=ps.map V.ref) (fun i σ H'=>∃x3 x4 g' kvs,σ=[some (.ref f),some (.ref L),some (.ref d),x3,x4]∧ba bb H H'∧Stp A H' f bb dd g' (n+i)∧Sub g g'∧H' d=some (.dK kvs)∧kvs.length≤i∧
   (∀j a,j<i→ks[j]? =some a→∃v p,g' a=some v∧bh kvs v=some (.ref p)∧H' p=some (.tup (a.map kV)))∧
   ∀v x,bh kvs v=some x→∃j a p,j<i∧ks[j]? =some a∧x=.ref p∧H' p=some (.tup (a.map kV))∧okT a=true∧g' a=some v)
  ⟨none,none,g,[],rfl,ba.same S0,s.same (KA _) S0,fun _ _ e=>e,ai,KA _,fun j a hj=>by omega,fun v x e=>by cases e⟩ ?_ ?_ ?_
 ·rintro i σ H' _ ⟨x3,x4,g',kvs,rfl,kp,_⟩;exact SqL.of (kp.obj sdd hL (fun _ z=>nomatch z))
 ·rintro i x σ H' hx ⟨x3,x4,g',kvs,rfl,kp,s',sub,hd',hl,I1,I2⟩
  obtain⟨p,hp,rfl⟩:=iV hx
  obtain⟨k,hk,hpk,ok⟩:=Iz pk hp
  have hi:i<ks.length:=(KC.mp hk).1
  refine⟨.inr (.inr (.inl ⟨rfl,.inl ⟨_,hd'⟩⟩)),f,rfl,s'.clo,tc1 rfl (fb s' (by omega) (kp.obj sdd hpk (fun _ z=>nomatch z)) ok fun v H3 g3 k3 s3 sub3 gv _=>tc1 rfl ?_)⟩
  have hp3:H3 p=some (.tup (k.map kV)):=k3.obj s'.bb (kp.obj sdd hpk (fun _ z=>nomatch z)) (fun _ z=>nomatch z)
  have hd3:=k3.obj s'.bb hd' (fun _ z=>nomatch z)
  have J1:∀j a,j<i→ks[j]? =some a→∃v p,g3 a=some v∧bh kvs v=some (.ref p)∧H3 p=some (.tup (a.map kV)):=fun j a hj e=>by
   obtain⟨v,p,e1,e2,e3⟩:=I1 j a hj e
   exact⟨v,p,sub3 _ _ e1,e2,k3.obj s'.bb e3 (fun _ z=>nomatch z)⟩
  have J2:∀v x,bh kvs v=some x→∃j a p,j<i∧ks[j]? =some a∧x=.ref p∧H3 p=some (.tup (a.map kV))∧okT a=true∧g3 a=some v:=fun v x e=>by
   obtain⟨j,a,p,e1,e2,e3,e4,e5,e6⟩:=I2 v x e
   exact⟨j,a,p,e1,e2,e3,k3.obj s'.bb e4 (fun _ z=>nomatch z),e5,sub3 _ _ e6⟩
  have kp3:=kp.trans k3
  have sub':Sub g g3:=fun a b e=>sub3 a b (sub a b e)
  have gd:=cB.k (k:=v) hd3
  cases ev:bh kvs v with
  |some x=>
   rw[ev]at gd
   obtain⟨j0,a0,p0,hj0,ha0,rfl,hp0,ok0,g0⟩:=J2 v x ev
   refine⟨d,kV v,.ref p,.ref p0,H3,rfl,rfl,.inl ⟨gd,rfl⟩,?_⟩
   refine⟨_,_,fO hp0,fO hp3,cS (gQ ok0),cS (gQ ok),CH _,Sel.mk (fun t=>?_) (fun t=>?_)⟩
   ·have ne:=vg t
    refine⟨aF (n:=2) (by decide),fun r hr=>?_⟩
    have S:=au.upd (o:=.tup [V.ref p0,V.ref p]) hr
    refine q _ _ g3 (some (a0,k)) (kp3.trans (ba.same S)) (s3.same (by omega) S) sub' ⟨r,p0,p,rfl,ai,S _ _ hp0,S _ _ hp3,ok0,ok⟩ (fun h hh=>?_)
    obtain⟨j1,hj1,hb1,hmin⟩:=xp j0 ha0
    refine⟨j1,i,by omega,hb1,hk,ne,by rw[hh _ _ g0,hh _ _ gv],noc i H3 g3 kvs J1 h hh,fun j' a hj' ha he=>?_⟩
    obtain⟨v1,p1,e1,e2,e3⟩:=J1 j' a (by omega) ha
    have:v1=v:=by rw[hh _ _ e1,hh _ _ gv]at he;exact he
    subst this
    rw[ev]at e2;cases e2
    rw[hp0]at e3
    injection e3 with e;injection e with e
    have:=iW e
    subst this
    exact(hmin j' hj' ha).elim
   ·have e:=Du t
    subst e
    refine⟨_,_,g3,kvs,rfl,kp3,s3,sub',hd3,by omega,fun j a hj ha=>?_,fun w x e=>?_⟩
    ·by_cases e:j=i
     ·subst e;rw[hk]at ha;cases ha
      exact⟨v,p0,gv,ev,hp0⟩
     ·exact J1 j a (by omega) ha
    ·obtain⟨j,a,r,e1,e2⟩:=J2 w x e
     exact⟨j,a,r,by omega,e2⟩
  |none=>
   rw[ev]at gd
   refine⟨d,kV v,.ref p,.ref p,upd H3 d (.dK (bx kvs v (.ref p))),rfl,rfl,.inr ⟨gd,jj.k hd3 (Mh hl (aF (n:=i+1) (by omega))),rfl⟩,?_⟩
   have dn:∀b o,H3 b=some o→(∀kvs,o≠.dK kvs)→upd H3 d (.dK (bx kvs v (.ref p))) b=some o:=fun b o e nd=>by rw[ao (fun z=>by subst z;rw[hd3]at e;cases e;exact nd _ rfl)];exact e
   have hp4:=dn _ _ hp3 (fun _ z=>nomatch z)
   refine⟨_,_,fO hp4,fO hp4,cS (gQ ok),cS (gQ ok),CH _,Sel.mk (fun t=>(vg t rfl).elim) (fun t=>?_)⟩
   refine⟨_,_,g3,bx kvs v (.ref p),rfl,?_,s3.keep (KA _) (fun b o e nd _=>dn b o e nd),sub',ai,KR (eK _ _ _) (by omega),fun j a hj ha=>?_,fun w x e=>?_⟩
   ·intro b o nb e
    rw[ao (av e hd)]
    exact kp3 _ _ nb e
   ·by_cases e:j=i
    ·subst e;rw[hk]at ha;cases ha
     exact⟨v,p,gv,by rw[fV,if_pos rfl],hp4⟩
    ·obtain⟨w,r,e1,e2,e3⟩:=J1 j a (by omega) ha
     exact⟨w,r,e1,by rw[fV,if_neg (fun z=>by subst z;rw[ev]at e2;cases e2)];exact e2,dn _ _ e3 (fun _ z=>nomatch z)⟩
   ·rw[fV]at e
    by_cases ew:w=v
    ·subst ew
     rw[if_pos rfl]at e;cases e
     exact⟨i,k,p,by omega,hk,rfl,hp4,ok,gv⟩
    ·rw[if_neg ew]at e
     obtain⟨j,a,r,e1,e2,e3,e4,e5⟩:=J2 w x e
     exact⟨j,a,r,by omega,e2,e3,dn _ _ e4 (fun _ z=>nomatch z),e5⟩
 ·rintro σ H' ⟨x3,x4,g',kvs,rfl,kp,s',sub,hd',hl,I1,I2⟩
  have el:(ps.map V.ref).length=ks.length:=by rw[Kz,pl]
  rw[el]at s' I1
  refine q _ _ g' none kp s' sub rfl fun h hh=>?_
  exact fun j k a b h1 h2 h3 h4=>noc ks.length H' g' kvs I1 h hh j k a b h1 (KC.mp h3).1 h2 h3 h4
theorem ve {H:Hp}{Q:VK}{a b:Addr}{k l:List Key}(ha:H a=some (.tup (k.map kV)))(hb:H b=some (.tup (l.map kV)))(q:Q (.bl (decide (k=l))) H):cD K (.ref a) (.ref b) H Q:=by
 refine .inl ⟨a,b,_,_,rfl,rfl,SqT.of ha,SqT.of hb,oI _,oI _,?_⟩
 by_cases e:k=l
 ·subst e;rw[decide_eq_true rfl]at q⊢;exact q
 ·rw[decide_eq_false e]at q;rw[decide_eq_false fun z=>e (iW z)];exact q
theorem rN {K:tx}{H:Hp}{ps:List Addr}{tt:List (List Key)}(h:PK H ps tt):DatVs K H (ps.map V.ref) (tt.map fun t=>NJ (t.map bJ)):=by
 induction h with
 |nil=>exact .nil
 |cons r _ ih=>exact .cons (fO r.1) ih
theorem vP {H:Hp}{ps:List Addr}{tt:List (List Key)}(h:PK H ps tt):Nc (tt.map fun t=>NJ (t.map bJ))=true∧Mg (tt.map fun t=>NJ (t.map bJ))≤1:=by
 induction h with
 |nil=>exact⟨rfl,Ly _⟩
 | @cons p t l1 l2 r _ ih=>
   refine⟨?_,?_⟩
   ·show(Nc (t.map bJ)&&Nc _)=true
    rw[cS (gQ r.2),ih.1];rfl
   ·show max (Mg (t.map bJ)+1) (Mg _)≤1
    rw[fw];have:=ih.2;omega
theorem wa {tt:List (List Key)}{t:List Key}(h:t∈tt):((tt.map fun t=>NJ (t.map bJ)).any fun e=>e.eqv (NJ (t.map bJ)))=true:=by
 rw[List.any_eq_true]
 refine⟨_,MM.mpr ⟨t,h,rfl⟩,?_⟩
 show Rk (t.map bJ) (t.map bJ)=true
 rw[fW];exact decide_eq_true rfl
theorem Bw (K:tx)(A:Adr):Ln (pO K A) 3:=by rintro vs H Q E ⟨f,b,L,d,ps,ks,r,v,g,n,rfl,_⟩;rfl
theorem FL (T:Txt K mg A):Rd (pO K A) (Kx K A) ["_law_stamper_here","_law_terms","_law_found"]:=by
 intro vs H Q E h
 obtain⟨f,b,L,d,ps,ks,r,v,g,n,rfl,s,hL,pk,hk9,hn,⟨p,a1,a2,rfl,hp,h1,h2,ok1,ok2⟩,m1,m2,ne,eqh,q⟩:=h
 have ty:tyN H (.ref p)=some "tuple":=by unfold tyN;dsimp only;rw[hp]
 obtain⟨cl,dl⟩:=vP pk
 have no:∀(a:Addr)(k:List Key)(R:VK),H a=some (.tup (k.map kV))→okT k=true→k∈ks→R (.bl false) H→fM K (.ref a) (.ref L) H R:=fun a k R ha ok hm hR=>
  .inr ⟨_,_,fO ha,.inl (.lst (SqL.of hL) (rN pk)),cl,cS (gQ ok),by show Mg (k.map bJ)+1≤140;rw[fw];decide,by rw[wa hm];exact hR⟩
 refine⟨by decide,"tuple",ty,Sel.no rfl (.inl (.inr (.inl ⟨_,SqT.of hp,Sel.no rfl ?_⟩)))⟩
 refine ixT (j:=0) hp rfl rfl (ixT (j:=1) hp rfl rfl (ve h1 h2 (Sel.no (decide_eq_false ne) ?_)))
 refine ixT (j:=0) hp rfl rfl (no _ _ _ h1 ok1 m1 (Sel.no rfl (ixT (j:=1) hp rfl rfl (no _ _ _ h2 ok2 m2 (Sel.no rfl ?_)))))
 refine⟨f,rfl,s.clo,ixT (j:=0) hp rfl rfl ?_⟩
 dsimp only[am]
 refine fb s (by omega) h1 ok1 fun v1 H1 g1 kb1 s1 sub1 gv1 st1=>?_
 have hp1:=kb1.obj s.bb hp (fun _ z=>nomatch z)
 refine⟨f,rfl,s1.clo,ixT (j:=1) hp1 rfl rfl ?_⟩
 dsimp only[am]
 refine fb s1 (by omega) (kb1.obj s.bb h2 (fun _ z=>nomatch z)) ok2 fun v2 H2 g2 kb2 s2 sub2 gv2 st2=>?_
 have e:v1=v2:=by
  have x:=Ext.refl' g2
  rw[←x _ _ (sub2 _ _ gv1),←x _ _ gv2]
  exact eqh _ (Ext.of (sub1.trans sub2) x)
 subst e
 refine qU ?_
 rw[decide_eq_true rfl];exact q _
def dig (m:Nat):List Nat:=(Nat.toDigits 10 m).map Char.toNat
theorem qp {n:Int}(h0:0≤n):(((toString n:String):Str)).cps.toList=dig n.toNat:=by
 obtain⟨m,rfl⟩:=Mp h0
 exact Ts m
theorem sP (m:Nat):∀d∈dig m,48≤d∧d≤57:=fun d hd=>by
 obtain⟨ch,hch,e⟩:=MM.mp hd
 rw[←e]
 exact digit_range (Rf (by decide) (by decide) hch)
theorem sI (m:Nat):UK (dig m)=m:=W.KIN.val_back m
theorem Bb {m n:Nat}(h:dig m=dig n):m=n:=by rw[←sI m,h,sI n]
theorem AV (z:Str):z.length=z.cps.toList.length:=by rw[Mx];rfl
theorem Au {x y:Str}(h:x.cps.toList=y.cps.toList):x=y:=by
 cases x;cases y
 simp only[Str.mk.injEq]at h⊢
 exact Array.toList_inj.mp h
theorem fE (a b:Str):(a++b).cps.toList=a.cps.toList++b.cps.toList:=by
 rw[show(a++b).cps=a.cps++b.cps from rfl,Array.toList_append]
theorem vd {a b:List Nat}{c d:Nat}{t u:List Nat}(ha:∀x∈a,48≤x∧x≤57)(hb:∀x∈b,48≤x∧x≤57)(hc:c=58∨c=59)(hd:d=58∨d=59)(h:a++c::t=b++d::u):a=b∧c=d∧t=u:=by
 induction a generalizing b with
 |nil=>
  cases b with
  |nil=>exact⟨rfl,(Mu h).1,(Mu h).2⟩
  |cons y r=>
   have e:=(Mu h).1
   have:=hb y Lv
   omega
 |cons x r ih=>
  cases b with
  |nil=>
   have e:=(Mu h).1
   have:=ha x Lv
   omega
  |cons y r'=>
   obtain⟨e1,e2⟩:=Mu h
   obtain⟨i1,i2,i3⟩:=ih (fun z hz=>ha z (KQ _ hz)) (fun z hz=>hb z (KQ _ hz)) e2
   exact⟨by rw[e1,i1],i2,i3⟩
theorem jt (v:Key)(h:okP v=true):∃(m c:Nat)(w:List Nat),(cN v).cps.toList=dig m++c::w∧((c=59∧w=[]∧v=.inl (m:Int))∨(c=58∧m=w.length∧v=.inr ⟨w.toArray⟩)):=by
 cases v with
 |inl i=>
  have h0:0≤i:=(of_decide_eq_true h).1
  refine⟨i.toNat,59,[],?_,.inl ⟨rfl,rfl,by rw[Qd h0]⟩⟩
  show(((toString i:String):Str)++((";":String):Str)).cps.toList=_
  rw[fE,qp h0];rfl
 |inr z=>
  refine⟨z.length,58,z.cps.toList,?_,.inr ⟨rfl,AV z,rfl⟩⟩
  show(((toString (z.length:Int):String):Str)++((":":String):Str)++z).cps.toList=_
  rw[fE,fE,qp (by omega),MB,Mz];rfl
theorem wb {x y:Key}{t u:List Nat}(hx:okP x=true)(hy:okP y=true)(h:(cN x).cps.toList++t=(cN y).cps.toList++u):x=y∧t=u:=by
 obtain⟨m,c,w,e,hv⟩:=jt x hx
 obtain⟨m',c',w',e',hv'⟩:=jt y hy
 rw[e,e',Mz,Mz]at h
 obtain⟨h1,h2,h3⟩:=vd (sP m) (sP m') (by rcases hv with⟨q,_⟩|⟨q,_⟩;exact .inr q;exact .inl q) (by rcases hv' with⟨q,_⟩|⟨q,_⟩;exact .inr q;exact .inl q) h
 have hm:=Bb h1
 subst hm h2
 rcases hv with⟨q1,q2,q3⟩|⟨q1,q2,q3⟩<;>rcases hv' with⟨r1,r2,r3⟩|⟨r1,r2,r3⟩
 ·subst q2 r2
  exact⟨q3.trans r3.symm,by simpa using h3⟩
 ·omega
 ·omega
 ·have hl:w.length=w'.length:=by omega
  obtain⟨a1,a2⟩:=List.append_inj h3 hl
  subst a1
  exact⟨q3.trans r3.symm,a2⟩
theorem nX {x:Key}(h:okP x=true):(cN x).cps.toList≠[]:=by
 obtain⟨m,c,w,e,_⟩:=jt x h
 rw[e];simp
theorem iA:∀{xs ys:List Key},xs.all okP=true→ys.all okP=true→bR xs=bR ys→xs=ys
 |[],[],_,_,_=>rfl
 |[],y::r,_,hy,h=>by
  rw[Nk,Lq]at hy
  have e:=congrArg (fun s:Str=>s.cps.toList) h
  have e2:(bR (y::r)).cps.toList=(cN y).cps.toList++(bR r).cps.toList:=fE _ _
  have e:([]:List Nat)=(bR (y::r)).cps.toList:=e
  rw[e2]at e
  exact absurd (RU.mp e.symm).1 (nX hy.1)
 |x::r,[],hx,_,h=>by
  rw[Nk,Lq]at hx
  have e:=congrArg (fun s:Str=>s.cps.toList) h
  have e2:(bR (x::r)).cps.toList=(cN x).cps.toList++(bR r).cps.toList:=fE _ _
  have e:(bR (x::r)).cps.toList=([]:List Nat):=e
  rw[e2]at e
  exact absurd (RU.mp e).1 (nX hx.1)
 |x::r,y::r',hx,hy,h=>by
  rw[Nk,Lq]at hx hy
  have e:(cN x).cps.toList++(bR r).cps.toList=(cN y).cps.toList++(bR r').cps.toList:=by
   rw[←fE,←fE];exact congrArg (fun s:Str=>s.cps.toList) h
  obtain⟨h1,h2⟩:=wb hx.1 hy.1 e
  rw[h1,iA hx.2 hy.2 (Au h2)]
theorem Stp.inj {H:Hp}{f b:Addr}{d:Kd}{g:List Key→Option Key}{n:Nat}(s:Stp A H f b d g n)(hd:d.sure){k k':List Key}{v:Key}(ok:okT k=true)(ok':okT k'=true)(h:g k=some v)(h':g k'=some v):k=k':=by
 cases s with
 |wri hc hb hg ed=>
  subst hg
  have e:(NA (bR k):Key)=NA (bR k'):=(KL h).trans (KL h').symm
  exact iA (dy ok) (dy ok') (Qp e)
 |cnt q x kvs hc num hl hs st hg ed=>subst hg;exact st.inj (by decide) h h'
 |wea q m h1 h2 hc hb hg ed=>subst ed;exact hd.elim
 |pla q0 q1 q2 D j j0 j1 kvs al hc hb ha bD hl hs st hg ed=>
  subst ed
  have hd:al=none:=hd
  subst hd hg
  exact st.inj j0 h h'
theorem Av {h:List Key→Key}{c:Int}{e e':Key}{ts:List Int}{ks ks':List Key}{t1 t2:List (List Key)}(l1:ks.length=ts.length)(l2:ks'.length=ts.length)
  (e1:t1=dD h c e (stR ts ks) (ts.length+2))(e2:t2=dD h c e' (stR ts ks') (ts.length+2))(hd:fZ h (t1++t2) none)
  (hl:h (bZ h c e (stR ts ks) (ts.length+1))=h (bZ h c e' (stR ts ks') (ts.length+1))):e=e'∧ks=ks':=by
 refine vz l1 l2 (fun a b ha hb hab=>?_) hl
 rw[←e1]at ha
 rw[←e2]at hb
 obtain⟨i,hi⟩:=ME.mp ha
 obtain⟨j,hj⟩:=ME.mp hb
 have il:=(KC.mp hi).1
 refine hd i (t1.length+j) a b (by omega) ?_ ?_ hab
 ·rw[LN il];exact hi
 ·rw[LU (by omega),Nat.add_sub_cancel_left];exact hj
theorem wm {H:Hp}:∀{ps rs:List Addr}{tt ss:List (List Key)},PK H ps tt→PK H rs ss→PK H (ps++rs) (tt++ss)
 |_,_,_,_,.nil,h=>h
 |_,_,_,_,.cons r t,h=>.cons r (wm t h)
theorem zA {H:Hp}{ps:List Addr}{tt:List (List Key)}(h:PK H ps tt):∀k∈tt,okT k=true:=by
 induction h with
 |nil=>intro k hk;cases hk
 |cons r _ ih=>
  intro k hk
  rcases KY.mp hk with rfl|hk
  ·exact r.2
  ·exact ih k hk
theorem mP {H:Hp}{f b W P T:Addr}{kd:Kd}{c:Nat}{ts:List Int}{ks:List Key}{e:Key}{g:gOp}{n j:Nat}{Q:VK}{E:XK}(pp:gj A H f b P T kd c ts ks e g n)(hW:H W=some (.lst (ts.map V.int)))(hj:j≤ts.length+1)
  (q:∀(p:Addr)(k:List Key)(g':gOp)(H':Hp),ba b H H'→Stp A H' f b kd g' (n+70)→Sub g g'→H' p=some (.tup (k.map kV))→okT k=true→p≠b→Q (.ref p) H'):jl K A [.ref f,.int (c:Int),.ref W,.ref P,.int (j:Int)] H (fun v H1=>aD K v (.int (-1)) H1 Q) E:=by
 refine⟨f,b,W,P,T,kd,c,ts,ks,e,g,n,j,rfl,pp,hW,hj,fun M ps tt g1 H1 k1 s1 sub1 hMn nM hM pk npb tl sz eq=>?_⟩
 obtain⟨r,t,rfl⟩:=kH.last tl
 obtain⟨qs,p1,rfl,pk1⟩:=lF pk
 obtain⟨hp,ok⟩:=iY (fG pk1) pk1
 rw[Lc]at hM
 exact gR hM (q p1 t g1 H1 k1 s1 sub1 hp ok (npb p1 (by simp)))
theorem Eo (K:tx)(A:Adr):Ln (pM K A) 6:=by rintro vs H Q E ⟨a,f,b,hd,W,LP,P,T,X,b0,D0,ns,kd,c,p,ks,e,mk,way,g,n,rfl,_⟩;rfl
theorem Hk (T:Txt K mg A):Rd (pM K A) (Jx K A) ["_law_script","_law_stamper_here","_law_head","_law_turns","_law_papers","_law_plan","_law_way_here","_law_known","_law_alias","_law_cell","_law_other","_law_height","_law_old","_law_new"]:=by
 intro vs H Q E h
 obtain⟨a,f,b,hd,W,LP,P,TT,X,b0,D0,ns,kd,c,p,ks,e,mk,way,g,n,rfl,sq,pp,hhd,hW,hLP,hX,hway,hn,q⟩:=h
 refine⟨X,_,rfl,SqT.of hX,rfl,_,_,rfl,_,_,rfl,_,_,rfl,rfl,?_⟩
 have tl:=pp.tl
 have kl:=pp.kl
 refine⟨a,ns,6,rfl,sq,by decide,fun z=>⟨by decide,⟨by decide,by decide⟩,ixL (j:=0) hLP rfl rfl ⟨z%7,z/7,P,TT,e,ks,rfl,pp.w,pp.ee,pp.ke,by omega,fun P' T' e' ks' H1 S1 w' ee' ke' kl'=>?_⟩⟩⟩
 refine⟨a,ns,7,rfl,S1.seq sq,by decide,fun zh=>.inl (.inl ⟨_,SqL.of (S1 _ _ hW),?_⟩)⟩
 rw[Kz]
 refine⟨by omega,?_⟩
 have r0:=NE zh (b:=((aS c p).length:Int)+2) (by omega)
 have r1:=MX zh (b:=((aS c p).length:Int)+2) (by omega)
 obtain⟨j,hj⟩:=Mp r0
 show wu K A {nx:=fun _ H'=>Q .non H',rt:=Q} [some (.ref a),some (.ref f),some (.ref hd),some (.ref W),some (.ref LP),some (.ref X),some (.int way),some (.ref b0),some (.ref D0),some (.int z),some (.ref P'),some (.int (zh%(((aS c p).length:Int)+2))),none,none] H1
 rw[hj]at r1⊢
 have s1:=pp.s.same (KA _) S1
 refine Sel.dec (fun hw=>?_) (fun hw=>?_)
 ·obtain⟨rfl,rfl⟩:=hway hw
  have pp1:=pp.same S1
  refine ixT (j:=0) (S1 _ _ hhd) rfl rfl (ixL (j:=0) (S1 _ _ hLP) rfl rfl (mP (E:=E0) (j:=j) pp1 (S1 _ _ hW) (by omega) fun o1 k1 g2 H2 kb2 s2 sub2 ho1 ok1 nb1=>?_))
  have pp2:gj A H2 f b P' T' (.pla D0 none) c (aS c p) ks' e' g2 (n+70):=⟨s2,by omega,pp.c1,pp.c2,pp.tl,pp.t01,by rw[kl',kl],ee',ke',w'.kb s1 kb2⟩
  have ob:∀{z:Addr}{xs:List V},H1 z=some (.tup xs)→H2 z=some (.tup xs):=fun hz=>kb2 _ _ (s1.nb hz (fun _ z=>nomatch z) (fun _ z=>nomatch z)) hz
  have ol:∀{z:Addr}{xs:List V},H1 z=some (.lst xs)→H2 z=some (.lst xs):=fun hz=>kb2 _ _ (s1.nb hz (fun _ z=>nomatch z) (fun _ z=>nomatch z)) hz
  refine ixT (j:=0) (ob (S1 _ _ hhd)) rfl rfl (mP (E:=E0) (j:=j) pp2 (ol (S1 _ _ hW)) (by omega) fun o2 k2 g3 H3 kb3 s3 sub3 ho2 ok2 nb2=>?_)
  have ho1':=kb3 _ _ nb1 ho1
  refine⟨f,b,D0,o2,o1,k2,k1,g3,_,rfl,s3,by omega,ho2,ho1',ok2,ok1,fun al g4 H4 kD s4 sub4=>?_⟩
  obtain⟨kk,hD⟩:∃kk,H3 D0=some (.dT kk):=by
   cases s3 with
   |wri _ _ _ ed=>cases ed
   |cnt _ _ _ _ _ _ _ _ _ ed=>cases ed
   |wea _ _ _ _ _ _ _ ed=>cases ed
   |pla q0 q1 q2 A1 j j0 j1 kvs al' hc hb ha bD hl hs st hg ed=>cases ed;exact ha.dict
  have w3:=(w'.kb s1 kb2).kb s2 kb3
  refine q P' T' e' ks' (.pla D0 al) g4 H4 (fun z o z1 z2 ez=>kD z o z2 (kb3 z o z1 (kb2 z o z1 (S1 _ _ ez)))) (s4.same (by omega) (.refl _)) (sub2.trans (sub3.trans sub4)) (fun h=>absurd hw h) ⟨kD _ _ (aW w3.hP hD (fun z=>nomatch z)) w3.hP,kD _ _ (aW w3.hT hD (fun z=>nomatch z)) w3.hT⟩ ee' ke' kl'
 ·exact q P' T' e' ks' kd g H1 (fun z o _ _ ez=>S1 _ _ ez) (s1.same (by omega) (.refl _)) Sub.rfl' (fun _=>rfl) w' ee' ke' kl'
theorem mC {H:Hp}{L:List Dat}{xs ys:List V}(h1:∀v∈xs,∃d,aH H v d∧d∈L)(h2:∀v∈ys,∃d,aH H v d∧d∈L):∀v∈xs++ys,∃d,aH H v d∧d∈L:=fun v hv=>(LY.mp hv).elim (h1 v) (h2 v)
theorem kN {H H':Hp}{L:List Dat}{xs:List V}(h:∀v∈xs,∃d,aH H v d∧d∈L)(S:au H H'):∀v∈xs,∃d,aH H' v d∧d∈L:=fun v hv=>let ⟨d,w,m⟩:=h v hv;⟨d,w.mono S,m⟩
theorem cT {H:Hp}{L:List Dat}{x:V}{xs:List V}{d:Dat}(w:aH H x d)(m:d∈L)(h:∀v∈xs,∃d,aH H v d∧d∈L):∀v∈x::xs,∃d,aH H v d∧d∈L:=fun v hv=>(KY.mp hv).elim (fun e=>by subst e;exact⟨d,w,m⟩) (h v)
theorem kA {H:Hp}{L:List Dat}:∀v∈([]:List V),∃d,aH H v d∧d∈L:=fun _ h=>nomatch h
theorem El (K:tx)(A:Adr):Ln (pd K A) 2:=by rintro vs H Q E ⟨z,X,a0,a1,P0,T0,P1,T1,c0,c1,p,m0,m1,e0,e1,ks0,ks1,rfl,_⟩;rfl
theorem Hr (T:Txt K mg A):Rd (pd K A) (Jq K A) ["_law_cell","_law_thing","_law_one","_law_other","_law_place","_law_paper","_law_second","_law_some"]:=by
 intro vs H Q E h
 obtain⟨z,X,a0,a1,P0,T0,P1,T1,c0,c1,p,m0,m1,en0,en1,ks0,ks1,rfl,hX,ha0,ha1,w0,w1,p1000,q⟩:=h
 have lz:∀m:Nat,m≤200→m≤sizeLine:=fun m hm=>Mq (aF (by omega))
 have k1:∀{HH:Hp}{p:Addr}{o:HO},HH p=none→au HH (upd HH p o):=fun h=>au.upd h
 refine⟨X,_,rfl,SqT.of hX,rfl,_,_,rfl,_,_,rfl,_,_,rfl,_,_,rfl,_,_,rfl,rfl,?_⟩
 have dh0:∀{HH:Hp},au H HH→aH HH (.ref a0) (.tup [.int (c0:Int),aY m0]):=fun S=>.tup (S _ _ ha0) (.cons (.int _) (.cons (dY m0) .nil))
 have dh1:∀{HH:Hp},au H HH→aH HH (.ref a1) (.tup [.int (c1:Int),aY m1]):=fun S=>.tup (S _ _ ha1) (.cons (.int _) (.cons (dY m1) .nil))
 have dk0:∀{HH:Hp},au H HH→aH HH (.ref P0) (.tup [aY en0,.tup (ks0.map aY)]):=fun S=>dW.of (w0.same S)
 have dk1:∀{HH:Hp},au H HH→aH HH (.ref P1) (.tup [aY en1,.tup (ks1.map aY)]):=fun S=>dW.of (w1.same S)
 refine⟨X,_,rfl,.inr (SqT.of hX),fun l1 h1=>?_⟩
 have S1:=k1 (o:=.lst [V.ref a0,.ref a1,.int (p:Int),.ref P0,.ref P1]) h1
 have f1:upd H l1 (.lst [V.ref a0,.ref a1,.int (p:Int),.ref P0,.ref P1]) l1=some (.lst [V.ref a0,.ref a1,.int (p:Int),.ref P0,.ref P1]):=ai
 generalize upd H l1 (.lst [V.ref a0,.ref a1,.int (p:Int),.ref P0,.ref P1])=H1 at*
 refine⟨4,rfl,.inl (.inr ⟨X,_,rfl,S1 _ _ hX,fun p2 H2 s2 f2=>?_⟩)⟩
 replace f2:H2 p2=some (.tup [V.ref a0,.ref a1,.int (p:Int),.ref P0]):=f2
 have S2:=S1.trans s2
 refine⟨lz 1 (by decide),fun p3 h3=>?_⟩
 have s3:=k1 (o:=.tup [V.int (p:Int)]) h3
 have f3:upd H2 p3 (.tup [V.int (p:Int)]) p3=some (.tup [V.int (p:Int)]):=ai
 generalize upd H2 p3 (.tup [V.int (p:Int)])=H3 at*
 have S3:=S2.trans s3
 refine .inr ⟨X,p3,_,_,rfl,rfl,S3 _ _ hX,f3,lz 6 (by decide),fun p4 H4 s4 f4=>?_⟩
 replace f4:H4 p4=some (.tup [V.ref a0,.ref a1,.int (p:Int),.ref P0,.ref P1,.int (p:Int)]):=f4
 have S4:=S3.trans s4
 refine⟨a0,_,rfl,.inr (SqT.of (S4 _ _ ha0)),fun l5 h5=>?_⟩
 have s5:=k1 (o:=.lst [V.int (c0:Int),kV m0]) h5
 have f5:upd H4 l5 (.lst [V.int (c0:Int),kV m0]) l5=some (.lst [V.int (c0:Int),kV m0]):=ai
 generalize upd H4 l5 (.lst [V.int (c0:Int),kV m0])=H5 at*
 have S5:=S4.trans s5
 refine⟨lz 5 (by decide),fun p6 h6=>?_⟩
 have s6:=k1 (o:=.tup [V.ref l5,.ref a1,.int (p:Int),.ref P0,.ref P1]) h6
 have f6:upd H5 p6 (.tup [V.ref l5,.ref a1,.int (p:Int),.ref P0,.ref P1]) p6=some (.tup [V.ref l5,.ref a1,.int (p:Int),.ref P0,.ref P1]):=ai
 generalize upd H5 p6 (.tup [V.ref l5,.ref a1,.int (p:Int),.ref P0,.ref P1])=H6 at*
 have S6:=S5.trans s6
 have A1:∀v∈[V.ref l1,.ref p2,.ref p4,.non,.ref p6],∃d,aH H6 v d∧d∈dm c0 c1 p m0 m1 en0 en1 ks0 ks1:=
  cT (.lst ((s2.trans (s3.trans (s4.trans (s5.trans s6)))) _ _ f1) (.cons (dh0 S6) (.cons (dh1 S6) (.cons (.int _) (.cons (dk0 S6) (.cons (dk1 S6) .nil)))))) (by simp[dm])
  (cT (.tup ((s3.trans (s4.trans (s5.trans s6))) _ _ f2) (.cons (dh0 S6) (.cons (dh1 S6) (.cons (.int _) (.cons (dk0 S6) .nil))))) (by simp[dm])
  (cT (.tup ((s5.trans s6) _ _ f4) (.cons (dh0 S6) (.cons (dh1 S6) (.cons (.int _) (.cons (dk0 S6) (.cons (dk1 S6) (.cons (.int _) .nil))))))) (by simp[dm])
  (cT .non (by simp[dm])
  (cT (.tup f6 (.cons (.lst (s6 _ _ f5) (.cons (.int _) (.cons (dY m0) .nil))) (.cons (dh1 S6) (.cons (.int _) (.cons (dk0 S6) (.cons (dk1 S6) .nil)))))) (by simp[dm]) kA))))
 refine⟨lz 5 (by decide),fun L1 h7=>?_⟩
 have s7:=k1 (o:=.lst [V.ref l1,.ref p2,.ref p4,.non,.ref p6]) h7
 have f7:upd H6 L1 (.lst [V.ref l1,.ref p2,.ref p4,.non,.ref p6]) L1=some (.lst [V.ref l1,.ref p2,.ref p4,.non,.ref p6]):=ai
 generalize upd H6 L1 (.lst [V.ref l1,.ref p2,.ref p4,.non,.ref p6])=H7 at*
 have S7:=S6.trans s7
 have x1l:[V.ref l1,.ref p2,.ref p4,.non,.ref p6].length=5:=rfl
 generalize [V.ref l1,.ref p2,.ref p4,.non,.ref p6]=x1 at*
 refine⟨lz 5 (by decide),fun p8 h8=>?_⟩
 have s8:=k1 (o:=.tup [V.ref a0,.ref a1,.non,.ref P0,.ref P1]) h8
 have f8:upd H7 p8 (.tup [V.ref a0,.ref a1,.non,.ref P0,.ref P1]) p8=some (.tup [V.ref a0,.ref a1,.non,.ref P0,.ref P1]):=ai
 generalize upd H7 p8 (.tup [V.ref a0,.ref a1,.non,.ref P0,.ref P1])=H8 at*
 have S8:=S7.trans s8
 refine⟨lz 5 (by decide),fun p9 h9=>?_⟩
 have s9:=k1 (o:=.tup [V.ref a0,.ref a1,.int (p:Int),.ref P0,.non]) h9
 have f9:upd H8 p9 (.tup [V.ref a0,.ref a1,.int (p:Int),.ref P0,.non]) p9=some (.tup [V.ref a0,.ref a1,.int (p:Int),.ref P0,.non]):=ai
 generalize upd H8 p9 (.tup [V.ref a0,.ref a1,.int (p:Int),.ref P0,.non])=H9 at*
 have S9:=S8.trans s9
 refine⟨lz 2 (by decide),fun L2 h10=>?_⟩
 have s10:=k1 (o:=.lst [V.ref p8,.ref p9]) h10
 have f10:upd H9 L2 (.lst [V.ref p8,.ref p9]) L2=some (.lst [V.ref p8,.ref p9]):=ai
 generalize upd H9 L2 (.lst [V.ref p8,.ref p9])=H10 at*
 have S10:=S9.trans s10
 have L1at:=(s8.trans (s9.trans s10)) _ _ f7
 refine .inl ⟨L1,L2,_,_,rfl,rfl,L1at,f10,lz _ (by rw[x1l];show 5+2≤200;decide),fun L3 h11=>?_⟩
 have s11:=k1 (o:=.lst (x1++[V.ref p8,.ref p9])) h11
 have f11:upd H10 L3 (.lst (x1++[V.ref p8,.ref p9])) L3=some (.lst (x1++[V.ref p8,.ref p9])):=ai
 generalize upd H10 L3 (.lst (x1++[V.ref p8,.ref p9]))=H11 at*
 have S11:=S10.trans s11
 have x2l:(x1++[V.ref p8,.ref p9]).length=7:=by rw[KI,x1l];rfl
 have A2:∀v∈x1++[V.ref p8,.ref p9],∃d,aH H11 v d∧d∈dm c0 c1 p m0 m1 en0 en1 ks0 ks1:=mC (kN A1 (s7.trans (s8.trans (s9.trans (s10.trans s11)))))
  (cT (.tup ((s9.trans (s10.trans s11)) _ _ f8) (.cons (dh0 S11) (.cons (dh1 S11) (.cons .non (.cons (dk0 S11) (.cons (dk1 S11) .nil)))))) (by simp[dm])
  (cT (.tup ((s10.trans s11) _ _ f9) (.cons (dh0 S11) (.cons (dh1 S11) (.cons (.int _) (.cons (dk0 S11) (.cons .non .nil)))))) (by simp[dm]) kA))
 generalize x1++[V.ref p8,.ref p9]=x2 at*
 refine ixT (j:=0) (S11 _ _ ha0) rfl rfl ⟨⟨by decide,by decide,by decide⟩,?_⟩
 refine⟨lz 2 (by decide),fun p12 h12=>?_⟩
 have s12:=k1 (o:=.tup [V.int (c0:Int),.int (10^(59:Int).toNat+1)]) h12
 have f12:upd H11 p12 (.tup [V.int (c0:Int),.int (10^(59:Int).toNat+1)]) p12=some (.tup [V.int (c0:Int),.int (10^(59:Int).toNat+1)]):=ai
 generalize upd H11 p12 (.tup [V.int (c0:Int),.int (10^(59:Int).toNat+1)])=H12 at*
 have S12:=S11.trans s12
 refine⟨lz 5 (by decide),fun p13 h13=>?_⟩
 have s13:=k1 (o:=.tup [V.ref p12,.ref a1,.int (p:Int),.ref P0,.ref P1]) h13
 have f13:upd H12 p13 (.tup [V.ref p12,.ref a1,.int (p:Int),.ref P0,.ref P1]) p13=some (.tup [V.ref p12,.ref a1,.int (p:Int),.ref P0,.ref P1]):=ai
 generalize upd H12 p13 (.tup [V.ref p12,.ref a1,.int (p:Int),.ref P0,.ref P1])=H13 at*
 have S13:=S12.trans s13
 refine ixT (j:=1) (w1.same S13).hP rfl rfl ?_
 refine⟨lz 5 (by decide),fun p14 h14=>?_⟩
 have s14:=k1 (o:=.tup [V.ref a0,.ref a1,.int (p:Int),.ref T1,.ref P1]) h14
 have f14:upd H13 p14 (.tup [V.ref a0,.ref a1,.int (p:Int),.ref T1,.ref P1]) p14=some (.tup [V.ref a0,.ref a1,.int (p:Int),.ref T1,.ref P1]):=ai
 generalize upd H13 p14 (.tup [V.ref a0,.ref a1,.int (p:Int),.ref T1,.ref P1])=H14 at*
 have S14:=S13.trans s14
 refine⟨lz 2 (by decide),fun L4 h15=>?_⟩
 have s15:=k1 (o:=.lst [V.ref p13,.ref p14]) h15
 have f15:upd H14 L4 (.lst [V.ref p13,.ref p14]) L4=some (.lst [V.ref p13,.ref p14]):=ai
 generalize upd H14 L4 (.lst [V.ref p13,.ref p14])=H15 at*
 have S15:=S14.trans s15
 have L3at:=(s12.trans (s13.trans (s14.trans s15))) _ _ f11
 refine .inl ⟨L3,L4,_,_,rfl,rfl,L3at,f15,lz _ (by rw[x2l];show 7+2≤200;decide),fun L5 h16=>?_⟩
 have s16:=k1 (o:=.lst (x2++[V.ref p13,.ref p14])) h16
 have f16:upd H15 L5 (.lst (x2++[V.ref p13,.ref p14])) L5=some (.lst (x2++[V.ref p13,.ref p14])):=ai
 generalize upd H15 L5 (.lst (x2++[V.ref p13,.ref p14]))=H16 at*
 have S16:=S15.trans s16
 have x3l:(x2++[V.ref p13,.ref p14]).length=9:=by rw[KI,x2l];rfl
 have A3:∀v∈x2++[V.ref p13,.ref p14],∃d,aH H16 v d∧d∈dm c0 c1 p m0 m1 en0 en1 ks0 ks1:=mC (kN A2 (s12.trans (s13.trans (s14.trans (s15.trans s16)))))
  (cT (.tup ((s14.trans (s15.trans s16)) _ _ f13) (.cons (.tup ((s13.trans (s14.trans (s15.trans s16))) _ _ f12) (.cons (.int _) (.cons (.int _) .nil))) (.cons (dh1 S16) (.cons (.int _) (.cons (dk0 S16) (.cons (dk1 S16) .nil)))))) (by simp[dm])
  (cT (.tup ((s15.trans s16) _ _ f14) (.cons (dh0 S16) (.cons (dh1 S16) (.cons (.int _) (.cons (.tup (w1.same S16).hT (qW ks1)) (.cons (dk1 S16) .nil)))))) (by simp[dm]) kA))
 generalize x2++[V.ref p13,.ref p14]=x3 at*
 refine ixT (j:=0) (S16 _ _ ha1) rfl rfl (ixT (j:=1) (S16 _ _ ha1) rfl rfl ?_)
 refine⟨lz 2 (by decide),fun p17 h17=>?_⟩
 have s17:=k1 (o:=.tup [V.int ((c1:Int)+100),kV m1]) h17
 have f17:upd H16 p17 (.tup [V.int ((c1:Int)+100),kV m1]) p17=some (.tup [V.int ((c1:Int)+100),kV m1]):=ai
 generalize upd H16 p17 (.tup [V.int ((c1:Int)+100),kV m1])=H17 at*
 have S17:=S16.trans s17
 refine⟨lz 5 (by decide),fun p18 h18=>?_⟩
 have s18:=k1 (o:=.tup [V.ref a0,.ref p17,.int (p:Int),.ref P0,.ref P1]) h18
 have f18:upd H17 p18 (.tup [V.ref a0,.ref p17,.int (p:Int),.ref P0,.ref P1]) p18=some (.tup [V.ref a0,.ref p17,.int (p:Int),.ref P0,.ref P1]):=ai
 generalize upd H17 p18 (.tup [V.ref a0,.ref p17,.int (p:Int),.ref P0,.ref P1])=H18 at*
 have S18:=S17.trans s18
 refine⟨kg (by omega) (by omega),?_⟩
 refine⟨lz 5 (by decide),fun p19 h19=>?_⟩
 have s19:=k1 (o:=.tup [V.ref a0,.ref a1,.str (toString (p:Int)),.ref P0,.ref P1]) h19
 have f19:upd H18 p19 (.tup [V.ref a0,.ref a1,.str (toString (p:Int)),.ref P0,.ref P1]) p19=some (.tup [V.ref a0,.ref a1,.str (toString (p:Int)),.ref P0,.ref P1]):=ai
 generalize upd H18 p19 (.tup [V.ref a0,.ref a1,.str (toString (p:Int)),.ref P0,.ref P1])=H19 at*
 have S19:=S18.trans s19
 refine⟨lz 0 (by decide),fun p20 h20=>?_⟩
 have s20:=k1 (o:=.tup []) h20
 have f20:upd H19 p20 (.tup []) p20=some (.tup []):=ai
 generalize upd H19 p20 (.tup [])=H20 at*
 have S20:=S19.trans s20
 refine⟨lz 3 (by decide),fun L6 h21=>?_⟩
 have s21:=k1 (o:=.lst [V.ref p18,.ref p19,.ref p20]) h21
 have f21:upd H20 L6 (.lst [V.ref p18,.ref p19,.ref p20]) L6=some (.lst [V.ref p18,.ref p19,.ref p20]):=ai
 generalize upd H20 L6 (.lst [V.ref p18,.ref p19,.ref p20])=H21 at*
 have S21:=S20.trans s21
 have L5at:=(s17.trans (s18.trans (s19.trans (s20.trans s21)))) _ _ f16
 refine .inl ⟨L5,L6,_,_,rfl,rfl,L5at,f21,lz _ (by rw[x3l];show 9+3≤200;decide),fun L7 h22=>?_⟩
 have s22:=k1 (o:=.lst (x3++[V.ref p18,.ref p19,.ref p20])) h22
 have f22:upd H21 L7 (.lst (x3++[V.ref p18,.ref p19,.ref p20])) L7=some (.lst (x3++[V.ref p18,.ref p19,.ref p20])):=ai
 generalize upd H21 L7 (.lst (x3++[V.ref p18,.ref p19,.ref p20]))=H22 at*
 have S22:=S21.trans s22
 have x4l:(x3++[V.ref p18,.ref p19,.ref p20]).length=12:=by rw[KI,x3l];rfl
 have A4:∀v∈x3++[V.ref p18,.ref p19,.ref p20],∃d,aH H22 v d∧d∈dm c0 c1 p m0 m1 en0 en1 ks0 ks1:=mC (kN A3 (s17.trans (s18.trans (s19.trans (s20.trans (s21.trans s22))))))
  (cT (.tup ((s19.trans (s20.trans (s21.trans s22))) _ _ f18) (.cons (dh0 S22) (.cons (.tup ((s18.trans (s19.trans (s20.trans (s21.trans s22)))) _ _ f17) (.cons (.int _) (.cons (dY m1) .nil))) (.cons (.int _) (.cons (dk0 S22) (.cons (dk1 S22) .nil)))))) (by simp[dm])
  (cT (.tup ((s20.trans (s21.trans s22)) _ _ f19) (.cons (dh0 S22) (.cons (dh1 S22) (.cons (.str _) (.cons (dk0 S22) (.cons (dk1 S22) .nil)))))) (by simp[dm])
  (cT (.tup ((s21.trans s22) _ _ f20) .nil) (by simp[dm]) kA)))
 generalize x3++[V.ref p18,.ref p19,.ref p20]=x4 at*
 refine⟨lz 5 (by decide),fun p23 h23=>?_⟩
 have s23:=k1 (o:=.tup [V.ref a0,.ref a1,.bl true,.ref P0,.ref P1]) h23
 have f23:upd H22 p23 (.tup [V.ref a0,.ref a1,.bl true,.ref P0,.ref P1]) p23=some (.tup [V.ref a0,.ref a1,.bl true,.ref P0,.ref P1]):=ai
 generalize upd H22 p23 (.tup [V.ref a0,.ref a1,.bl true,.ref P0,.ref P1])=H23 at*
 have S23:=S22.trans s23
 refine⟨lz 1 (by decide),fun L8 h24=>?_⟩
 have s24:=k1 (o:=.lst [V.ref p23]) h24
 have f24:upd H23 L8 (.lst [V.ref p23]) L8=some (.lst [V.ref p23]):=ai
 generalize upd H23 L8 (.lst [V.ref p23])=H24 at*
 have S24:=S23.trans s24
 have L7at:=(s23.trans s24) _ _ f22
 refine .inl ⟨L7,L8,_,_,rfl,rfl,L7at,f24,lz _ (by rw[x4l];show 12+1≤200;decide),fun L9 h25=>?_⟩
 have s25:=k1 (o:=.lst (x4++[V.ref p23])) h25
 have f25:upd H24 L9 (.lst (x4++[V.ref p23])) L9=some (.lst (x4++[V.ref p23])):=ai
 generalize upd H24 L9 (.lst (x4++[V.ref p23]))=H25 at*
 have S25:=S24.trans s25
 have x5l:(x4++[V.ref p23]).length=13:=by rw[KI,x4l];rfl
 have A5:∀v∈x4++[V.ref p23],∃d,aH H25 v d∧d∈dm c0 c1 p m0 m1 en0 en1 ks0 ks1:=mC (kN A4 (s23.trans (s24.trans s25)))
  (cT (.tup ((s24.trans s25) _ _ f23) (.cons (dh0 S25) (.cons (dh1 S25) (.cons (.bl _) (.cons (dk0 S25) (.cons (dk1 S25) .nil)))))) (by simp[dm]) kA)
 refine⟨by decide,.inl (Jh f25 (by omega) (by rw[x5l];show z%13<((13:Nat):Int);omega) fun v hv=>?_)⟩
 obtain⟨d,w,m⟩:=A5 v hv
 exact q v d H25 S25 w m
theorem kc:∀(e k p m:Nat),m≤2^k→(cj e p m).length≤k
 |0,k,p,m,_=>Ly _
 |e+1,k,p,m,h=>by
  by_cases m1:m≤1
  ·rw[hU m1];exact Ly _
  ·rw[gi m1]
   cases k with
   |zero=>simp at h;omega
   |succ k=>
    have b3:=hV (by omega:2≤m) h
    have b2:=ij (by omega:2≤m)
    split
    ·exact TU (kc e k _ _ b3)
    ·exact TU (kc e k _ _ (by omega))
theorem ig {c p:Nat}(h:c≤29):(aS c p).length≤6:=KR (kc 60 5 p c (KR h (by decide))) (by decide)
abbrev hdD (c:Nat)(m:Key):Dat:=.tup [.int (c:Int),aY m]
abbrev ppD (e:Key)(ks:List Key):Dat:=.tup [aY e,.tup (ks.map aY)]
theorem Ag {g:gOp}{es ms:List Key}{c p:Nat}{e mk:Key}{ks:List Key}(sl:dG g es ms)(l29:es.length≤29)(hm:ms[c- 1]?=some mk)(c1:1≤c)(hc:c≤es.length)(lt:p<c)(hl:ks.length=(aS c p).length)(hk:∀k∈ks,mkK k)(ee:enK e)
  (lad:∀h,Ext g h→bZ h c e (stR (aS c p) ks) (ks.length+1)=jT h (es.take c)):cr g c mk (.int (p:Int)) (ppD e ks) (some e):=by
 have:=cr.good (g:=g) (c:=c) (mk:=mk) p mk e ks rfl lt (ig (by omega)) ⟨rfl,hl,hk,ee⟩ fun h eh=>by
  rw[eD hl,←hl,lad h eh]
  have:=sl.eq (c- 1) mk hm h eh
  rw[show c- 1+1=c by omega]at this;exact this
 rw[if_pos rfl]at this;exact this
theorem qu {a:Option Key}:neO a none=false:=by cases a<;>rfl
theorem su {ms:List Key}{c:Nat}{m:Key}(h:bG ms (hdD c m)=true):∃j:Nat,ms[j]?=some m∧c=j+1:=by
 rw[je]at h
 obtain⟨j,h1,h2⟩:=iX.mp (KD.mp h).2
 exact⟨j,h1,by omega⟩
theorem jf {ms:List Key}{h0 h1 a b c:Dat}(h:bG ms h0=false∨bG ms h1=false):gG ms (.tup [h0,h1,a,b,c])=true:=by
 show(!bG ms h0|| !bG ms h1)=true
 rcases h with h|h
 ·rw[h];rfl
 ·rw[h,Bool.not_false,Qx]
theorem xr {n:Int}{ks:List Key}:fI n (.tup (ks.map aY))=false:=by
 match ks with
 |[]=>rfl
 |[_]=>rfl
 |[a,b]=>exact Bool.and_eq_false_iff.mpr (.inr (by cases b<;>rfl))
 |_::_::_::_=>rfl
theorem rE {ks:List Key}:cR (.tup (ks.map aY)):=by
 match ks with
 |[]=>trivial
 |[_]=>trivial
 |[a,b]=>cases b<;>trivial
 |_::_::_::_=>trivial
theorem DH {g:List Key→Option Key}{es ms:List Key}{c0 c1 p:Nat}{m0 m1 e0 e1:Key}{ks0 ks1:List Key}{o0 o1:Option Key}{d:Dat}(sl:dG g es ms)(l29:es.length≤29)(b0:p<c0)(b1:p<c1)(l0:c0≤29)(l1:c1≤29)(s0:ks0.length≤500)(s1:ks1.length≤500)
  (E0:cr g c0 m0 (.int (p:Int)) (ppD e0 ks0) o0)(E1:cr g c1 m1 (.int (p:Int)) (ppD e1 ks1) o1)(hd:d∈dm c0 c1 p m0 m1 e0 e1 ks0 ks1):
  gG ms d=true∨∃e' k0' k1' o0' o1',d=.tup [hdD c0 m0,hdD c1 m1,e',k0',k1']∧cR k0'∧cR k1'∧cr g c0 m0 e' k0' o0'∧cr g c1 m1 e' k1' o1'∧neO o0' o1'=false:=by
 have sh0:cR (ppD e0 ks0):=by show(ks0.map aY).length≤500;rw[Kz];exact s0
 have sh1:cR (ppD e1 ks1):=by show(ks1.map aY).length≤500;rw[Kz];exact s1
 have pl:∀{c:Nat}{m:Key}{k e:Dat},lO e=false→cr g c m e k none:=fun{c m k e} h=>.place (by unfold cC;rw[h,Up,PN])
 unfold dm at hd
 simp only[KY,Mb,or_false]at hd
 rcases hd with rfl|rfl|rfl|rfl|rfl|rfl|rfl|rfl|rfl|rfl|rfl|rfl|rfl
 ·exact .inl rfl
 ·exact .inl rfl
 ·exact .inl rfl
 ·exact .inl rfl
 ·exact .inl (jf (.inl rfl))
 ·exact .inr ⟨_,_,_,none,none,rfl,sh0,sh1,pl rfl,pl rfl,rfl⟩
 ·exact .inr ⟨_,_,_,o0,none,rfl,sh0,trivial,E0,.paper p rfl b1 (ig l1) rfl,qu⟩
 ·refine .inl (jf (.inl ?_))
  cases h:bG ms (.tup [.int (c0:Int),.int (10^59+1)])with
  |false=>rfl
  |true=>
   obtain⟨j,h1,_⟩:=su (m:=.inl (10^59+1)) h
   have:=(sl.ok _ (KM h1)).2 _ rfl
   omega
 ·exact .inr ⟨_,_,_,none,o1,rfl,rE,sh1,.paper p rfl b0 (ig l0) xr,E1,rfl⟩
 ·refine .inl (jf (.inr ?_))
  cases h:bG ms (.tup [.int ((c1:Int)+100),aY m1])with
  |false=>rfl
  |true=>
   rw[je]at h
   obtain⟨j,h1,h2⟩:=iX.mp (KD.mp h).2
   have:=(KC.mp h1).1
   have:=sl.l
   omega
 ·exact .inr ⟨_,_,_,none,none,rfl,sh0,sh1,pl rfl,pl rfl,rfl⟩
 ·exact .inl rfl
 ·exact .inr ⟨_,_,_,none,none,rfl,sh0,sh1,pl rfl,pl rfl,rfl⟩
theorem AQ {Q:VK}(hq:∀H',Q (.bl true) H'){H:Hp}{f b L:Addr}{kd:Kd}{ps:List Addr}{tt:List (List Key)}{g:List Key→Option Key}{n:Nat}{way:Int}{due:Bool}{x0 x2 x3 x5 x6 x7 x8 x9 x10 x11 x12 x13 x14 x15 x16 x19 x20 x21:Option V}(s:Stp A H f b kd g n)(hn:n+2000≤40000)(hL:H L=some (.lst (ps.map V.ref)))(pk:PK H ps tt)(ll:tt.length≤900)
  (hdue:due=true→way<3∧∀h,Ext g h→fZ h tt none→False):rY K A {nx:=fun _ H'=>Q .non H',rt:=Q} [x0,some (.int way),x2,x3,some (.ref f),x5,x6,x7,x8,x9,x10,x11,x12,x13,x14,x15,x16,some (.bl due),some (.ref L),x19,x20,x21] H:=by
 cases due with
 |false=>exact Sel.yes rfl (hq _)
 |true=>
  obtain⟨lt3,no⟩:=hdue rfl
  refine Sel.no rfl (Sel.yes (decide_eq_true lt3) ?_)
  refine⟨f,b,L,kd,ps,tt,g,n,rfl,s,hL,pk,ll,by omega,fun v H3 g3 r kb3 s3 sub3 ret due=>?_⟩
  cases r with
  |none=>exact(no _ (Ext.of sub3 (Ext.refl' g3)) (due _ (Ext.refl' g3))).elim
  |some r=>
   have hq3:=kb3.obj s.bb hL (fun _ z=>nomatch z)
   have pk3:=pk.keep (ba.tup s kb3)
   have mem:r.1∈tt∧r.2∈tt∧r.1≠r.2:=by
    obtain⟨j,k,_,h1,h2,h3,_⟩:=due _ (Ext.refl' g3)
    exact⟨KM h1,KM h2,h3⟩
   exact⟨f,b,L,kd,ps,tt,r,v,g3,n+tt.length,rfl,s3,hq3,pk3,ll,by omega,ret,mem.1,mem.2.1,mem.2.2,fun h eh=>by
    obtain⟨j,k,_,_,_,_,h4,_⟩:=due h eh
    exact h4,hq⟩
def dO (ms:List Key)(g:gOp)(d:Dat)(due:Bool):Prop:=(gG ms d=true∧due=false)∨∃(c0 c1:Nat)(m0 m1:Key)(e k0 k1:Dat)(o0 o1:Option Key),d=.tup [hdD c0 m0,hdD c1 m1,e,k0,k1]∧gG ms d=false∧c0<2^60∧c1<2^60∧okP m0=true∧okP m1=true∧cR k0∧cR k1∧cr g c0 m0 e k0 o0∧cr g c1 m1 e k1 o1∧neO o0 o1=due
theorem dO.mono {ms:List Key}{g g':gOp}{d:Dat}{due:Bool}(l:dO ms g d due)(s:Sub g g'):dO ms g' d due:=by
 rcases l with l|⟨c0,c1,m0,m1,e,k0,k1,o0,o1,ed,nl,b0,b1,ok0,ok1,sh0,sh1,er0,er1,eq⟩
 ·exact .inl l
 ·exact .inr ⟨c0,c1,m0,m1,e,k0,k1,o0,o1,ed,nl,b0,b1,ok0,ok1,sh0,sh1,er0.mono s,er1.mono s,eq⟩
theorem lG {H:Hp}{f b S:Addr}{kd:Kd}{ms:List Key}{g:gOp}{n:Nat}{v:V}{d:Dat}{due:Bool}{Q:VK}{E:XK}(s:Stp A H f b kd g n)(hn:n+600≤40000)(tb:gw A b H)(hS:H S=some (.dT (dB ms)))(w:aH H v d)(l:dO ms g d due)
  (q:∀(g':gOp)(H':Hp),jb A b H H'→gw A b H'→Stp A H' f b kd g' (n+142)→Sub g g'→Q (.bl due) H'):jg K A [.ref f,.ref S,v] H Q E:=by
 refine⟨f,b,S,kd,ms,g,n,v,d,rfl,s,hn,tb,hS,w,?_⟩
 rcases l with⟨nl,rfl⟩|⟨c0,c1,m0,m1,e,k0,k1,o0,o1,ed,nl,b0,b1,ok0,ok1,sh0,sh1,er0,er1,rfl⟩
 ·exact .inl ⟨nl,fun H' k t s'=>q g H' k t (s'.same (by omega) (.refl _)) Sub.rfl'⟩
 ·exact .inr ⟨c0,c1,m0,m1,e,k0,k1,o0,o1,ed,nl,b0,b1,ok0,ok1,sh0,sh1,er0,er1,fun g' H' k t s' sub=>q g' H' k t s' sub⟩
theorem gw.at {H:Hp}{b:Addr}(t:gw A b H):∃ps,H A.t_23=some (.tbl ps):=by
 rcases t with h|⟨c,h,_⟩
 ·exact⟨_,h⟩
 ·exact⟨_,h⟩
theorem jb.obj {H H':Hp}{f b z:Addr}{kd:Kd}{g:gOp}{n:Nat}{o:HO}(k:jb A b H H')(s:Stp A H f b kd g n)(t:gw A b H)(e:H z=some o)(h1:∀φ,o≠.ext φ)(h2:∀kvs,o≠.dT kvs)(h3:∀ps,o≠.tbl ps):H' z=some o:=by
 obtain⟨ps,tp⟩:=t.at
 exact k z o (s.nb e h1 h2) (aW e tp (h3 _)) e
section
variable {K:tx}{mg:Str→Option Gt}{A:Adr}
theorem qL {g:List Key→Option Key}(num:∀k v,g k=some v→∃i,v=.inl i)(inj:∀k k' v,okT k=true→okT k'=true→g k=some v→g k'=some v→k=k'):∃h:List Key→Key,Ext g h∧∀k k',okT k=true→okT k'=true→h k=h k'→k=k':=by
 refine⟨fun k=>(g k).getD (.inr (bR k)),fun k v e=>by show(g k).getD _=v;rw[e];rfl,fun k k' ok ok' e=>?_⟩
 have e:(g k).getD (.inr (bR k))=(g k').getD (.inr (bR k')):=e
 cases h1:g k with
 |none=>
  cases h2:g k' with
  |none=>rw[h1,h2]at e;exact iA (dy ok) (dy ok') (Qp e)
  |some v=>obtain⟨i,rfl⟩:=num _ _ h2;rw[h1,h2]at e;cases e
 |some u=>
  cases h2:g k' with
  |none=>obtain⟨i,rfl⟩:=num _ _ h1;rw[h1,h2]at e;cases e
  |some v=>
   rw[h1,h2]at e
   have e:u=v:=e
   subst e
   exact inj k k' u ok ok' h1 h2
theorem Lin.num {a c:Int}{kvs:List (List Key×Key)}(s:Lin a c kvs)(k:List Key)(v:Key)(h:bB kvs k=some v):∃i,v=.inl i:=by
 obtain⟨i,hi⟩:=ni h
 exact⟨_,s i _ hi⟩
theorem Stp.injH {H:Hp}{f b:Addr}{d:Kd}{g:List Key→Option Key}{n:Nat}(s:Stp A H f b d g n)(hd:d.sure):∃h:List Key→Key,Ext g h∧∀k k',okT k=true→okT k'=true→h k=h k'→k=k':=by
 have s0:=s
 cases s with
 |wri hc hb hg ed=>
  subst hg
  exact⟨fun k=>.inr (bR k),fun k v e=>KL e,fun k k' ok ok' e=>iA (dy ok) (dy ok') (Qp e)⟩
 |cnt q x kvs hc num hl hs st hg ed=>
  refine qL (fun k v e=>?_) fun k k' v ok ok' e e'=>s0.inj hd ok ok' e e'
  subst hg;exact st.num k v e
 |wea q m h1 h2 hc hb hg ed=>subst ed;exact hd.elim
 |pla q0 q1 q2 D j j0 j1 kvs al hc hb ha bD hl hs st hg ed=>
  refine qL (fun k v e=>?_) fun k k' v ok ok' e e'=>s0.inj hd ok ok' e e'
  subst hg;exact st.num _ v e
structure Sd (g:gOp)(es ms:List Key)(p c:Nat)(m e:Key)(ks:List Key):Prop where
 c1:1≤c
 cl:c≤es.length
 hm:ms[c- 1]?=some m
 lt:p<c
 kl:ks.length=(aS c p).length
 hk:∀k∈ks,mkK k
 he:es[p]?=some e
 ee:enK e
 lad:∀h,Ext g h→bZ h c e (stR (aS c p) ks) (ks.length+1)=jT h (es.take c)
variable {g g':gOp}{es ms:List Key}{p c:Nat}{m e:Key}{ks:List Key}
theorem Sd.mono (s:Sd g es ms p c m e ks)(sub:Sub g g'):Sd g' es ms p c m e ks:=⟨s.c1,s.cl,s.hm,s.lt,s.kl,s.hk,s.he,s.ee,fun h eh=>s.lad h (Ext.of sub eh)⟩
theorem dG.mono (s:dG g es ms)(sub:Sub g g'):dG g' es ms:=⟨s.l,s.ok,fun i m hm h eh=>s.eq i m hm h (Ext.of sub eh)⟩
theorem Sd.ent (s:Sd g es ms p c m e ks)(sl:dG g es ms)(l29:es.length≤29):cr g c m (.int (p:Int)) (ppD e ks) (some e):=Ag sl l29 s.hm s.c1 s.cl s.lt s.kl s.hk s.ee s.lad
theorem zo {ms:List Key}{c:Nat}{m:Key}(c1:1≤c)(c2:c<2^60)(ok:okP m=true)(hm:ms[c- 1]?=some m):bG ms (hdD c m)=true:=by
 rw[je,qt c2 ok,NG]
 exact iX.mpr ⟨c- 1,hm,by omega⟩
theorem Sd.okm (s:Sd g es ms p c m e ks)(sl:dG g es ms):okP m=true:=(sl.ok m (KM s.hm)).1
theorem Sd.seal (s:Sd g es ms p c m e ks)(sl:dG g es ms)(l29:es.length≤29):bG ms (hdD c m)=true:=by
 have:=s.cl
 exact zo s.c1 (by omega) (s.okm sl) s.hm
theorem gY (h:ks.length≤500):cR (ppD e ks):=by show(ks.map aY).length≤500;rw[Kz];exact h
theorem sA {c0 c1:Nat}{m0 m1:Key}{e k0 k1:Dat}{o0 o1:Option Key}(y0:bG ms (hdD c0 m0)=true)(y1:bG ms (hdD c1 m1)=true)(b0:c0<2^60)(b1:c1<2^60)(ok0:okP m0=true)(ok1:okP m1=true)(s0:cR k0)(s1:cR k1)(E0:cr g c0 m0 e k0 o0)(E1:cr g c1 m1 e k1 o1):dO ms g (.tup [hdD c0 m0,hdD c1 m1,e,k0,k1]) (neO o0 o1):=
 .inr ⟨c0,c1,m0,m1,e,k0,k1,o0,o1,rfl,by show(!bG ms (hdD c0 m0)|| !bG ms (hdD c1 m1))=false;rw[y0,y1];rfl,b0,b1,ok0,ok1,s0,s1,E0,E1,rfl⟩
structure Od (g:gOp)(p c:Nat)(e:Key)(ks:List Key)(came:Key):Prop where
 kl:ks.length=(aS c p).length
 hk:∀k∈ks,mkK k
 ee:enK e
 okc:okP came=true
 cm:∀h,Ext g h→came=h (bZ h c e (stR (aS c p) ks) (ks.length+1))
theorem Od.ent {came:Key}(s:Od g p c e ks came)(lt:p<c)(c29:c≤29):cr g c m (.int (p:Int)) (ppD e ks) (if came=m then some e else none):=
 cr.good p came e ks rfl lt (ig c29) ⟨rfl,s.kl,s.hk,s.ee⟩ fun h eh=>by
  rw[eD s.kl,←s.kl];exact s.cm h eh
theorem Od.mono {came:Key}(s:Od g p c e ks came)(sub:Sub g g'):Od g' p c e ks came:=⟨s.kl,s.hk,s.ee,s.okc,fun h eh=>s.cm h (Ext.of sub eh)⟩
def st2 {α:Type}(f:Nat→α)(k:Nat)(v:α)(i:Nat):α:=if i=k then v else f i
theorem eG {α:Type}{f:Nat→α}{k:Nat}{v:α}:st2 f k v k=v:=if_pos rfl
theorem bQ {α:Type}{f:Nat→α}{k i:Nat}{v:α}(h:i≠k):st2 f k v i=f i:=if_neg h
theorem yL {α:Type}{f:Nat→α}{k:Nat}:st2 f k (f k)=f:=funext fun i=>by
 unfold st2;split
 ·rename_i h;rw[h]
 ·rfl
def jD (came m e' e:Key):Bool:=decide (came=m)&& !decide (e'=e)
theorem Dr {k:Nat}(hk:k<2){em:Nat→Key}{came m e' e:Key}(h0:em 0=e)(h1:em 1=e):neO (st2 (fun i=>some (em i)) k (if came=m then some e' else none) 0) (st2 (fun i=>some (em i)) k (if came=m then some e' else none) 1)=jD came m e' e:=by
 have:k=0∨k=1:=by omega
 rcases this with rfl|rfl
 ·show neO (if came=m then some e' else none) (some (em 1))=_
  unfold jD
  by_cases h:came=m
  ·rw[if_pos h,decide_eq_true h,h1];rfl
  ·rw[if_neg h,decide_eq_false h];rfl
 ·show neO (some (em 0)) (if came=m then some e' else none)=_
  unfold jD
  by_cases h:came=m
  ·rw[if_pos h,decide_eq_true h,h0,NG]
   show(!decide (e=e'))=(!decide (e'=e))
   rw[decide_eq_decide.mpr (eq_comm (a:=e) (b:=e'))]
  ·rw[if_neg h,decide_eq_false h];exact qu
end
def KO (H H':Hp):Prop:=∀z o,H z=some o→(∀φ,o≠.ext φ)→(∀kvs,o≠.dT kvs)→(∀ps,o≠.tbl ps)→H' z=some o
section
variable {H H' H'':Hp}
theorem KO.tup (k:KO H H'){z:Addr}{xs:List V}(e:H z=some (.tup xs)):H' z=some (.tup xs):=k z _ e (fun _ z=>nomatch z) (fun _ z=>nomatch z) (fun _ z=>nomatch z)
theorem KO.lst (k:KO H H'){z:Addr}{xs:List V}(e:H z=some (.lst xs)):H' z=some (.lst xs):=k z _ e (fun _ z=>nomatch z) (fun _ z=>nomatch z) (fun _ z=>nomatch z)
theorem KO.pap (k:KO H H'){P T:Addr}{e:Key}{ks:List Key}(w:bL H P T e ks):bL H' P T e ks:=⟨k.tup w.hP,k.tup w.hT⟩
theorem KO.sq (k:KO H H'){a:Addr}{xs:List V}(h:SqL K H a xs):SqL K H' a xs:=by
 rcases h with(h|⟨o,h⟩)|h
 ·exact .inl (.inl (k.lst h))
 ·exact .inl (.inr ⟨o,k _ _ h (fun _ z=>nomatch z) (fun _ z=>nomatch z) (fun _ z=>nomatch z)⟩)
 ·exact .inr h
theorem KO.same (S:au H H'):KO H H':=fun z o e _ _ _=>S z o e
theorem KO.trans (a:KO H H')(b:KO H' H''):KO H H'':=fun z o e h1 h2 h3=>b z o (a z o e h1 h2 h3) h1 h2 h3
theorem KO.dat (k:KO H H'){v:V}{d:Dat}(w:aH H v d):aH H' v d:=w.keepG k
theorem KO.pk (k:KO H H'){ps:List Addr}{tt:List (List Key)}(w:PK H ps tt):PK H' ps tt:=w.keep fun x xs e=>k.tup e
end
structure Cz (K:tx)(A:Adr)(H:Hp)(a f b S:Addr)(kd:Kd)(ns:List Int)(ms:List Key)(g:gOp)(n:Nat):Prop where
 s:Stp A H f b kd g n
 sq:SqL K H a (ns.map V.int)
 hS:H S=some (.dT (dB ms))
 Sb:S≠b
 tb:gw A b H
section
variable {H H':Hp}{a f b S:Addr}{kd kd':Kd}{ns:List Int}{ms:List Key}{g g':gOp}{n n':Nat}
theorem Cz.kT (c:Cz K A H a f b S kd ns ms g n)(k:jb A b H H')(t:gw A b H')(s:Stp A H' f b kd' g' n'):Cz K A H' a f b S kd' ns ms g' n'∧KO H H':=by
 have ko:KO H H':=fun z o e h1 h2 h3=>k.obj c.s c.tb e h1 h2 h3
 obtain⟨ps,tp⟩:=c.tb.at
 exact⟨⟨s,ko.sq c.sq,k _ _ c.Sb (aW c.hS tp (fun z=>nomatch z)) c.hS,c.Sb,t⟩,ko⟩
theorem Cz.kB (c:Cz K A H a f b S kd ns ms g n)(k:ba b H H')(s:Stp A H' f b kd' g' n'):Cz K A H' a f b S kd' ns ms g' n'∧KO H H':=by
 have ko:KO H H':=fun z o e h1 h2 h3=>k z o (c.s.nb e h1 h2) e
 refine⟨⟨s,ko.sq c.sq,k _ _ c.Sb c.hS,c.Sb,?_⟩,ko⟩
 rcases c.tb with h|⟨q,h1,h2,cb⟩
 ·exact .inl (k _ _ (c.s.nb h (fun _ z=>nomatch z) (fun _ z=>nomatch z)) h)
 ·exact .inr ⟨q,k _ _ (c.s.nb h1 (fun _ z=>nomatch z) (fun _ z=>nomatch z)) h1,k _ _ cb h2,cb⟩
theorem Cz.kS (c:Cz K A H a f b S kd ns ms g n)(k:au H H'):Cz K A H' a f b S kd ns ms g n:=(c.kB (ba.same k) (c.s.same (KA _) k)).1
theorem Cz.setL (c:Cz K A H a f b S kd ns ms g n){L:Addr}{xs:List V}{ys:List V}(hL:H L=some (.lst xs))(na:(∀H',SqL K H' a (ns.map V.int))∨a≠L):Cz K A (upd H L (.lst ys)) a f b S kd ns ms g n:=by
 have kx:∀z (u:HO),H z=some u→(∀xs,u≠.lst xs)→upd H L (.lst ys) z=some u:=fun z u e hu=>by rw[ao (aW e hL (hu _))];exact e
 refine⟨c.s.setL hL,?_,kx _ _ c.hS (fun _ z=>nomatch z),c.Sb,?_⟩
 ·rcases na with h|h
  ·exact h _
  ·rcases c.sq with(e|⟨o,e⟩)|e
   ·exact .inl (.inl (by rw[ao h];exact e))
   ·exact .inl (.inr ⟨o,by rw[ao h];exact e⟩)
   ·exact .inr e
 ·rcases c.tb with h|⟨q,h1,h2,cb⟩
  ·exact .inl (kx _ _ h (fun _ z=>nomatch z))
  ·exact .inr ⟨q,kx _ _ h1 (fun _ z=>nomatch z),kx _ _ h2 (fun _ z=>nomatch z),cb⟩
theorem Cz.sub (c:Cz K A H a f b S kd ns ms g n)(h:n≤n'):Cz K A H a f b S kd ns ms g n':=⟨c.s.same h (.refl _),c.sq,c.hS,c.Sb,c.tb⟩
theorem Iv {Q:VK}(hq:∀H',Q (.bl true) H')(c:Cz K A H a f b S kd ns ms g n)(hn:n+4000≤40000){X HL PL a0 a1 P0 P1 T0 T1 L:Addr}{d1:Dat}{due:Bool}{c0 c1 p:Nat}{m0 m1 e0 e1:Key}{ks0 ks1:List Key}{ps:List Addr}{tt:List (List Key)}{way:Int}{x2 x3 x5 x7 x11 x12 x13 x14 x15 x16 x20 x21:Option V}
  (hX:aH H (.ref X) d1)(l1:dO ms g d1 due)(hH:H HL=some (.lst [.ref a0,.ref a1]))(ha0:H a0=some (.tup [.int (c0:Int),kV m0]))(ha1:H a1=some (.tup [.int (c1:Int),kV m1]))(hP:H PL=some (.lst [.ref P0,.ref P1]))(w0:bL H P0 T0 e0 ks0)(w1:bL H P1 T1 e1 ks1)
  (l2:dO ms g (.tup [hdD c0 m0,hdD c1 m1,.int (p:Int),ppD e0 ks0,ppD e1 ks1]) due)(hL:H L=some (.lst (ps.map V.ref)))(pk:PK H ps tt)(ll:tt.length≤900)(hdue:due=true→way<3∧∀h,Ext g h→fZ h tt none→False):
  rX K A {nx:=fun _ H'=>Q .non H',rt:=Q} [some (.ref a),some (.int way),x2,x3,some (.ref f),x5,some (.ref S),x7,some (.ref HL),some (.int (p:Int)),some (.ref PL),x11,x12,x13,x14,x15,x16,some (.bl due),some (.ref L),some (.ref X),x20,x21] H:=by
 refine ixL (j:=0) hH rfl rfl (ixL (j:=1) hH rfl rfl (ixL (j:=0) hP rfl rfl (ixL (j:=1) hP rfl rfl ⟨aF (show 5≤1000000 by decide),fun X2 hX2=>⟨aF (show 2≤1000000 by decide),fun LL hLL=>?_⟩⟩)))
 have S1:=au.upd (o:=.tup [V.ref a0,.ref a1,.int (p:Int),.ref P0,.ref P1]) hX2
 have S2:=au.upd (o:=.lst [V.ref X,.ref X2]) hLL
 have f1:upd (upd H X2 (.tup [V.ref a0,.ref a1,.int (p:Int),.ref P0,.ref P1])) LL (.lst [V.ref X,.ref X2]) X2=some (.tup [V.ref a0,.ref a1,.int (p:Int),.ref P0,.ref P1]):=S2 _ _ ai
 have f2:upd (upd H X2 (.tup [V.ref a0,.ref a1,.int (p:Int),.ref P0,.ref P1])) LL (.lst [V.ref X,.ref X2]) LL=some (.lst [V.ref X,.ref X2]):=ai
 have SS:=S1.trans S2
 generalize upd (upd H X2 (.tup [V.ref a0,.ref a1,.int (p:Int),.ref P0,.ref P1])) LL (.lst [V.ref X,.ref X2])=H2 at*
 have ks:=KO.same SS
 have dX2:aH H2 (.ref X2) (.tup [hdD c0 m0,hdD c1 m1,.int (p:Int),ppD e0 ks0,ppD e1 ks1]):=.tup f1 (.cons (.tup (SS _ _ ha0) (.cons (.int _) (.cons (dY m0) .nil))) (.cons (.tup (SS _ _ ha1) (.cons (.int _) (.cons (dY m1) .nil))) (.cons (.int _) (.cons (dW.of (w0.same SS)) (.cons (dW.of (w1.same SS)) .nil)))))
 refine⟨LL,rfl,.inl ⟨⟨_,SqL.of f2⟩,?_⟩⟩
 refine jH (xs:=[V.ref X,.ref X2]) (fun i σ H'=>∃(g':gOp)(x20 x21:Option V),σ=[some (.ref a),some (.int way),x2,x3,some (.ref f),x5,some (.ref S),x7,some (.ref HL),some (.int (p:Int)),some (.ref PL),x11,x12,x13,x14,x15,x16,some (.bl due),some (.ref L),some (.ref X),x20,x21]∧Cz K A H' a f b S kd ns ms g' (n+142*i)∧Sub g g'∧KO H2 H')
  ⟨g,_,_,rfl,(c.kS SS).sub (by omega),Sub.rfl',KO.same (.refl _)⟩ (fun i σ H' _ h=>?_) (fun i v σ H' hv h=>?_) (fun σ H' h=>?_)
 ·obtain⟨g',_,_,rfl,_,_,ko⟩:=h
  exact SqL.of (ko.lst f2)
 ·obtain⟨g',y20,y21,rfl,c',sub,ko⟩:=h
  have hi:i<2:=(KC.mp hv).1
  obtain⟨d,wd,ld⟩:∃d,aH H2 v d∧dO ms g d due:=by
   have:i=0∨i=1:=by omega
   rcases this with rfl|rfl
   ·cases hv;exact⟨d1,ks.dat hX,l1⟩
   ·cases hv;exact⟨_,dX2,l2⟩
  dsimp only[aw,ax,aC,az,ag,af,am,List.set,RK,RJ]
  refine lG c'.s (by omega) c'.tb c'.hS (ko.dat wd) (ld.mono sub) fun g3 H3 kT t3 s3 sub3=>?_
  obtain⟨c3,ko3⟩:=c'.kT kT t3 s3
  refine⟨by decide,"bool",rfl,Sel.no rfl (Sel.no (by cases due<;>rfl) ⟨g3,_,_,rfl,c3.sub (by omega),sub.trans sub3,ko.trans ko3⟩)⟩
 ·obtain⟨g',y20,y21,rfl,c',sub,ko⟩:=h
  exact AQ hq c'.s (by show n+142*2+2000≤40000;omega) (ko.lst (ks.lst hL)) (ko.pk (ks.pk pk)) ll fun e=>⟨(hdue e).1,fun h eh=>(hdue e).2 h (Ext.of sub eh)⟩
theorem sN {X a0 a1 P0 P1 T0 T1:Addr}{c0 c1 p:Nat}{m0 m1 e0 e1:Key}{ks0 ks1:List Key}(hX:H X=some (.tup [.ref a0,.ref a1,.int (p:Int),.ref P0,.ref P1]))(ha0:H a0=some (.tup [.int (c0:Int),kV m0]))(ha1:H a1=some (.tup [.int (c1:Int),kV m1]))(w0:bL H P0 T0 e0 ks0)(w1:bL H P1 T1 e1 ks1):aH H (.ref X) (.tup [hdD c0 m0,hdD c1 m1,.int (p:Int),ppD e0 ks0,ppD e1 ks1]):=
 .tup hX (.cons (.tup ha0 (.cons (.int _) (.cons (dY m0) .nil))) (.cons (.tup ha1 (.cons (.int _) (.cons (dY m1) .nil))) (.cons (.int _) (.cons (dW.of w0) (.cons (dW.of w1) .nil)))))
theorem dN {L z:Addr}{xs ys zs:List V}(hL:H L=some (.lst xs))(e:H z=some (.tup zs)):upd H L (.lst ys) z=some (.tup zs):=by rw[ao (aW e hL (fun z=>nomatch z))];exact e
theorem CK {α:Type}{x:Nat→α}{y:α}{k:Nat}(hk:k<2):[x 0,x 1].set k y=[st2 x k y 0,st2 x k y 1]:=by
 have:k=0∨k=1:=by omega
 rcases this with rfl|rfl<;>rfl
theorem uU {α:Type}{x:Nat→α}{k:Nat}(hk:k<2):[x 0,x 1][k]?=some (x k):=by
 have:k=0∨k=1:=by omega
 rcases this with rfl|rfl<;>rfl
theorem ED {n k:Nat}(hk:k<n):ixN n (k:Int)=some k:=by unfold ixN;rw[if_pos (by omega),if_pos (by omega),MB]
theorem kQ {x:Nat→Addr}{y:Addr}{k i:Nat}:st2 (fun j=>V.ref (x j)) k (.ref y) i=V.ref (st2 x k y i):=by unfold st2;split<;>rfl
theorem Ib {Q:VK}(hq:∀H',Q (.bl true) H')(c:Cz K A H a f b S kd ns ms g n)(hn:n+4000≤40000){X HL PL L:Addr}{aa PP TT:Nat→Addr}{cc:Nat→Nat}{mm em:Nat→Key}{kk:Nat→List Key}{due:Bool}{p k:Nat}{came:Key}{ps:List Addr}{tt:List (List Key)}{way:Int}{x2 x3 x5 x7 x13 x14 x15 x20 x21:Option V}(hk:k<2)
  (hX:H X=some (.tup [.ref (aa 0),.ref (aa 1),.int (p:Int),.ref (PP 0),.ref (PP 1)]))(l1:dO ms g (.tup [hdD (cc 0) (mm 0),hdD (cc 1) (mm 1),.int (p:Int),ppD (em 0) (kk 0),ppD (em 1) (kk 1)]) due)(hH:H HL=some (.lst [.ref (aa 0),.ref (aa 1)]))(ha:∀i,H (aa i)=some (.tup [.int (cc i:Int),kV (mm i)]))(hP:H PL=some (.lst [.ref (PP 0),.ref (PP 1)]))(pw:∀i,bL H (PP i) (TT i) (em i) (kk i))(PH:PL≠HL)(LH:L≠HL)(na:(∀H',SqL K H' a (ns.map V.int))∨a≠HL)
  (l2:dO ms g (.tup [hdD (cc 0) (st2 mm k came 0),hdD (cc 1) (st2 mm k came 1),.int (p:Int),ppD (em 0) (kk 0),ppD (em 1) (kk 1)]) due)(hL:H L=some (.lst (ps.map V.ref)))(pk:PK H ps tt)(ll:tt.length≤900)(hdue:due=true→way<3∧∀h,Ext g h→fZ h tt none→False):
  sj K A {nx:=fun _ H'=>Q .non H',rt:=Q} [some (.ref a),some (.int way),x2,x3,some (.ref f),x5,some (.ref S),x7,some (.ref HL),some (.int (p:Int)),some (.ref PL),some (.int (k:Int)),some (.int (cc k:Int)),x13,x14,x15,some (kV came),some (.bl due),some (.ref L),some (.ref X),x20,x21] H:=by
 refine⟨aF (show 2≤1000000 by decide),fun an han=>?_⟩
 have S1:=au.upd (o:=.tup [V.int (cc k:Int),kV came]) han
 have e1:upd H an (.tup [V.int (cc k:Int),kV came]) an=some (.tup [V.int (cc k:Int),kV came]):=ai
 generalize upd H an (.tup [V.int (cc k:Int),kV came])=H1 at*
 have hH1:=S1 _ _ hH
 refine .inl ⟨HL,_,_,k,rfl,rfl,hH1,ED hk,?_⟩
 have es:=CK (x:=fun j=>V.ref (aa j)) (y:=.ref an) hk
 have es:[V.ref (aa 0),.ref (aa 1)].set k (.ref an)=[.ref (st2 aa k an 0),.ref (st2 aa k an 1)]:=es.trans (by rw[kQ,kQ])
 rw[es]
 have kt:∀{z:Addr}{zs:List V},H z=some (.tup zs)→upd H1 HL (.lst [.ref (st2 aa k an 0),.ref (st2 aa k an 1)]) z=some (.tup zs):=fun e=>dN hH1 (S1 _ _ e)
 have c2:=(c.kS S1).setL (ys:=[.ref (st2 aa k an 0),.ref (st2 aa k an 1)]) hH1 na
 have pw2:∀i,bL (upd H1 HL (.lst [.ref (st2 aa k an 0),.ref (st2 aa k an 1)])) (PP i) (TT i) (em i) (kk i):=fun i=>⟨kt (pw i).hP,kt (pw i).hT⟩
 have ha2:∀i,upd H1 HL (.lst [.ref (st2 aa k an 0),.ref (st2 aa k an 1)]) (st2 aa k an i)=some (.tup [.int (cc i:Int),kV (st2 mm k came i)]):=fun i=>by
  by_cases h:i=k
  ·subst h;rw[eG,eG];exact dN hH1 e1
  ·rw[bQ h,bQ h];exact kt (ha i)
 exact Iv hq c2 hn (sN (kt hX) (kt (ha 0)) (kt (ha 1)) (pw2 0) (pw2 1)) l1 ai (ha2 0) (ha2 1) (by rw[ao PH];exact S1 _ _ hP) (pw2 0) (pw2 1) l2 (by rw[ao LH];exact S1 _ _ hL) (pk.keep fun x xs e=>kt e) ll hdue
theorem HF {Q:VK}(hq:∀H',Q (.bl true) H')(c:Cz K A H a f b S kd ns ms g n)(hn:n+5000≤40000){X HL PL L:Addr}{aa PP TT:Nat→Addr}{cc:Nat→Nat}{mm em:Nat→Key}{kk:Nat→List Key}{oo:Nat→Option Key}{due:Bool}{p k:Nat}{came:Key}{ps:List Addr}{tt:List (List Key)}{way:Int}{es:List Key}{x2 x3 x5 x7 x13 x14 x15 x20 x21:Option V}(hk:k<2)(sl:dG g es ms)(l29:es.length≤29)
  (lt:∀i,p<cc i)(c29:∀i,cc i≤29)(k6:∀i,(kk i).length≤500)(okm:∀i,okP (mm i)=true)(ent:∀i,cr g (cc i) (mm i) (.int (p:Int)) (ppD (em i) (kk i)) (oo i))
  (hX:H X=some (.tup [.ref (aa 0),.ref (aa 1),.int (p:Int),.ref (PP 0),.ref (PP 1)]))(l1:dO ms g (.tup [hdD (cc 0) (mm 0),hdD (cc 1) (mm 1),.int (p:Int),ppD (em 0) (kk 0),ppD (em 1) (kk 1)]) due)(hH:H HL=some (.lst [.ref (aa 0),.ref (aa 1)]))(ha:∀i,H (aa i)=some (.tup [.int (cc i:Int),kV (mm i)]))(hP:H PL=some (.lst [.ref (PP 0),.ref (PP 1)]))(pw:∀i,bL H (PP i) (TT i) (em i) (kk i))(PH:PL≠HL)(LH:L≠HL)(na:(∀H',SqL K H' a (ns.map V.int))∨a≠HL)
  (l2:dO ms g (.tup [hdD (cc 0) (st2 mm k came 0),hdD (cc 1) (st2 mm k came 1),.int (p:Int),ppD (em 0) (kk 0),ppD (em 1) (kk 1)]) due)(hL:H L=some (.lst (ps.map V.ref)))(pk:PK H ps tt)(ll:tt.length≤900)(hdue:due=true→way<3∧∀h,Ext g h→fZ h tt none→False):
  rT K A {nx:=fun _ H'=>Q .non H',rt:=Q} [some (.ref a),some (.int way),x2,x3,some (.ref f),x5,some (.ref S),x7,some (.ref HL),some (.int (p:Int)),some (.ref PL),some (.int (k:Int)),some (.int (cc k:Int)),x13,x14,x15,some (kV came),some (.bl due),some (.ref L),some (.ref X),x20,x21] H:=by
 have:=lt 0
 have:=c29 0
 refine⟨a,ns,8,rfl,c.sq,by decide,fun z=>⟨z,X,aa 0,aa 1,PP 0,TT 0,PP 1,TT 1,cc 0,cc 1,p,mm 0,mm 1,em 0,em 1,kk 0,kk 1,rfl,hX,ha 0,ha 1,pw 0,pw 1,by omega,fun v d H1 S1 w hd=>?_⟩⟩
 have c1:=c.kS S1
 have ld:dO ms g d false:=by
  cases nl:gG ms d with
  |true=>exact .inl ⟨nl,rfl⟩
  |false=>
   rcases DH sl l29 (lt 0) (lt 1) (c29 0) (c29 1) (k6 0) (k6 1) (ent 0) (ent 1) hd with h|⟨e',k0,k1,o0,o1,ed,s0,s1,E0,E1,ne⟩
   ·rw[h]at nl;cases nl
   ·have:=c29 1
    exact .inr ⟨cc 0,cc 1,mm 0,mm 1,e',k0,k1,o0,o1,ed,nl,by omega,by omega,okm 0,okm 1,s0,s1,E0,E1,ne⟩
 dsimp only[am]
 refine lG c1.s (by omega) c1.tb c1.hS w ld fun g2 H2 kT t2 s2 sub2=>?_
 obtain⟨c2,ko2⟩:=c1.kT kT t2 s2
 have ko:=(KO.same S1).trans ko2
 refine Sel.no rfl (Ib hq c2 (by omega) hk (ko.tup hX) (l1.mono sub2) (ko.lst hH) (fun i=>ko.tup (ha i)) (ko.lst hP) (fun i=>ko.pap (pw i)) PH LH na (l2.mono sub2) (ko.lst hL) (ko.pk pk) ll fun e=>⟨(hdue e).1,fun h eh=>(hdue e).2 h (Ext.of sub2 eh)⟩)
end
section
variable {K:tx}{mg:Str→Option Gt}{A:Adr}
variable {H H':Hp}{a f b S:Addr}{kd kd':Kd}{ns:List Int}{ms es:List Key}{g g':gOp}{n n':Nat}
structure Bo (H:Hp)(HL PL:Addr)(aa PP TT:Nat→Addr)(cc:Nat→Nat)(mm em:Nat→Key)(kk:Nat→List Key):Prop where
 hH:H HL=some (.lst [.ref (aa 0),.ref (aa 1)])
 hP:H PL=some (.lst [.ref (PP 0),.ref (PP 1)])
 ha:∀i,H (aa i)=some (.tup [.int (cc i:Int),kV (mm i)])
 pw:∀i,bL H (PP i) (TT i) (em i) (kk i)
 ne:PL≠HL
variable {HL PL:Addr}{aa PP TT:Nat→Addr}{cc:Nat→Nat}{mm em:Nat→Key}{kk:Nat→List Key}
theorem Bo.ko (o:Bo H HL PL aa PP TT cc mm em kk)(k:KO H H'):Bo H' HL PL aa PP TT cc mm em kk:=⟨k.lst o.hH,k.lst o.hP,fun i=>k.tup (o.ha i),fun i=>k.pap (o.pw i),o.ne⟩
abbrev Na (K:tx)(a:Addr)(ns:List Int)(L:Addr):Prop:=(∀H',SqL K H' a (ns.map V.int))∨a≠L
theorem Gq {Q:VK}(hq:∀H',Q (.bl true) H')(c:Cz K A H a f b S kd ns ms g n)(hn:n+5000≤40000)(o:Bo H HL PL aa PP TT cc mm em kk){L:Addr}{oo:Nat→Option Key}{due:Bool}{p k:Nat}{came:Key}{ps:List Addr}{tt:List (List Key)}{way:Int}{x2 x3 x5 x7 x13 x14 x15 x19 x20 x21:Option V}(hk:k<2)(sl:dG g es ms)(l29:es.length≤29)
  (lt:∀i,p<cc i)(c29:∀i,cc i≤29)(k6:∀i,(kk i).length≤500)(okm:∀i,okP (mm i)=true)(ent:∀i,cr g (cc i) (mm i) (.int (p:Int)) (ppD (em i) (kk i)) (oo i))
  (l1:dO ms g (.tup [hdD (cc 0) (mm 0),hdD (cc 1) (mm 1),.int (p:Int),ppD (em 0) (kk 0),ppD (em 1) (kk 1)]) due)(LH:L≠HL)(na:Na K a ns HL)
  (l2:dO ms g (.tup [hdD (cc 0) (st2 mm k came 0),hdD (cc 1) (st2 mm k came 1),.int (p:Int),ppD (em 0) (kk 0),ppD (em 1) (kk 1)]) due)(hL:H L=some (.lst (ps.map V.ref)))(pk:PK H ps tt)(ll:tt.length≤900)(hdue:due=true→way<3∧∀h,Ext g h→fZ h tt none→False):
  sO K A {nx:=fun _ H'=>Q .non H',rt:=Q} [some (.ref a),some (.int way),x2,x3,some (.ref f),x5,some (.ref S),x7,some (.ref HL),some (.int (p:Int)),some (.ref PL),some (.int (k:Int)),some (.int (cc k:Int)),x13,x14,x15,some (kV came),some (.bl due),some (.ref L),x19,x20,x21] H:=by
 refine ixL (j:=0) o.hH rfl rfl (ixL (j:=1) o.hH rfl rfl (ixL (j:=0) o.hP rfl rfl (ixL (j:=1) o.hP rfl rfl ⟨aF (show 5≤1000000 by decide),fun X hX=>?_⟩)))
 have S1:=au.upd (o:=.tup [V.ref (aa 0),.ref (aa 1),.int (p:Int),.ref (PP 0),.ref (PP 1)]) hX
 have ko:=KO.same S1
 have o1:=o.ko ko
 exact HF hq (c.kS S1) hn hk sl l29 lt c29 k6 okm ent ai l1 o1.hH o1.ha o1.hP o1.pw o1.ne LH na l2 (ko.lst hL) (ko.pk pk) ll hdue
theorem GZ {Q:VK}(hq:∀H',Q (.bl true) H')(c:Cz K A H a f b S kd ns ms g n)(hn:n+5000≤40000)(o:Bo H HL PL aa PP TT cc mm em kk){P' T' L:Addr}{p k:Nat}{came e':Key}{ks':List Key}{ps:List Addr}{tt:List (List Key)}{way:Int}{due:Bool}{x2 x3 x5 x7 x13 x14 x19 x20 x21:Option V}(hk:k<2)(sl:dG g es ms)(l29:es.length≤29)
  (sd:∀i,Sd g es ms p (cc i) (mm i) (em i) (kk i))(od:Od g p (cc k) e' ks' came)(w':bL H P' T' e' ks')(hd:due=jD came (mm k) e' (em k))(LH:L≠HL)(LP:L≠PL)(na:Na K a ns HL)(na2:Na K a ns PL)
  (hL:H L=some (.lst (ps.map V.ref)))(pk:PK H ps tt)(ll:tt.length≤900)(hdue:due=true→way<3∧∀h,Ext g h→fZ h tt none→False):
  rV K A {nx:=fun _ H'=>Q .non H',rt:=Q} [some (.ref a),some (.int way),x2,x3,some (.ref f),x5,some (.ref S),x7,some (.ref HL),some (.int (p:Int)),some (.ref PL),some (.int (k:Int)),some (.int (cc k:Int)),x13,x14,some (.ref P'),some (kV came),some (.bl due),some (.ref L),x19,x20,x21] H:=by
 have c29:∀i,cc i≤29:=fun i=>KR (sd i).cl l29
 refine .inl ⟨PL,_,_,k,rfl,rfl,o.hP,ED hk,?_⟩
 have es2:=CK (x:=fun j=>V.ref (PP j)) (y:=.ref P') hk
 have es2:[V.ref (PP 0),.ref (PP 1)].set k (.ref P')=[.ref (st2 PP k P' 0),.ref (st2 PP k P' 1)]:=es2.trans (by rw[kQ,kQ])
 rw[es2]
 have kt:∀{z:Addr}{zs:List V},H z=some (.tup zs)→upd H PL (.lst [.ref (st2 PP k P' 0),.ref (st2 PP k P' 1)]) z=some (.tup zs):=fun e=>dN o.hP e
 have c2:=c.setL (ys:=[.ref (st2 PP k P' 0),.ref (st2 PP k P' 1)]) o.hP na2
 have o2:Bo (upd H PL (.lst [.ref (st2 PP k P' 0),.ref (st2 PP k P' 1)])) HL PL aa (st2 PP k P') (st2 TT k T') cc mm (st2 em k e') (st2 kk k ks'):=
  ⟨by rw[ao (Lg o.ne)];exact o.hH,ai,fun i=>kt (o.ha i),fun i=>by
   by_cases h:i=k
   ·subst h;rw[eG,eG,eG,eG];exact⟨kt w'.hP,kt w'.hT⟩
   ·rw[bQ h,bQ h,bQ h,bQ h];exact⟨kt (o.pw i).hP,kt (o.pw i).hT⟩,o.ne⟩
 have ent:∀i,cr g (cc i) (mm i) (.int (p:Int)) (ppD (st2 em k e' i) (st2 kk k ks' i)) (st2 (fun i=>some (em i)) k (if came=mm k then some e' else none) i):=fun i=>by
  by_cases h:i=k
  ·subst h;rw[eG,eG,eG];exact od.ent (sd i).lt (c29 i)
  ·rw[bQ h,bQ h,bQ h];exact(sd i).ent sl l29
 have k6:∀i,(st2 kk k ks' i).length≤500:=fun i=>by
  by_cases h:i=k
  ·subst h;rw[eG,od.kl];exact KR (ig (c29 i)) (by decide)
  ·rw[bQ h,(sd i).kl];exact KR (ig (c29 i)) (by decide)
 have okm:=fun i=>(sd i).okm sl
 have same:∀i j,em i=em j:=fun i j=>KL ((sd i).he.symm.trans (sd j).he)
 have c60:∀i,cc i<2^60:=fun i=>by have:=c29 i;omega
 have l1:dO ms g (.tup [hdD (cc 0) (mm 0),hdD (cc 1) (mm 1),.int (p:Int),ppD (st2 em k e' 0) (st2 kk k ks' 0),ppD (st2 em k e' 1) (st2 kk k ks' 1)]) due:=by
  have:=sA ((sd 0).seal sl l29) ((sd 1).seal sl l29) (c60 0) (c60 1) (okm 0) (okm 1) (gY (k6 0)) (gY (k6 1)) (ent 0) (ent 1)
  rw[Dr hk (same 0 k) (same 1 k),←hd]at this;exact this
 have l2:dO ms g (.tup [hdD (cc 0) (st2 mm k came 0),hdD (cc 1) (st2 mm k came 1),.int (p:Int),ppD (st2 em k e' 0) (st2 kk k ks' 0),ppD (st2 em k e' 1) (st2 kk k ks' 1)]) due:=by
  by_cases h:came=mm k
  ·rw[h,yL];exact l1
  ·have d0:due=false:=by rw[hd];unfold jD;rw[decide_eq_false h];rfl
   have no:bG ms (hdD (cc k) came)=false:=by
    cases hh:bG ms (hdD (cc k) came)with
    |false=>rfl
    |true=>
     obtain⟨j,h1,h2⟩:=su hh
     have h3:=(sd k).hm
     rw[h2,Nat.add_sub_cancel,h1]at h3
     exact absurd (KL h3) h
   refine .inl ⟨jf ?_,d0⟩
   have:k=0∨k=1:=by omega
   rcases this with rfl|rfl
   ·exact .inl no
   ·exact .inr no
 exact Gq hq c2 hn o2 hk sl l29 (fun i=>(sd i).lt) c29 k6 okm ent l1 LH na l2 (by rw[ao LP];exact hL) (pk.keep fun x xs e=>kt e) ll hdue
theorem qO {P T:Addr}{c p:Nat}{e:Key}{ks:List Key}{Q:VK}{E:XK}(s:Stp A H f b kd g n)(hn:n+400≤40000)(w:bL H P T e ks)(lt:p<c)(c29:c≤29)(kl:ks.length=(aS c p).length)(hk:∀k∈ks,mkK k)(ee:enK e)
  (q:kH A f b kd c (stR (aS c p) ks) e ((aS c p).length+2) g n H Q):jo K A [.ref f,.int (c:Int),.int (p:Int),.ref P] H Q E:=by
 have w6:(aS c p).length≤6:=ig c29
 refine⟨f,b,kd,g,n,_,_,_,.int (c:Int),.int (p:Int),ppD e ks,rfl,⟨s,hn,.int _,dW.of w,gY (by omega)⟩,.int _,fun h=>?_,fun c' p' e1 e2 lt' c2=>?_⟩
 ·rw[jF lt (by omega)]at h;cases h
 ·obtain rfl:=mH e1
  obtain rfl:=mH e2
  exact⟨w6,.inr ⟨e,ks,⟨rfl,kl,hk,ee⟩,q⟩⟩
theorem DC {ps:List Addr}{t1 t2:List (List Key)}{p c:Nat}{m e e' came:Key}{ks ks':List Key}{way:Int}{due:Bool}(s:Stp A H f b kd g n)(w3:way≤3)(hs:way=3→kd.sure)(pk:PK H ps (t1++t2))(sl:dG g es ms)(sd:Sd g es ms p c m e ks)(od:Od g p c e' ks' came)(hd:due=jD came m e' e)
  (q1:∀h,Ext g h→t1=dD h c e' (stR (aS c p) ks') ((aS c p).length+2))(q2:∀h,Ext g h→t2=dD h c e (stR (aS c p) ks) ((aS c p).length+2)):due=true→way<3∧∀h,Ext g h→fZ h (t1++t2) none→False:=fun hT=>by
 rw[hd]at hT
 obtain⟨h1,h2⟩:=KD.mp hT
 have h1:came=m:=of_decide_eq_true h1
 have h2:e'≠e:=by
  intro z;rw[decide_eq_true z]at h2;cases h2
 have no:∀h,Ext g h→fZ h (t1++t2) none→False:=fun h eh di=>by
  refine h2 (Av od.kl sd.kl (q1 h eh) (q2 h eh) di ?_).1
  have e1:=od.cm h eh
  rw[od.kl]at e1
  have e2:=sl.eq (c- 1) m sd.hm h eh
  have c1:=sd.c1
  rw[show c- 1+1=c by omega,←sd.lad h eh,sd.kl]at e2
  rw[←e1,←e2,h1]
 refine⟨?_,no⟩
 rcases Int.lt_or_le way 3 with h|h
 ·exact h
 ·exfalso
  obtain⟨h,eh,inj⟩:=s.injH (hs (by omega))
  exact no h eh fun j k x y _ hx hy hxy=>inj x y (zA pk x (KM hx)) (zA pk y (KM hy)) hxy
theorem zT {Q:VK}(hq:∀H',Q (.bl true) H')(c:Cz K A H a f b S kd ns ms g n)(hn:n+6000≤40000)(o:Bo H HL PL aa PP TT cc mm em kk){P' T':Addr}{p k:Nat}{came e':Key}{ks':List Key}{way:Int}{due:Bool}{x2 x3 x5 x7 x13 x14 x18 x19 x20 x21:Option V}(hk:k<2)(sl:dG g es ms)(l29:es.length≤29)(w3:way≤3)(hs:way=3→kd.sure)
  (sd:∀i,Sd g es ms p (cc i) (mm i) (em i) (kk i))(od:Od g p (cc k) e' ks' came)(w':bL H P' T' e' ks')(hd:due=jD came (mm k) e' (em k))(na:Na K a ns HL)(na2:Na K a ns PL):
  rQ K A {nx:=fun _ H'=>Q .non H',rt:=Q} [some (.ref a),some (.int way),x2,x3,some (.ref f),x5,some (.ref S),x7,some (.ref HL),some (.int (p:Int)),some (.ref PL),some (.int (k:Int)),some (.int (cc k:Int)),x13,x14,some (.ref P'),some (kV came),some (.bl due),x18,x19,x20,x21] H:=by
 have c29:cc k≤29:=KR (sd k).cl l29
 have w6:(aS (cc k) p).length≤6:=ig c29
 refine qO (K:=K) c.s (by omega) w' (sd k).lt c29 od.kl od.hk od.ee fun M1 ps1 t1 g1 H1 k1 s1 sub1 hM1n nM1 hM1 pk1 np1 tl1 sz1 eq1=>?_
 obtain⟨c1,ko1⟩:=c.kB k1 s1
 have o1:=o.ko ko1
 refine ixL (j:=k) o1.hP rfl (uU (x:=fun j=>V.ref (PP j)) hk) ?_
 refine qO (K:=K) c1.s (by omega) (o1.pw k) (sd k).lt c29 (sd k).kl (sd k).hk (sd k).ee fun M2 ps2 t2 g2 H2 k2 s2 sub2 hM2n nM2 hM2 pk2 np2 tl2 sz2 eq2=>?_
 obtain⟨c2,ko2⟩:=c1.kB k2 s2
 have o2:=o1.ko ko2
 have hM1':=ko2.lst hM1
 have pk1':=ko2.pk pk1
 refine .inl ⟨M1,M2,_,_,rfl,rfl,hM1',hM2,Mq (aF (by rw[Kz,Kz,iS pk1,iS pk2,tl1,tl2];omega)),fun L3 h3=>?_⟩
 rw[←Lc]
 have S3:=au.upd (o:=.lst ((ps1++ps2).map V.ref)) h3
 have e3:upd H2 L3 (.lst ((ps1++ps2).map V.ref)) L3=some (.lst ((ps1++ps2).map V.ref)):=ai
 generalize upd H2 L3 (.lst ((ps1++ps2).map V.ref))=H3 at*
 have ko3:=KO.same S3
 have c3:=c2.kS S3
 have pk3:=ko3.pk (wm pk1' pk2)
 have sub:=sub1.trans sub2
 have sl3:=sl.mono sub
 have sd3:=fun i=>(sd i).mono sub
 have od3:=od.mono sub
 exact GZ hq c3 (by omega) (o2.ko ko3) hk sl3 l29 sd3 od3 (ko3.pap (ko2.pap (ko1.pap w'))) hd (Lg (av o2.hH h3)) (Lg (av o2.hP h3)) na na2 e3 pk3 (by rw[KI,tl1,tl2];omega) (DC c3.s w3 hs pk3 sl3 (sd3 k) od3 hd (yp eq1 sub2) eq2)
theorem GV {Q:VK}(hq:∀H',Q (.bl true) H')(c:Cz K A H a f b S kd ns ms g n)(hn:n+6000≤40000)(o:Bo H HL PL aa PP TT cc mm em kk){Ea P' T':Addr}{p k:Nat}{came e':Key}{ks':List Key}{way:Int}{x2 x3 x7 x14 x17 x18 x19 x20 x21:Option V}(hk:k<2)(sl:dG g es ms)(l29:es.length≤29)(w3:way≤3)(hs:way=3→kd.sure)
  (sd:∀i,Sd g es ms p (cc i) (mm i) (em i) (kk i))(od:Od g p (cc k) e' ks' came)(w':bL H P' T' e' ks')(hE:H Ea=some (.lst (es.map kV)))(na:Na K a ns HL)(na2:Na K a ns PL):
  sQ K A {nx:=fun _ H'=>Q .non H',rt:=Q} [some (.ref a),some (.int way),x2,x3,some (.ref f),some (.ref Ea),some (.ref S),x7,some (.ref HL),some (.int (p:Int)),some (.ref PL),some (.int (k:Int)),some (.int (cc k:Int)),some (kV (mm k)),x14,some (.ref P'),some (kV came),x17,x18,x19,x20,x21] H:=by
 refine qU (Sel.dec (fun h=>?_) (fun h=>?_))
 ·refine ixT (j:=0) w'.hP rfl rfl (ixL (j:=p) hE rfl (by rw[La,(sd k).he];rfl) (ku ?_))
  exact zT hq c hn o hk sl l29 w3 hs sd od w' (by unfold jD;rw[decide_eq_true h];rfl) na na2
 ·exact zT hq c hn o hk sl l29 w3 hs sd od w' (by unfold jD;rw[decide_eq_false h];rfl) na na2
theorem GP {Q:VK}(hq:∀H',Q (.bl true) H')(c:Cz K A H a f b S kd ns ms g n)(hn:n+7000≤40000)(o:Bo H HL PL aa PP TT cc mm em kk){Ea P' T' W:Addr}{p k:Nat}{e':Key}{ks':List Key}{way:Int}{x2 x3 x7 x16 x17 x18 x19 x20 x21:Option V}(hk:k<2)(sl:dG g es ms)(l29:es.length≤29)(w3:way≤3)(hs:way=3→kd.sure)
  (sd:∀i,Sd g es ms p (cc i) (mm i) (em i) (kk i))(kl:ks'.length=(aS (cc k) p).length)(hkk:∀x∈ks',mkK x)(ee:enK e')(w':bL H P' T' e' ks')(hE:H Ea=some (.lst (es.map kV)))(hW:H W=some (.lst ((aS (cc k) p).map V.int)))(na:Na K a ns HL)(na2:Na K a ns PL):
  rW K A {nx:=fun _ H'=>Q .non H',rt:=Q} [some (.ref a),some (.int way),x2,x3,some (.ref f),some (.ref Ea),some (.ref S),x7,some (.ref HL),some (.int (p:Int)),some (.ref PL),some (.int (k:Int)),some (.int (cc k:Int)),some (kV (mm k)),some (.ref W),some (.ref P'),x16,x17,x18,x19,x20,x21] H:=by
 have c29:cc k≤29:=KR (sd k).cl l29
 have w6:(aS (cc k) p).length≤6:=ig c29
 have pp:gj A H f b P' T' kd (cc k) (aS (cc k) p) ks' e' g n:=⟨c.s,by omega,(sd k).c1,by omega,w6,mi _ _ _,kl,ee,hkk,w'⟩
 refine⟨f,rfl,c.s.clo,.inl (.inl ⟨_,SqL.of hW,?_⟩)⟩
 rw[Kz]
 refine⟨f,b,W,P',T',kd,cc k,aS (cc k) p,ks',e',g,n,(aS (cc k) p).length+1,rfl,pp,hW,KA _,fun M ps tt g1 H1 k1 s1 sub1 hMn nM hM pk npb tl sz eq=>?_⟩
 obtain⟨c1,ko1⟩:=c.kB k1 s1
 obtain⟨r,t,rfl⟩:=kH.last tl
 obtain⟨qs,pl,rfl,pk'⟩:=lF pk
 obtain⟨hpl,okl⟩:=iY (fG pk') pk'
 rw[Lc]at hM
 refine gR hM ?_
 dsimp only[am]
 refine fb s1 (by omega) hpl okl fun came H2 g2 kb2 s2 sub2 gv st=>?_
 obtain⟨c2,ko2⟩:=c1.kB kb2 s2
 have szt:=sz t (by simp)
 have ko:=ko1.trans ko2
 have sub:=sub1.trans sub2
 exact GV hq c2 (by omega) (o.ko ko) hk (sl.mono sub) l29 w3 hs (fun i=>(sd i).mono sub) ⟨kl,hkk,ee,iQ st (by omega),fun h eh=>by rw[←eh _ _ gv,lB eq (Ext.of sub2 eh),kl]⟩ (ko.pap w') (ko.lst hE) na na2
end
section
variable {K:tx}{mg:Str→Option Gt}{A:Adr}
variable {H H':Hp}{a f b S B D0:Addr}{kd kd':Kd}{ns:List Int}{ms es:List Key}{g g':gOp}{n n':Nat}
theorem Cz.kD (c:Cz K A H a f b S kd ns ms g n){xs:List (List Key×V)}(hD:H D0=some (.dT xs))(SD:S≠D0)(k:zJ b D0 H H')(s:Stp A H' f b kd' g' n'):Cz K A H' a f b S kd' ns ms g' n'∧KO H H':=by
 have ko:KO H H':=fun z o e h1 h2 h3=>k z o (c.s.nb e h1 h2) (aW e hD (h2 _)) e
 refine⟨⟨s,ko.sq c.sq,k _ _ c.Sb SD c.hS,c.Sb,?_⟩,ko⟩
 rcases c.tb with h|⟨q,h1,h2,cb⟩
 ·exact .inl (k _ _ (c.s.nb h (fun _ z=>nomatch z) (fun _ z=>nomatch z)) (aW h hD (fun z=>nomatch z)) h)
 ·exact .inr ⟨q,k _ _ (c.s.nb h1 (fun _ z=>nomatch z) (fun _ z=>nomatch z)) (aW h1 hD (fun z=>nomatch z)) h1,k _ _ cb (aW h2 hD (fun z=>nomatch z)) h2,cb⟩
variable {HL PL Ea:Addr}{aa PP TT:Nat→Addr}{cc:Nat→Nat}{mm em:Nat→Key}{kk:Nat→List Key}{p:Nat}{way:Int}
structure Ah (K:tx)(A:Adr)(H:Hp)(a f b S B D0 HL PL Ea:Addr)(kd:Kd)(ns:List Int)(ms es:List Key)(g:gOp)(n:Nat)(aa PP TT:Nat→Addr)(cc:Nat→Nat)(mm em:Nat→Key)(kk:Nat→List Key)(p:Nat)(way:Int):Prop where
 c:Cz K A H a f b S kd ns ms g n
 o:Bo H HL PL aa PP TT cc mm em kk
 sl:dG g es ms
 sd:∀i,Sd g es ms p (cc i) (mm i) (em i) (kk i)
 hE:H Ea=some (.lst (es.map kV))
 hD:∃xs,H D0=some (.dT xs)
 Db:D0≠b
 SD:S≠D0
 l29:es.length≤29
 w3:way≤3
 hs:way=3→kd.sure
 hw:way<2→kd=.pla D0 none∧b=B
 na:Na K a ns HL
 na2:Na K a ns PL
theorem Ah.same (x:Ah K A H a f b S B D0 HL PL Ea kd ns ms es g n aa PP TT cc mm em kk p way)(s:au H H'):Ah K A H' a f b S B D0 HL PL Ea kd ns ms es g n aa PP TT cc mm em kk p way:=by
 obtain⟨xs,hD⟩:=x.hD
 exact⟨x.c.kS s,x.o.ko (KO.same s),x.sl,x.sd,s _ _ x.hE,⟨xs,s _ _ hD⟩,x.Db,x.SD,x.l29,x.w3,x.hs,x.hw,x.na,x.na2⟩
theorem HY {Q:VK}(hq:∀H',Q (.bl true) H')(x:Ah K A H a f b S B D0 HL PL Ea kd ns ms es g n aa PP TT cc mm em kk p way)(hn:n+8000≤40000){W:Addr}{k:Nat}{x7 x15 x16 x17 x18 x19 x20 x21:Option V}(hk:k<2)(hW:H W=some (.lst ((aS (cc k) p).map V.int))):
  sw K A {nx:=fun _ H'=>Q .non H',rt:=Q} [some (.ref a),some (.int way),some (.ref B),some (.ref D0),some (.ref f),some (.ref Ea),some (.ref S),x7,some (.ref HL),some (.int (p:Int)),some (.ref PL),some (.int (k:Int)),some (.int (cc k:Int)),some (kV (mm k)),some (.ref W),x15,x16,x17,x18,x19,x20,x21] H:=by
 have sdk:=x.sd k
 have c29:cc k≤29:=KR sdk.cl x.l29
 have w6:(aS (cc k) p).length≤6:=ig c29
 refine ixL (j:=k) x.o.hH rfl (uU (x:=fun j=>V.ref (aa j)) hk) (ixL (j:=k) x.o.hP rfl (uU (x:=fun j=>V.ref (PP j)) hk) ⟨aF (show 1≤1000000 by decide),fun LP hLP=>⟨aF (show 3≤1000000 by decide),fun X hX=>?_⟩⟩)
 have S1:=(au.upd (o:=.lst [V.ref (PP k)]) hLP).trans (au.upd (o:=.tup [V.int way,.ref B,.ref D0]) hX)
 have e1:upd (upd H LP (.lst [V.ref (PP k)])) X (.tup [V.int way,.ref B,.ref D0]) LP=some (.lst [V.ref (PP k)]):=au.upd hX _ _ ai
 have e2:upd (upd H LP (.lst [V.ref (PP k)])) X (.tup [V.int way,.ref B,.ref D0]) X=some (.tup [V.int way,.ref B,.ref D0]):=ai
 generalize upd (upd H LP (.lst [V.ref (PP k)])) X (.tup [V.int way,.ref B,.ref D0])=H1 at*
 have x1:=x.same S1
 obtain⟨xs,hD⟩:=x1.hD
 refine⟨a,f,b,aa k,W,LP,PP k,TT k,X,B,D0,ns,kd,cc k,p,kk k,em k,mm k,way,g,n,rfl,x1.c.sq,⟨x1.c.s,by omega,sdk.c1,by omega,w6,mi _ _ _,sdk.kl,sdk.ee,sdk.hk,x1.o.pw k⟩,x1.o.ha k,S1 _ _ hW,e1,e2,x.hw,by omega,fun P' T' e' ks' kd' g' H' kD s' sub hkd w' ee' hk' kl'=>?_⟩
 obtain⟨c2,ko⟩:=x1.c.kD hD x.SD kD s'
 exact GP hq c2 (by omega) (x1.o.ko ko) hk (x.sl.mono sub) x.l29 x.w3 (fun e=>by rw[hkd (by omega)];exact x.hs e) (fun i=>(x.sd i).mono sub) (by rw[kl',sdk.kl]) hk' ee' w' (ko.lst x1.hE) (ko.lst (S1 _ _ hW)) x.na x.na2
theorem Hu {Q:VK}(hq:∀H',Q (.bl true) H')(x:Ah K A H a f b S B D0 HL PL Ea kd ns ms es g n aa PP TT cc mm em kk p way)(hn:n+9000≤40000){x7 x11 x12 x13 x14 x15 x16 x17 x18 x19 x20 x21:Option V}:
  se K A {nx:=fun _ H'=>Q .non H',rt:=Q} [some (.ref a),some (.int way),some (.ref B),some (.ref D0),some (.ref f),some (.ref Ea),some (.ref S),x7,some (.ref HL),some (.int (p:Int)),some (.ref PL),x11,x12,x13,x14,x15,x16,x17,x18,x19,x20,x21] H:=by
 have c29:∀i,cc i≤29:=fun i=>KR (x.sd i).cl x.l29
 have c60:∀i,cc i<2^60:=fun i=>by have:=c29 i;omega
 have k6:∀i,(kk i).length≤500:=fun i=>by rw[(x.sd i).kl];exact KR (ig (c29 i)) (by decide)
 refine ixL (j:=0) x.o.hH rfl rfl (ixL (j:=1) x.o.hH rfl rfl (ixL (j:=0) x.o.hP rfl rfl (ixL (j:=1) x.o.hP rfl rfl ⟨aF (show 5≤1000000 by decide),fun X hX=>?_⟩)))
 have S1:=au.upd (o:=.tup [V.ref (aa 0),.ref (aa 1),.int (p:Int),.ref (PP 0),.ref (PP 1)]) hX
 have e1:upd H X (.tup [V.ref (aa 0),.ref (aa 1),.int (p:Int),.ref (PP 0),.ref (PP 1)]) X=some (.tup [V.ref (aa 0),.ref (aa 1),.int (p:Int),.ref (PP 0),.ref (PP 1)]):=ai
 generalize upd H X (.tup [V.ref (aa 0),.ref (aa 1),.int (p:Int),.ref (PP 0),.ref (PP 1)])=H1 at*
 have x1:=x.same S1
 have ld:dO ms g (.tup [hdD (cc 0) (mm 0),hdD (cc 1) (mm 1),.int (p:Int),ppD (em 0) (kk 0),ppD (em 1) (kk 1)]) false:=by
  have:=sA ((x.sd 0).seal x.sl x.l29) ((x.sd 1).seal x.sl x.l29) (c60 0) (c60 1) ((x.sd 0).okm x.sl) ((x.sd 1).okm x.sl) (gY (k6 0)) (gY (k6 1)) ((x.sd 0).ent x.sl x.l29) ((x.sd 1).ent x.sl x.l29)
  have e:em 0=em 1:=KL ((x.sd 0).he.symm.trans (x.sd 1).he)
  have:neO (some (em 0)) (some (em 1))=false:=by rw[e];show(!decide (em 1=em 1))=false;rw[decide_eq_true rfl];rfl
  rename_i h;rw[this]at h;exact h
 dsimp only[am]
 refine lG (K:=K) x1.c.s (by omega) x1.c.tb x1.c.hS (sN e1 (x1.o.ha 0) (x1.o.ha 1) (x1.o.pw 0) (x1.o.pw 1)) ld fun g2 H2 kT t2 s2 sub2=>?_
 obtain⟨c2,ko⟩:=x1.c.kT kT t2 s2
 obtain⟨xs,hD⟩:=x1.hD
 obtain⟨ps,tp⟩:=x1.c.tb.at
 have x2:Ah K A H2 a f b S B D0 HL PL Ea kd ns ms es g2 (n+142) aa PP TT cc mm em kk p way:=⟨c2,x1.o.ko ko,x.sl.mono sub2,fun i=>(x.sd i).mono sub2,ko.lst x1.hE,⟨xs,kT _ _ x.Db (aW hD tp (fun z=>nomatch z)) hD⟩,x.Db,x.SD,x.l29,x.w3,x.hs,x.hw,x.na,x.na2⟩
 refine Sel.no rfl ⟨a,ns,5,rfl,x2.c.sq,by decide,fun z=>⟨by decide,?_⟩⟩
 have r0:0≤z%2:=by omega
 have r1:z%2<2:=by omega
 obtain⟨k,hk⟩:=Mp r0
 show sU K A {nx:=fun _ H'=>Q .non H',rt:=Q} [some (.ref a),some (.int way),some (.ref B),some (.ref D0),some (.ref f),some (.ref Ea),some (.ref S),x7,some (.ref HL),some (.int (p:Int)),some (.ref PL),some (.int (z%2)),x12,x13,x14,x15,x16,x17,x18,x19,x20,x21] H2
 rw[hk]at r1⊢
 have hk2:k<2:=by omega
 refine ixL (j:=k) x2.o.hH rfl (uU (x:=fun j=>V.ref (aa j)) hk2) ⟨aa k,_,rfl,SqT.of (x2.o.ha k),rfl,_,_,rfl,_,_,rfl,rfl,?_⟩
 refine⟨p,cc k,rfl,(x.sd k).lt,by have:=c60 k;omega,fun W hW=>?_⟩
 exact HY hq (x2.same (au.upd hW)) (by omega) hk2 ai
end
section
variable {K:tx}{mg:Str→Option Gt}{A:Adr}
variable {H H':Hp}{a f b S B D0:Addr}{kd kd':Kd}{ns:List Int}{ms es:List Key}{g g':gOp}{n n':Nat}
theorem sm:∀{ms:List Key}{i j:Nat}{m:Key},ms[j]? =some m→(ef i ms)[j]? =some ([.inl ((i+j+1:Nat):Int),m],.bl true)
 |x::r,i,0,m,h=>by
  have h:x=m:=by simpa using h
  subst h;rfl
 |x::r,i,j+1,m,h=>by
  have:=sm (ms:=r) (i:=i+1) (j:=j) (m:=m) (by simpa using h)
  show(ef (i+1) r)[j]? =_
  rw[this,show i+1+j+1=i+(j+1)+1 by omega]
abbrev two {α:Type}(x y:α):Nat→α:=st2 (fun _=>y) 0 x
structure Bf (K:tx)(A:Adr)(H:Hp)(a f b S B D0 Ea x L D:Addr)(kd:Kd)(ns:List Int)(ms es:List Key)(kvs:List (List Key×Key))(g:gOp)(n:Nat)(way:Int):Prop where
 c:Cz K A H a f b S kd ns ms g n
 r:bY A H x f L D b kd es kvs g n
 sl:dG g es ms
 hE:H Ea=some (.lst (es.map kV))
 hD:∃xs,H D0=some (.dT xs)
 Db:D0≠b
 SD:S≠D0
 SR:S≠D
 DR:D0≠D
 l1:1≤es.length
 l29:es.length≤29
 w3:way≤3
 hs:way=3→kd.sure
 hw:way<2→kd=.pla D0 none∧b=B
variable {Ea x L D:Addr}{kvs kvs':List (List Key×Key)}{way:Int}
theorem Bf.same (y:Bf K A H a f b S B D0 Ea x L D kd ns ms es kvs g n way)(s:au H H'):Bf K A H' a f b S B D0 Ea x L D kd ns ms es kvs g n way:=by
 obtain⟨xs,hD⟩:=y.hD
 exact⟨y.c.kS s,y.r.same s (KA _),y.sl,s _ _ y.hE,⟨xs,s _ _ hD⟩,y.Db,y.SD,y.SR,y.DR,y.l1,y.l29,y.w3,y.hs,y.hw⟩
theorem Bf.k2 (y:Bf K A H a f b S B D0 Ea x L D kd ns ms es kvs g n way)(k:bS b D H H')(r:bY A H' x f L D b kd es kvs' g' n')(sub:Sub g g'):Bf K A H' a f b S B D0 Ea x L D kd ns ms es kvs' g' n' way∧KO H H':=by
 obtain⟨c,ko⟩:=y.c.kD y.r.r.hd y.SR k r.s
 obtain⟨xs,hD⟩:=y.hD
 exact⟨⟨c,r,y.sl.mono sub,ko.lst y.hE,⟨xs,k _ _ y.Db y.DR hD⟩,y.Db,y.SD,y.SR,y.DR,y.l1,y.l29,y.w3,y.hs,y.hw⟩,ko⟩
theorem Bf.set (y:Bf K A H a f b S B D0 Ea x L D kd ns ms es kvs g n way){C:Addr}{xs ys:List V}(hC:H C=some (.lst xs))(LC:L≠C)(EC:Ea≠C)(na:Na K a ns C):Bf K A (upd H C (.lst ys)) a f b S B D0 Ea x L D kd ns ms es kvs g n way:=by
 obtain⟨zs,hD⟩:=y.hD
 exact⟨y.c.setL hC na,y.r.setM hC LC,y.sl,by rw[ao EC];exact y.hE,⟨zs,by rw[ao (aW hD hC (fun z=>nomatch z))];exact hD⟩,y.Db,y.SD,y.SR,y.DR,y.l1,y.l29,y.w3,y.hs,y.hw⟩
theorem Cz.na (c:Cz K A H a f b S kd ns ms g n){C:Addr}(hC:H C=none):Na K a ns C:=by
 rcases c.sq with(h|⟨o,h⟩)|h
 ·exact .inr (av h hC)
 ·exact .inr (av h hC)
 ·exact .inl fun H'=>.inr h
theorem JT {Q:VK}(hq:∀H',Q (.bl true) H')(y:Bf K A H a f b S B D0 Ea x L D kd ns ms es kvs g n way)(hn:n+10000≤40000){HL:Addr}{aa:Nat→Addr}{cc:Nat→Nat}{mm:Nat→Key}{p:Nat}{x10 x11 x12 x13 x14 x15 x16 x17 x18 x19 x20 x21:Option V}(hH:H HL=some (.lst [.ref (aa 0),.ref (aa 1)]))(ha:∀i,H (aa i)=some (.tup [.int (cc i:Int),kV (mm i)]))(lt:∀i,p<cc i)(hm:∀i,ms[cc i- 1]?=some (mm i))(na:Na K a ns HL):
  rf K A {nx:=fun _ H'=>Q .non H',rt:=Q} [some (.ref a),some (.int way),some (.ref B),some (.ref D0),some (.ref f),some (.ref Ea),some (.ref S),some (.ref x),some (.ref HL),some (.int (p:Int)),x10,x11,x12,x13,x14,x15,x16,x17,x18,x19,x20,x21] H:=by
 have cl:∀i,cc i≤es.length:=fun i=>by
  have h1:=(KC.mp (hm i)).1
  have h2:=y.sl.l
  have h3:=lt i
  omega
 refine⟨HL,rfl,.inl ⟨⟨_,SqL.of hH⟩,fun C hC=>?_⟩⟩
 have naC:=y.c.na hC
 have LC:L≠C:=av y.r.r.hl hC
 have EC:Ea≠C:=av y.hE hC
 have HC:HL≠C:=av hH hC
 refine fS (dc.list (xs:=[V.ref (aa 0),.ref (aa 1)]) .non) (fun i ys H'=>∃(qs:List (Addr×Addr×Key×List Key))(kvs':List (List Key×Key))(g':gOp),ys=qs.map (fun q=>V.ref q.1)∧qs.length=i∧(∀(j:Nat) q,qs[j]?=some q→bL H' q.1 q.2.1 q.2.2.1 q.2.2.2∧Sd g' es ms p (cc j) (mm j) q.2.2.1 q.2.2.2)∧H' C=some (.lst ys)∧Bf K A H' a f b S B D0 Ea x L D kd ns ms es kvs' g' (n+200*i) way∧H' HL=some (.lst [.ref (aa 0),.ref (aa 1)])∧∀i,H' (aa i)=some (.tup [.int (cc i:Int),kV (mm i)]))
  (fun i ys H' _ h=>?_) ⟨[],kvs,g,rfl,rfl,(fun j q h=>by simp at h),ai,y.same (au.upd hC),au.upd hC _ _ hH,fun i=>au.upd hC _ _ (ha i)⟩ (fun i ys H2 hi h=>?_) (fun ys H2 h=>?_)
 ·obtain⟨_,_,_,_,_,_,_,_,h,_⟩:=h
  exact SqL.of h
 ·obtain⟨qs,kvs2,g2,e1,e2,e3,e4,y2,hH2,ha2⟩:=h
  have hi:i<2:=hi
  have eg:[V.ref (aa 0),.ref (aa 1)].getD i .non=.ref (aa i):=by
   have:i=0∨i=1:=by omega
   rcases this with rfl|rfl<;>rfl
  rw[eg]
  obtain⟨dx,hx⟩:=y2.r.r.ob
  refine lN ⟨x,dx,_,rfl,hx,rfl,ixT (j:=0) (ha2 i) rfl rfl ⟨x,f,L,D,b,kd,es,kvs2,g2,_,cc i,p,rfl,y2.r,cl i,lt i,by omega,fun P T e ks kvs3 g3 H3 k3 r3 sub3 w he kl hk lad hPn hTn=>?_⟩⟩
  obtain⟨y3,ko⟩:=y2.k2 k3 r3 sub3
  have hC3:=ko.lst e4
  refine⟨hC3,by rw[e1,Kz,e2];exact bK (by omega),CWd.next hi ⟨qs++[(P,T,e,ks)],kvs3,g3,by rw[e1,Lc];rfl,by rw[KI,e2];rfl,fun j q hj=>?_,ai,?_,by rw[ao HC];exact ko.lst hH2,fun i=>dN hC3 (ko.tup (ha2 i))⟩⟩
  ·rcases MV j qs.length with hlt|hge
   ·rw[LN hlt]at hj
    obtain⟨w1,s1⟩:=e3 j q hj
    exact⟨⟨dN hC3 (ko.tup w1.hP),dN hC3 (ko.tup w1.hT)⟩,s1.mono sub3⟩
   ·have hj':=(KC.mp hj).1
    rw[KI]at hj'
    have ej:j=qs.length:=by have hj':j<qs.length+1:=hj';omega
    rw[ej,LU (KA _),Pz]at hj
    obtain rfl:(P,T,e,ks)=q:=by simpa using hj
    rw[ej,e2]
    have:=lt i
    exact⟨⟨dN hC3 w.hP,dN hC3 w.hT⟩,⟨by omega,cl i,hm i,lt i,kl,hk,he,y3.r.r.en e (KM he),lad⟩⟩
  ·have:=y3.set (ys:=ys++[V.ref P]) hC3 LC EC naC
   exact⟨this.c.sub (by omega),this.r.same (.refl _) (by omega),this.sl,this.hE,this.hD,this.Db,this.SD,this.SR,this.DR,this.l1,this.l29,this.w3,this.hs,this.hw⟩
 ·obtain⟨qs,kvs2,g2,e1,e2,e3,e4,y2,hH2,ha2⟩:=h
  obtain⟨q0,q1,rfl⟩:∃q0 q1,qs=[q0,q1]:=by
   match qs,e2 with
   |[q0,q1],_=>exact⟨q0,q1,rfl⟩
  have f3:∀i,bL H2 (two q0.1 q1.1 i) (two q0.2.1 q1.2.1 i) (two q0.2.2.1 q1.2.2.1 i) (two q0.2.2.2 q1.2.2.2 i)∧Sd g2 es ms p (cc (two 0 1 i)) (mm (two 0 1 i)) (two q0.2.2.1 q1.2.2.1 i) (two q0.2.2.2 q1.2.2.2 i):=fun i=>by
   by_cases h:i=0
   ·subst h;exact e3 0 q0 rfl
   ·unfold two;rw[bQ h,bQ h,bQ h,bQ h,bQ h];exact e3 1 q1 rfl
  subst e1
  exact Hu hq (aa:=fun i=>aa (two 0 1 i)) (cc:=fun i=>cc (two 0 1 i)) (mm:=fun i=>mm (two 0 1 i)) (PP:=two q0.1 q1.1) (TT:=two q0.2.1 q1.2.1) (em:=two q0.2.2.1 q1.2.2.1) (kk:=two q0.2.2.2 q1.2.2.2)
   ⟨y2.c,⟨hH2,e4,fun i=>ha2 _,fun i=>(f3 i).1,Lg HC⟩,y2.sl,fun i=>(f3 i).2,y2.hE,y2.hD,y2.Db,y2.SD,y2.l29,y2.w3,y2.hs,y2.hw,na,naC⟩ (by show n+200*2+9000≤40000;omega)
theorem Ka {Q:VK}(hq:∀H',Q (.bl true) H')(y:Bf K A H a f b S B D0 Ea x L D kd ns ms es kvs g n way)(hn:n+10000≤40000){x8 x9 x10 x11 x12 x13 x14 x15 x16 x17 x18 x19 x20 x21:Option V}:
  wo K A {nx:=fun _ H'=>Q .non H',rt:=Q} [some (.ref a),some (.int way),some (.ref B),some (.ref D0),some (.ref f),some (.ref Ea),some (.ref S),some (.ref x),x8,x9,x10,x11,x12,x13,x14,x15,x16,x17,x18,x19,x20,x21] H:=by
 refine⟨2,4,rfl,⟨by decide,by decide,by decide,by decide⟩,fun C hC=>?_⟩
 have naC:=y.c.na hC
 have ml:=y.sl.l
 refine fS (dc.range (lo:=2) (n:=2)) (fun i ys H'=>∃qs:List (Addr×Nat×Key),ys=qs.map (fun q=>V.ref q.1)∧qs.length=i∧(∀(j:Nat) q,qs[j]?=some q→H' q.1=some (.tup [.int (q.2.1:Int),kV q.2.2])∧1≤q.2.1∧ms[q.2.1- 1]?=some q.2.2)∧H' C=some (.lst ys)∧au H H')
  (fun _ _ _ _ _=>trivial) ⟨[],rfl,rfl,(fun j q h=>by simp at h),ai,au.upd hC⟩ (fun i ys H2 hi h=>?_) (fun ys H2 h=>?_)
 ·obtain⟨qs,e1,e2,e3,e4,S2⟩:=h
  have y2:=y.same S2
  refine lN (.inr ⟨S,_,rfl,y2.c.hS,fun l ps hl lp hps=>?_⟩)
  have S3:=au.upd (o:=.lst (ps.map V.ref)) hl
  have hl3:upd H2 l (.lst (ps.map V.ref)) l=some (.lst (ps.map V.ref)):=ai
  generalize upd H2 l (.lst (ps.map V.ref))=H3 at*
  have y3:=y2.same S3
  refine⟨a,ns,_,rfl,y3.c.sq,by omega,fun z=>.inl (.inl ⟨_,SqL.of y3.hE,?_⟩)⟩
  rw[Kz]
  have l1:=y.l1
  refine⟨by omega,?_⟩
  have r0:=NE z (b:=(es.length:Int)) (by omega)
  have r1:=MX z (b:=(es.length:Int)) (by omega)
  obtain⟨j,hj⟩:=Mp r0
  rw[hj]at r1⊢
  have jm:j<ms.length:=by omega
  have gm:=KB jm
  have jp:j<ps.length:=by rw[lp,mY];exact jm
  have gp:=KB jp
  have hq3:=S3 _ _ (hps j _ _ gp (sm (i:=0) gm))
  refine ixL (j:=j) hl3 rfl (by rw[La,gp];rfl) ⟨S3 _ _ e4,by rw[e1,Kz,e2];exact bK (by omega),CWd.next hi ⟨qs++[(ps[j],j+1,ms[j])],by rw[e1,Lc];rfl,by rw[KI,e2];rfl,fun j' q hj'=>?_,ai,fun z o e=>by rw[ao (av e hC)];exact S3 _ _ (S2 _ _ e)⟩⟩
  have hC3:=S3 _ _ e4
  rcases MV j' qs.length with hlt|hge
  ·rw[LN hlt]at hj'
   obtain⟨w1,s1⟩:=e3 j' q hj'
   exact⟨dN hC3 (S3 _ _ w1),s1⟩
  ·have hl':=(KC.mp hj').1
   rw[KI]at hl'
   have ej:j'=qs.length:=by have hl':j'<qs.length+1:=hl';omega
   rw[ej,LU (KA _),Pz]at hj'
   obtain rfl:(ps[j],j+1,ms[j])=q:=by simpa using hj'
   refine⟨dN hC3 ?_,by show 1≤j+1;omega,gm⟩
   rw[hq3,Nat.zero_add];rfl
 ·obtain⟨qs,e1,e2,e3,e4,S2⟩:=h
  obtain⟨q0,q1,rfl⟩:∃q0 q1,qs=[q0,q1]:=by
   match qs,e2 with
   |[q0,q1],_=>exact⟨q0,q1,rfl⟩
  subst e1
  have y2:=y.same S2
  obtain⟨h0,c0,m0⟩:=e3 0 q0 rfl
  obtain⟨h1,c1,m1⟩:=e3 1 q1 rfl
  have ha:∀i,H2 (two q0.1 q1.1 i)=some (.tup [.int ((two q0.2.1 q1.2.1 i:Nat):Int),kV (two q0.2.2 q1.2.2 i)]):=fun i=>by
   by_cases h:i=0
   ·subst h;exact h0
   ·unfold two;rw[bQ h,bQ h,bQ h];exact h1
  have hm:∀i,ms[two q0.2.1 q1.2.1 i- 1]?=some (two q0.2.2 q1.2.2 i):=fun i=>by
   by_cases h:i=0
   ·subst h;exact m0
   ·unfold two;rw[bQ h,bQ h];exact m1
  refine⟨a,ns,4,rfl,y2.c.sq,by decide,fun z=>ixL (j:=0) e4 rfl rfl (ixT (j:=0) h0 rfl rfl (ixL (j:=1) e4 rfl rfl (ixT (j:=0) h1 rfl rfl ⟨?_,?_⟩)))⟩
  ·split<;>omega
  have mp:0<(if (q1.2.1:Int)<(q0.2.1:Int)then(q1.2.1:Int)else(q0.2.1:Int)):=by split<;>omega
  have r0:=NE z (b:=(if (q1.2.1:Int)<(q0.2.1:Int)then(q1.2.1:Int)else(q0.2.1:Int))) (by omega)
  have r1:=MX z mp
  obtain⟨p,hp⟩:=Mp r0
  show rf K A {nx:=fun _ H'=>Q .non H',rt:=Q} [some (.ref a),some (.int way),some (.ref B),some (.ref D0),some (.ref f),some (.ref Ea),some (.ref S),some (.ref x),some (.ref C),some (.int (z%(if (q1.2.1:Int)<(q0.2.1:Int)then(q1.2.1:Int)else(q0.2.1:Int)))),x10,x11,x12,x13,x14,x15,x16,x17,x18,x19,x20,x21] H2
  rw[hp]at r1⊢
  have lt:∀i,p<two q0.2.1 q1.2.1 i:=fun i=>by
   by_cases h:i=0
   ·subst h;show p<q0.2.1;split at r1<;>omega
   ·unfold two;rw[bQ h];show p<q1.2.1;split at r1<;>omega
  exact JT (aa:=two q0.1 q1.1) (cc:=two q0.2.1 q1.2.1) (mm:=two q0.2.2 q1.2.2) hq y2 hn e4 ha lt hm naC
end
theorem GF (ns:List Int):∃zs:List Int,eT (ns.map V.int) (some 12) (some 40)=zs.map V.int∧zs.length≤28:=by
 refine⟨(ns.drop (HT.sIx ns.length 0 (some 12))).take (HT.sIx ns.length ns.length (some 40)- HT.sIx ns.length 0 (some 12)),?_,?_⟩
 ·unfold eT
  rw[Kz,Ux,Uy]
 ·have h1:=HT.la ns.length 0 12
  have h2:=HT.la ns.length ns.length 40
  rw[Lf,show(some 12:Option Int)=some ((12:Nat):Int)from rfl,show(some 40:Option Int)=some ((40:Nat):Int)from rfl,h1,h2];omega
theorem Bx (K:tx)(A:Adr):Ln (qb K A) 1:=by rintro vs H Q E ⟨a,ns,rfl,_⟩;rfl
theorem HI (T:Txt K mg A):Rd (qb K A) (Kl K A) ["_law_script","_law_way_here","_law_known","_law_alias","_law_stamper_here","_law_entries","_law_sealed","_law_row_here","_law_heads","_law_place","_law_papers","_law_k","_law_count","_law_mark","_law_turns","_law_other","_law_came","_law_due","_law_terms","_law_thing","_law_one","_law_found"]:=by
 intro vs H Q E h
 obtain⟨a,ns,rfl,hs,l63,⟨tw,twr,tc,tp,tsh,nd⟩,q⟩:=h
 have hsq:∀H',(∀o,H a=some o→(∀ps,o≠.tbl ps)→H' a=some o)→SqL K H' a (ns.map V.int):=by
  intro H' k
  rcases hs with(h|⟨o,h⟩)|h
  ·exact .inl (.inl (k _ h (fun _ z=>nomatch z)))
  ·exact .inl (.inr ⟨o,k _ h (fun _ z=>nomatch z)⟩)
  ·exact .inr h
 refine⟨a,ns,0,rfl,hs,by decide,fun z0=>⟨by decide,.inr fun B hB=>.inr fun D0 hD=>?_⟩⟩
 have SB:au H (upd (upd H B (.dT [])) D0 (.dT [])):=(au.upd hB).trans (au.upd hD)
 have BD:B≠D0:=Lg (bO hD).1
 have hB1:upd (upd H B (.dT [])) D0 (.dT []) B=some (.dT []):=au.upd hD _ _ ai
 have hD1:upd (upd H B (.dT [])) D0 (.dT []) D0=some (.dT []):=ai
 generalize upd (upd H B (.dT [])) D0 (.dT [])=H1 at SB hB1 hD1
 have w0:0≤z0%4:=by omega
 have w3:z0%4≤3:=by omega
 generalize z0%4=w at w0 w3
 refine⟨a,ns,0,rfl,hsq H1 fun o h _=>SB _ _ h,by decide,fun z0'=>⟨⟨by decide,by decide⟩,?_⟩⟩
 refine⟨w,_,B,D0,rfl,⟨SB _ _ tw,SB _ _ twr,SB _ _ tc,SB _ _ tp,SB _ _ tsh,nd⟩,hB1,hD1,BD,w0,w3,fun f b kd g H2 kn tsh2 s hb hsu hpla=>?_⟩
 have ka2:∀o,H a=some o→(∀ps,o≠.tbl ps)→H2 a=some o:=fun o h nt=>kn _ _ (SB _ _ h) nt
 have sq2:=hsq H2 ka2
 have hD2:=kn _ _ hD1 (fun _ z=>nomatch z)
 have Db:D0≠b:=by
  rcases hb with rfl|hb
  ·exact Lg BD
  ·exact av hD1 hb
 clear hsq ka2 kn SB hB1 hD1
 obtain⟨zs,ez,lz⟩:=GF ns
 refine⟨a,ns,1,rfl,sq2,by decide,fun z1=>⟨aF (show 1≤1000000 by decide),fun p1 hp1=>?_⟩⟩
 have S3:=au.upd (o:=.lst [V.int z1]) hp1
 have e3:upd H2 p1 (.lst [V.int z1]) p1=some (.lst [V.int z1]):=ai
 generalize upd H2 p1 (.lst [V.int z1])=H3 at*
 refine⟨12,rfl,40,rfl,.inl (.inl ⟨a,_,rfl,S3.seq sq2,fun p2 hp2=>?_⟩)⟩
 rw[ez]
 have S4:=au.upd (o:=.lst (zs.map V.int)) hp2
 have e4:upd H3 p2 (.lst (zs.map V.int)) p2=some (.lst (zs.map V.int)):=ai
 generalize upd H3 p2 (.lst (zs.map V.int))=H4 at*
 refine .inl ⟨p1,p2,_,_,rfl,rfl,S4 _ _ e3,e4,aF (by rw[Kz];show 1+_≤_;omega),fun p3 hp3=>?_⟩
 have ec:[V.int z1]++zs.map V.int=(z1::zs).map V.int:=rfl
 rw[ec]
 have S5:=au.upd (o:=.lst ((z1::zs).map V.int)) hp3
 have e5:upd H4 p3 (.lst ((z1::zs).map V.int)) p3=some (.lst ((z1::zs).map V.int)):=ai
 generalize upd H4 p3 (.lst ((z1::zs).map V.int))=H5 at*
 have lz1:(z1::zs).length≤29:=by show zs.length+1≤29;omega
 have lz2:1≤(z1::zs).length:=by show 1≤zs.length+1;omega
 generalize z1::zs=ys at*
 refine⟨p3,rfl,.inl ⟨⟨_,SqL.of e5⟩,fun Ea hEa=>?_⟩⟩
 refine fS (dc.list (xs:=ys.map V.int) .non) (fun i ys H'=>∃es:List Key,ys=es.map kV∧es.length=i∧(∀e∈es,enK e)∧H' Ea=some (.lst ys)∧au H5 H')
  (fun i ys H' _ h=>?_) ⟨[],rfl,rfl,(fun _ h=>nomatch h),ai,au.upd hEa⟩ (fun i xs H6 hi h=>?_) (fun xs H6 h=>?_)
 ·obtain⟨_,_,_,_,_,S⟩:=h
  exact SqL.of (S _ _ e5)
 ·obtain⟨es,e1,e2,e3,e4,S⟩:=h
  have hi':i<ys.length:=by rw[Kz]at hi;exact hi
  have hg:(ys.map V.int).getD i .non=.int ys[i]:=by rw[Lb,La,KB hi'];rfl
  rw[hg]
  refine lN ⟨_,rfl,fun e H7 S7 en=>⟨S7 _ _ e4,?_,CWd.next hi ⟨es++[e],by rw[e1,Lc];rfl,by rw[KI,e2];rfl,fun x hx=>?_,ai,fun z o h=>?_⟩⟩⟩
  ·rw[e1,Kz,e2];exact bK (by omega)
  ·rcases LY.mp hx with h|h
   ·exact e3 x h
   ·rw[KW.mp h];exact en
  ·rw[ao (av h hEa)];exact S7 _ _ (S _ _ h)
 obtain⟨es,rfl,l1,en,hE,S6⟩:=h
 rw[Kz]at l1
 have SS:au H2 H6:=S3.trans (S4.trans (S5.trans S6))
 refine .inr fun S hS=>?_
 have S7:=au.upd (o:=.dT []) hS
 have e7:upd H6 S (.dT []) S=some (.dT []):=ai
 have Sb:S≠b:=by
  rcases(s.same (KA 0) SS).bb with⟨φ,e⟩|⟨kvs,e⟩
  ·exact Lg (av e hS)
  ·exact Lg (av e hS)
 have SD:S≠D0:=Lg (av (SS _ _ hD2) hS)
 generalize upd H6 S (.dT [])=H7 at*
 have S8:=SS.trans S7
 have s7:=s.same (KA 0) S8
 have Sa:∀A0 al,kd=.pla A0 al→S≠A0:=fun A0 al e z=>by
  subst e
  have s6:=s.same (KA 0) SS
  cases s6 with
  |wri _ _ _ ed=>cases ed
  |cnt _ _ _ _ _ _ _ _ _ ed=>cases ed
  |wea _ _ _ _ _ _ _ ed=>cases ed
  |pla q0 q1 q2 A1 j j0 j1 kvs al' hc hb ha bD hl hs st hg ed=>
   cases ed
   obtain⟨kk,hk⟩:=ha.dict
   rw[←z,hS]at hk;cases hk
 have hE7:=S7 _ _ hE
 refine⟨f,b,Ea,S,kd,es,g,rfl,s7,hE7,en,by omega,e7,Sb,Sa,fun x L D kvs ms g' H' ks r sub hS' sl hDn=>?_⟩
 have nb:∀{z:Addr}{o:HO},H7 z=some o→(∀φ,o≠.ext φ)→(∀kvs,o≠.dT kvs)→H' z=some o:=fun e h1 h2=>ks _ _ (s7.nb e h1 h2) (aW e e7 (h2 _)) e
 have sq7:=S8.seq sq2
 refine Ka q (ns:=ns) (kvs:=kvs) (L:=L) (D:=D) (es:=es) (ms:=ms) (g:=g') (n:=6000) (kd:=kd) (b:=b) ⟨⟨r.s,?_,hS',Sb,.inl (nb (S8 _ _ tsh2) (fun _ z=>nomatch z) (fun _ z=>nomatch z))⟩,r,sl,nb hE7 (fun _ z=>nomatch z) (fun _ z=>nomatch z),⟨[],ks _ _ Db (Lg SD) (S8 _ _ hD2)⟩,Db,SD,av e7 hDn,av (S8 _ _ hD2) hDn,by omega,by omega,w3,hsu,hpla⟩ (by decide)
 rcases sq7 with(h|⟨o,h⟩)|h
 ·exact .inl (.inl (nb h (fun _ z=>nomatch z) (fun _ z=>nomatch z)))
 ·exact .inl (.inr ⟨o,nb h (fun _ z=>nomatch z) (fun _ z=>nomatch z)⟩)
 ·exact .inr h
section
structure TP (P:KS)(w:LI)(K:tx)(mg:Str→Option Gt)(base:Heap)(A:Adr):Prop extends Txt K mg A where
 B:BM mg base
 C_29:Ny base A.k_29 A.t_29
 C_55:Ny base A.k_55 A.t_55
 C_34:Ny base A.k_34 A.t_34
 C_20:Ny base A.k_20 A.t_20
 C_23:Ny base A.k_23 A.t_23
variable {P:KS}{w:LI}{K:tx}{mg:Str→Option Gt}{base:Heap}{A:Adr}(T:TP P w K mg base A)
include T
theorem mf:aL P w K mg base (CX1 P w) 1 A.a_46 A.d_46 ["thing"] (iz K A):=
 T.f_46.f.okS GW (BS K A) (HE T.1) fun _ _ _ _ _ _ hr=>
 ar (aE (cM (aR fH T.z_isinstance Me (ae (ac 0) (ae (fU T.z_int boot_int) (aj)))) (dU (Hf (aR fH T.z_isinstance Me (ae (ac 0) (ae (fU T.z_bool boot_bool) (aj))))))))
theorem mz:aL P w K mg base (CX1 P w) 2 A.a_44 A.d_44 ["thing"] (iE K A):=
 T.f_44.f.okS Fb (Cd K A) (FG T.1) fun _ _ _ _ _ _ hr=>
 ap (aZ (bW (aQ (mf T) hr.le T.f_46 (ae (ac 0) (aj)))) (ar (aE (li oLe oLt (aq) (ac 0) (aI tD (aq) (aq))))) (aV)) (ar (aE (aR fH T.z_isinstance Me (ae (ac 0) (ae (fU T.z_str SW) (aj))))))
theorem zQ:aL P w K mg base (CX1 P w) 3 A.a_45 A.d_45 ["thing"] (mL K A):=
 T.f_45.f.okS Hh (DY K A) (FP T.1) fun _ _ _ _ _ _ hr=>
 ap (aZ (cI (bW (aR fH T.z_isinstance Me (ae (ac 0) (ae (fU T.z_tuple Pj) (aj)))))) (ar (aE (eR))) (aV)) (ap (aZ (cI (xR oLe oLe (aq) (aR cA T.z_len Lk (ae (ac 0) (aj))) (Km T.c_MOST_PARTS))) (ar (aE (eR))) (aV)) (ar (aE (cM (aR fH T.z_isinstance Me (ae (aJ (ay hr.units1) (ac 0) (aq) (fun _ _=>rfl)) (ae (fU T.z_str SW) (aj)))) (dU (aR (Es rfl) T.z_all L2.wg (ae (jP (ys:=[]) (by exact⟨rfl,by decide+kernel,by decide+kernel,rfl,by decide+kernel,by decide+kernel⟩) (by exact .nil) (eI (ac 0)) (fun C s H fp=>ii) (fun C s H fp=>(aQ (mz T) hr.le T.f_44 (ae (ac 0) (aj))))) (aj))))))))
theorem GJ:aL P w K mg base (CX1 P w) 2 A.a_49 A.d_49 ["part"] (pC K A):=
 T.f_49.f.okS zN (Dt K A) (FX T.1) fun _ _ _ _ _ _ hr=>
 ap (aZ (bW (aQ (mf T) hr.le T.f_46 (ae (ac 0) (aj)))) (ar (aE (vI (.cons (tJ (ac 0)) (.cons (cG) (.nil)))))) (aV)) (ap (aG 1 zN.nd (aR cA T.z_len Lk (ae (ac 0) (aj)))) (ar (aE (vI (.cons (tJ (ac 1)) (.cons (cG) (.cons (tJ (ac 0)) (.nil))))))))
theorem Fy:aL P w K mg base (CX1 P w) 4 A.a_57 A.d_57 ["term"] (mB K A):=
 T.f_57.f.okS Fv (DT K A) (Gx T.1) fun _ _ _ _ _ _ hr=>
 ap (aZ (cI (bW (aQ (zQ T) hr.le T.f_45 (ae (ac 0) (aj))))) (ar (gO)) (aV)) (ar (aE (eF Rn Rz Ry sB (cG) (ae (jP (ys:=[]) (by exact⟨rfl,by decide+kernel,by decide+kernel,rfl,by decide+kernel,by decide+kernel⟩) (by exact .nil) (eI (ac 0)) (fun C s H fp=>ii) (fun C s H fp=>(aQ (GJ T) hr.le T.f_49 (ae (ac 0) (aj))))) (aj)))))
theorem GR (f c:Addr)(cl:List (Str×Addr))(Ar:Lj)(outer:List Env)(s:Ky)(H:Hp)(E:XK)
  (hr:bc 4 (Ar.deeper (Pm gb.qual gb.scope s.heap.objs.size f (.ref c) cl))):PE (gI P w K mg base ["term"] gb.qual gb.scope f c cl Ar outer s H E).nox (gS wQ) (BQ K A):=QE.out (
 aQ (Fy T) hr.le T.f_57 (ae (ac 0) (aj)))
theorem Il:fq P w K mg base 5 gb (uE K A):=
 nE rfl Gj (fun f c cl Ar outer s H vs cvs Q E hr hl hc h=>by
  obtain⟨a0,rfl⟩:=L2.dH hl
  obtain rfl:=L2.tX hc
  exact⟨_,(GR T f c cl Ar outer s H E hr).nox,Ik T.1 a0 H Q E h⟩)
theorem IJ:aL P w K mg base (CX1 P w) 4 A.a_2 A.d_2 ["self","term"] (uR K A):=
 T.f_2.okS IK (Iy K A) (Kc T.1) fun _ _ _ _ _ _ hr=>
 ap (aZ (cI (bW (aQ (zQ T) hr.le T.f_45 (ae (ac 1) (aj))))) (ar (gO)) (aV)) (ap (aZ (aX (iO hr.units150) (ac 1) (eQ (ac 0))) (ar (fL hr.units1 (eQ (ac 0)) (ac 1) (aR cA T.z_len Lk (ae (eQ (ac 0)) (aj))))) (aV)) (ar (aE (aJ (ay hr.units1) (eQ (ac 0)) (ac 1) (fun _ _=>rfl)))))
theorem Ip (f c:Addr)(cl:List (Str×Addr))(Ar:Lj)(outer:List Env)(s:Ky)(H:Hp)(E:XK)
  (hr:bc 4 (Ar.deeper (Pm gE.qual gE.scope s.heap.objs.size f (.ref c) cl))):PE (gI P w K mg base ["term","numbers"] gE.qual gE.scope f c cl Ar outer s H E).nox (gS xB) (BH K A):=QE.out (
 dg (ac 1) T.cl_Numbers T.me_Numbers_number_of (IJ T) hr.le T.b_2 bu (ae (ac 0) (aj)))
theorem Fk:fq P w K mg base 5 gE (tI K A):=
 nE rfl Ic (fun f c cl Ar outer s H vs cvs Q E hr hl hc h=>by
  obtain⟨a0,rfl⟩:=L2.dH hl
  obtain⟨b0,rfl⟩:=L2.dH hc
  exact⟨_,(Ip T f c cl Ar outer s H E hr).nox,IB T.1 a0 b0 H Q E h⟩)
theorem Hs (f c:Addr)(cl:List (Str×Addr))(Ar:Lj)(outer:List Env)(s:Ky)(H:Hp)(E:XK)
  (hr:bc 0 (Ar.deeper (Pm gL.qual gL.scope s.heap.objs.size f (.ref c) cl))):PSs (gI P w K mg base ["_law_term","_law_total","_law_part","_law_many"] gL.qual gL.scope f c cl Ar outer s H E).nox (aM yn) (EF K A):=QSs.out (
 ap (aG 1 mT.nd (aR cA T.z_len Lk (ae (ac 0) (aj)))) (ap (jk 2 mT.nd (eI (ac 0)) (ar (aZ (bW (aR fH T.z_isinstance Me (ae (ac 2) (ae (fU T.z_str SW) (aj))))) (ar (aG 1 mT.nd (aI bM (aI pJ (aq) (ac 1)) (aR cA T.z_len Lk (ae (ac 2) (aj)))))) (ar (aG 1 mT.nd (aI bM (aI pJ (aq) (ac 1)) (ac 2)))))) MI) (ar (aE (aI dk (ac 1) (ac 3))))))
theorem Hv:fq P w K mg base 1 gL (uT K A):=
 wJ rfl mT (fun f c cl Ar outer s H vs cvs Q E hr hl hc h=>by
  obtain⟨a0,rfl⟩:=L2.dH hl
  obtain⟨b0,rfl⟩:=L2.dH hc
  exact⟨_,(Hs T f c cl Ar outer s H E hr).nox,GT T.1 a0 b0 H Q E h⟩)
theorem Fc (f c:Addr)(cl:List (Str×Addr))(Ar:Lj)(outer:List Env)(s:Ky)(H:Hp)(E:XK)
  (hr:bc 0 (Ar.deeper (Pm gM.qual gM.scope s.heap.objs.size f (.ref c) cl))):PSs (gI P w K mg base ["_law_term","_law_step","_law_known","_law_alias"] gM.qual gM.scope f c cl Ar outer s H E).nox (aM xQ) (Ct K A):=QSs.out (
 ar (aE (eF OM Mi Qo (oy hr.units1) (ac 2) (ae (eF OM OW PySem.F.type_dict_get (AM hr.units1) (ac 3) (ae (ac 0) (ae (ac 0) (aj)))) (ae (aI bM (aI pJ (ac 1) (aR cA T.z_len Lk (ae (ac 2) (aj)))) (aq)) (aj))))))
theorem GI:fq P w K mg base 1 gM (tz K A):=
 wJ rfl EV (fun f c cl Ar outer s H vs cvs Q E hr hl hc h=>by
  obtain⟨a0,rfl⟩:=L2.dH hl
  obtain⟨b0,b1,b2,rfl⟩:=L2.uA hc
  exact⟨_,(Fc T f c cl Ar outer s H E hr).nox,Gn T.1 a0 b0 b1 b2 H Q E h⟩)
theorem Hl (f c:Addr)(cl:List (Str×Addr))(Ar:Lj)(outer:List Env)(s:Ky)(H:Hp)(E:XK)
  (hr:bc 0 (Ar.deeper (Pm cZ.qual cZ.scope s.heap.objs.size f (.ref c) cl))):PE (gI P w K mg base ["_law_head","_law_sealed"] cZ.qual cZ.scope f c cl Ar outer s H E).nox (gS yb) (Cs K A):=QE.out (
 dS (IZ hr.units150) (ac 0) (ac 1))
theorem EZ:fq P w K mg base 1 cZ (tK K A):=
 nE rfl GO (fun f c cl Ar outer s H vs cvs Q E hr hl hc h=>by
  obtain⟨a0,rfl⟩:=L2.dH hl
  obtain⟨b0,rfl⟩:=L2.dH hc
  exact⟨_,(Hl T f c cl Ar outer s H E hr).nox,GD T.1 a0 b0 H Q E h⟩)
theorem gK:aL P w K mg base (CX1 P w) 1 A.a_12 A.d_12 ["_law_script","_law_k"] (eO K A):=
 T.f_12.f.okS GY (DZ K A) (FO T.1) fun _ _ _ _ _ _ hr=>
 ap (aZ (aX oLt (ac 1) (aR cA T.z_len Lk (ae (ac 0) (aj)))) (ar (aE (aJ (ay hr.units1) (ac 0) (ac 1) (fun _ _=>rfl)))) (aV)) (ar (aE (aq)))
theorem GL (B:BM mg base)(C:Ny base A.k_29 A.t_29)(Ar:Lj)(outer:List Env)(s:Ky)(H:Hp)(E:XK)
  (hr:bc 0 (Ar.deeper (envOfC "_law_weak" (ak lx) s.heap.objs.size A.a_29 (.ref A.k_29)))):QMs (cw (CX1 P w) P w K mg base ["_law_many","_law_stamp"] "_law_weak" (ak lx) A.a_29 (.ref A.k_29) Ar outer s H E).nox (aM lx) (DI K A (s.heap.objs.size+1)):=(
 rh (qz (zG 1 zF.nd B C rfl (by rfl) (by simp<;>omega) rfl rfl rfl rfl (fun _ _ _ _ _ us hl=>by obtain⟨_,rfl⟩:=L2.dH hl;rfl))) (pW (qe (ac 1))))
theorem Hj:aL P w K mg base (CX1 P w) 1 A.a_29 A.d_29 ["_law_many"] (pN K A):=
 T.f_29.f.okM (caps:=fun L=>[(0,L+1)]) T.kc_29 zF (CY K A) (fun L p hp=>by simp only[KY,Mb,or_false]at hp;rcases hp with rfl<;>exact⟨_,rfl,rfl,rfl⟩) (fun L=>by simp) (fun Ar outer s H vs Q E hr h=>⟨_,QMs.nox (GL T T.B T.C_29 Ar outer s H E hr),HS T.1 (s.heap.objs.size+1) (by simp) vs H Q E h⟩)
theorem GB (B:BM mg base)(C:Ny base A.k_55 A.t_55)(Ar:Lj)(outer:List Env)(s:Ky)(H:Hp)(E:XK)
  (hr:bc 0 (Ar.deeper (envOfC "writing" (ak lI) s.heap.objs.size A.a_55 (.ref A.k_55)))):QMs (cw (CX1 P w) P w K mg base [] "writing" (ak lI) A.a_55 (.ref A.k_55) Ar outer s H E).nox (aM lI) (Cy K A):=(
 pW (qe (ur B C rfl (by rfl) (by simp<;>omega) rfl rfl rfl rfl (fun _ _ _ _ us hl=>by obtain⟨_,rfl⟩:=L2.dH hl;rfl))))
theorem IA:aL P w K mg base (CX1 P w) 1 A.a_55 A.d_55 [] (pX K A):=
 T.f_55.f.okM (caps:=fun L=>[]) T.kc_55 Hn (EK K A) (fun L p hp=>nomatch hp) (fun L=>by simp) (fun Ar outer s H vs Q E hr h=>⟨_,QMs.nox (GB T T.B T.C_55 Ar outer s H E hr),Fq T.1 (by simp) vs H Q E h⟩)
theorem Jf:aL P w K mg base (CX1 P w) 1 A.a_1 A.d_1 ["self"] (uF K A):=
 T.f_1.okS Jp (FM K A) (Jn T.1) fun _ _ _ _ _ _ hr=>
 ar (jr (ac 0) (gU))
theorem Gy (B:BM mg base)(C:Ny base A.k_34 A.t_34)(Ar:Lj)(outer:List Env)(s:Ky)(H:Hp)(E:XK)
  (hr:bc 2 (Ar.deeper (envOfC "counting" (ak lU) s.heap.objs.size A.a_34 (.ref A.k_34)))):QMs (cw (CX1 P w) P w K mg base ["numbers"] "counting" (ak lU) A.a_34 (.ref A.k_34) Ar outer s H E).nox (aM lU) (Dp K A (s.heap.objs.size+1)):=(
 rh (qz (aG 0 zE.nd (yz T.mk_Numbers (Jf T) hr.le T.mc_Numbers T.b_1 bu))) (pW (qe (ur B C rfl (by rfl) (by simp<;>omega) rfl rfl rfl rfl (fun _ _ _ _ us hl=>by obtain⟨_,rfl⟩:=L2.dH hl;rfl)))))
theorem HX:aL P w K mg base (CX1 P w) 3 A.a_34 A.d_34 [] (pL K A):=
 T.f_34.f.okM (caps:=fun L=>[(0,L+1)]) T.kc_34 zE (CS K A) (fun L p hp=>by simp only[KY,Mb,or_false]at hp;rcases hp with rfl<;>exact⟨_,rfl,rfl,rfl⟩) (fun L=>by simp) (fun Ar outer s H vs Q E hr h=>⟨_,QMs.nox (Gy T T.B T.C_34 Ar outer s H E hr),Gm T.1 (s.heap.objs.size+1) (by simp) vs H Q E h⟩)
theorem Ii (B:BM mg base)(C:Ny base A.k_20 A.t_20)(Ar:Lj)(outer:List Env)(s:Ky)(H:Hp)(E:XK)
  (hr:bc 0 (Ar.deeper (envOfC "_law_planted" (ak lJ) s.heap.objs.size A.a_20 (.ref A.k_20)))):QMs (cw (CX1 P w) P w K mg base ["_law_known","_law_alias","_law_step","_law_stamp"] "_law_planted" (ak lJ) A.a_20 (.ref A.k_20) Ar outer s H E).nox (aM lJ) (BZ K A (s.heap.objs.size+1) (s.heap.objs.size+1+1) (s.heap.objs.size+1+1+1)):=(
 rh (qz (zG 3 zZ.nd B C rfl (by rfl) (by simp<;>omega) rfl rfl rfl rfl (fun _ _ _ _ _ us hl=>by obtain⟨_,rfl⟩:=L2.dH hl;rfl))) (pW (qe (ac 3))))
theorem Gp:aL P w K mg base (CX1 P w) 1 A.a_20 A.d_20 ["_law_known","_law_alias","_law_step"] (pc K A):=
 T.f_20.f.okM (caps:=fun L=>[(0,L+1),(1,L+1+1),(2,L+1+1+1)]) T.kc_20 zZ (Bz K A) (fun L p hp=>by simp only[KY,Mb,or_false]at hp;rcases hp with rfl|rfl|rfl<;>exact⟨_,rfl,rfl,rfl⟩) (fun L=>by simp) (fun Ar outer s H vs Q E hr h=>⟨_,QMs.nox (Ii T T.B T.C_20 Ar outer s H E hr),Hg T.1 (s.heap.objs.size+1) (s.heap.objs.size+1+1) (s.heap.objs.size+1+1+1) (by simp) vs H Q E h⟩)
theorem Ha:aL P w K mg base (CX1 P w) 4 A.a_26 A.d_26 ["_law_way_here","_law_cell","_law_known","_law_alias"] (pE K A):=
 T.f_26.f.okS HG (Er K A) (HW T.1) fun _ _ _ _ _ _ hr=>
 ap (aZ (aX (cU hr.units150) (ac 0) (aq)) (ar (aE (aQ (Hj T) hr.le T.f_29 (ae (aI bM (aq) (aI dk (ac 1) (aq))) (aj))))) (aV)) (ap (aZ (x_w (vD (aX (cU hr.units150) (ac 0) (aq)) (so (aX (cU hr.units150) (aI dk (ac 1) (aq)) (aq))))) (ar (aE (qx (IA T) hr.le T.f_55.m T.f_55.f.kp T.f_55.b bu))) (aV)) (ap (aZ (x_w (vD (aX (cU hr.units150) (ac 0) (aq)) (so (aX (cU hr.units150) (aI dk (ac 1) (aq)) (aq))))) (ar (aE (qx (HX T) hr.le T.f_34.m T.f_34.f.kp T.f_34.b bu))) (aV)) (ar (aE (aQ (Gp T) hr.le T.f_20 (ae (ac 2) (ae (ac 3) (ae (aI bM (aq) (aI dk (ac 1) (aq))) (aj)))))))))
theorem Iw:aL P w K mg base (CX1 P w) 1 A.a_27 A.d_27 ["_law_cell"] (pY K A):=
 T.f_27.f.okS uf (BN K A) (FV T.1) fun _ _ _ _ _ _ hr=>
 ap (aG 1 uf.nd (cG)) (ap (aG 1 uf.nd (aI bM (ac 1) (cG))) (ar (aE (eF Rn Rz Ry sB (cG) (ae (jP (ys:=["_law_cell","_law_some"]) (by exact⟨rfl,by decide+kernel,by decide+kernel,rfl,by decide+kernel,by decide+kernel⟩) (by exact .cons rfl (by first|exact .inl rfl|exact .inr rfl) rfl (.cons rfl (by first|exact .inl rfl|exact .inr rfl) rfl (.nil))) (rn T.z_range (ae (aI dk (ac 0) (aq)) (aj))) (fun C s H fp=>ii) (fun C s H fp=>(aJ (ay hr.units1) (ac 2) (aI dk (aI bM (aI fA (ac 1) (aq)) (aI pJ (ac 0) (aI dk (aI fA (ac 1) (aq)) (aq)))) (aq)) (fun _ _=>rfl)))) (aj))))))
theorem ua:aL P w K mg base (CX1 P w) 2 A.a_25 A.d_25 ["_law_cell"] (jw K A):=
 T.f_25.f.okS GM (Eg K A) (Hx T.1) fun _ _ _ _ _ _ hr=>
 ap (aZ (aX (cU hr.units150) (aI dk (ac 0) (aq)) (aq)) (ar (aE (aQ (Iw T) hr.le T.f_27 (ae (aI fA (ac 0) (aq)) (aj))))) (aV)) (ap (aZ (aX (cU hr.units150) (aI dk (ac 0) (aq)) (aq)) (ar (aE (aI dk (aI fA (ac 0) (aq)) (aI tD (aq) (aq))))) (aV)) (ar (aE (aI dk (aI fA (ac 0) (aq)) (aq)))))
theorem Ku:aL P w K mg base (CX1 P w) 1 A.a_3 A.d_3 ["self","stamper"] (tF K A):=
 T.f_3.okS JM (Hq K A) (IG T.1) fun _ _ _ _ _ _ hr=>
 ap (jr (ac 0) (ac 1)) (ap (jr (ac 0) (dI (aj))) (ar (jr (ac 0) (gU))))
theorem Jc:aL P w K mg base (CX1 P w) 3 A.a_4 A.d_4 ["self","entry"] (ux K A):=
 T.f_4.okS JG (GC K A) (Kv T.1) fun _ _ _ _ _ _ hr=>
 ap (aZ (cI (bW (aQ (mz T) hr.le T.f_44 (ae (ac 1) (aj))))) (ar (gO)) (aV)) (ap (dj (eF Lw Lo Lt cp (eQ (ac 0)) (ae (ac 1) (aj)))) (ar (aE (aI gr (aR cA T.z_len Lk (ae (eQ (ac 0)) (aj))) (aq)))))
theorem qJ:aL P w K mg base (CX1 P w) 1 A.a_9 A.d_9 ["self"] (kI K A):=
 T.f_9.okS IT (Ft K A) (Jb T.1) fun _ _ _ _ _ _ hr=>
 ar (aE (aR cA T.z_len Lk (ae (eQ (ac 0)) (aj))))
theorem uD:aL P w K mg base (CX1 P w) 2 A.a_37 A.d_37 ["thing"] (lc K A):=
 T.f_37.f.okS HZ (Cf K A) (GE T.1) fun _ _ _ _ _ _ hr=>
 ar (aE (cM (aQ (mf T) hr.le T.f_46 (ae (ac 0) (aj))) (dU (li oLe oLt (aq) (ac 0) (aI xb (aq) (aq))))))
theorem Ia:aL P w K mg base (CX1 P w) 3 A.a_38 A.d_38 ["count","elder"] (pf K A):=
 T.f_38.f.okS Hi (BB K A) (HB T.1) fun _ _ _ _ _ _ hr=>
 ar (aE (cM (aQ (uD T) hr.le T.f_37 (ae (ac 0) (aj))) (cM (aQ (mf T) hr.le T.f_46 (ae (ac 1) (aj))) (dU (li oLe oLe (aq) (ac 1) (ac 0))))))
theorem IR:aL P w K mg base (CX1 P w) 4 A.a_5 A.d_5 ["self","count","elder"] (tN K A):=
 T.f_5.okS IS (Gk K A) (Jd T.1) fun _ _ _ _ _ _ hr=>
 ar (aE (cM (aQ (Ia T) hr.le T.f_38 (ae (ac 1) (ae (ac 2) (aj)))) (dU (dS oLe (ac 1) (im (ac 0) T.cl_Row T.me_Row_size (qJ T) hr.le T.b_9 bu)))))
theorem uJ:aL P w K mg base (CX1 P w) 1 A.a_36 A.d_36 ["many"] (lh K A):=
 T.f_36.f.okS Iq (EB K A) (HD T.1) fun _ _ _ _ _ _ hr=>
 ar (aE (aI xb (aq) (aI gr (Hz PySem.F.plainAttrs_int PySem.F.slot_int_bit_length PySem.F.type_int_bit_length Bl (aI gr (ac 0) (aq))) (aq))))
theorem Gd (n:Nat)(G:aL P w K mg base (CX1 P w) (5+2*n) A.a_10 A.d_10 ["self","first","many"] (ft K A n)):aL P w K mg base (CX1 P w) (5+2*n+1) A.a_11 A.d_11 ["self","first","many"] (qf K A n):=
 T.f_11.okS zq (DJ K A n) (HA T.1 n) fun _ _ _ _ _ _ (hr:bc (5+2*n) _)=>
 ap (aZ (aX (cU hr.units150) (ac 2) (aq)) (ar (aE (bn (ae (cG) (aj))))) (aV)) (ap (aZ (aX (cU hr.units150) (ac 2) (aq)) (ar (aE (bn (ae (cG) (ae (aJ (ay hr.units1) (eQ (ac 0)) (ac 1) (fun _ _=>rfl)) (aj)))))) (aV)) (ap (aG 3 zq.nd (aQ (uJ T) hr.le T.f_36 (ae (ac 2) (aj)))) (ar (aE (bn (ae (cG) (ae (dg (ac 0) T.cl_Row T.me_Row_top_of G hr.le T.b_10 bu (ae (ac 1) (ae (ac 3) (aj)))) (ae (dg (ac 0) T.cl_Row T.me_Row_top_of G hr.le T.b_10 bu (ae (aI bM (ac 1) (ac 3)) (ae (aI gr (ac 2) (ac 3)) (aj)))) (aj)))))))))
theorem eB:ny P w K mg base 5 (eE K A):=fun ts hts=>by
 simp only[eE,KY,Mb,or_false]at hts
 rcases hts with rfl|rfl|rfl|rfl|rfl
 ·exact(Il T).mono (by decide)
 ·exact(Fk T).mono (by decide)
 ·exact(Hv T).mono (by decide)
 ·exact(GI T).mono (by decide)
 ·exact(EZ T).mono (by decide)
theorem pB:∀n:Nat,aL P w K mg base (CX1 P w) (5+2*n) A.a_10 A.d_10 ["self","first","many"] (ft K A n)
 |0=>⟨fun vs H Q E h=>(zX K A vs H Q E h).elim,fun _ _ _ H _ _ vs Q E _ _ _ _ h=>(zX K A vs H Q E h).elim⟩
 |n+1=>show aL P w K mg base (CX1 P w) (5+2*n+1+1) A.a_10 A.d_10 ["self","first","many"] (ft K A (n+1))from T.f_10.okS zr (DE K A (n+1)) (Gi T.1 n) fun _ _ _ _ _ _ (hr:bc (5+2*n+1) _)=>
 ap (aG 3 zr.nd (bn (ae (ac 1) (ae (ac 2) (aj))))) (ap (aZ (aX (iO hr.units150) (ac 3) (eQ (ac 0))) (ar (fL hr.units1 (eQ (ac 0)) (ac 3) (sS (eB T) hr.le bu (ac 0) T.cl_Row T.na_Row_stamper (ae (dg (ac 0) T.cl_Row T.me_Row_top_term (Gd T n (pB n)) hr.le T.b_11 bu (ae (ac 1) (ae (ac 2) (aj)))) (aj))))) (aV)) (ar (aE (aJ (ay hr.units1) (eQ (ac 0)) (ac 3) (fun _ _=>rfl)))))
theorem JR:aL P w K mg base (CX1 P w) 146 A.a_7 A.d_7 ["self","count"] (va K A):=
 T.f_7.okS JP (FN K A) (JE T.1) fun _ _ _ _ _ _ hr=>
 ap (aZ (cI (bW (dg (ac 0) T.cl_Row T.me_Row_has_elder (IR T) hr.le T.b_5 bu (ae (im (ac 0) T.cl_Row T.me_Row_size (qJ T) hr.le T.b_9 bu) (ae (ac 1) (aj)))))) (ar (gO)) (aV)) (ar (aE (sS (eB T) hr.le bu (ac 0) T.cl_Row T.na_Row_stamper (ae (bn (ae (cG) (ae (ac 1) (ae (dg (ac 0) T.cl_Row T.me_Row_top_of (pB T 70) hr.le T.b_10 bu (ae (aq) (ae (ac 1) (aj)))) (aj))))) (aj)))))
theorem FT:aL P w K mg base (CX1 P w) 147 A.a_22 A.d_22 ["_law_stamper_here","_law_entries","_law_sealed"] (pV K A):=
 T.f_22.f.okS uM (DO K A) (Fx T.1) fun _ _ _ _ _ _ hr=>
 ap (aG 3 uM.nd (AG T.mk_Row (Ku T) hr.le T.mc_Row T.b_3 bu (ae (ac 0) (aj)))) (ap (jk 4 uM.nd (eI (ac 1)) (ap (dj (dg (ac 3) T.cl_Row T.me_Row_add (Jc T) hr.le T.b_4 bu (ae (ac 4) (aj)))) (ar (fL hr.units1 (ac 2) (bn (ae (im (ac 3) T.cl_Row T.me_Row_size (qJ T) hr.le T.b_9 bu) (ae (dg (ac 3) T.cl_Row T.me_Row_mark_at (JR T) hr.le T.b_7 bu (ae (im (ac 3) T.cl_Row T.me_Row_size (qJ T) hr.le T.b_9 bu) (aj))) (aj)))) (eR)))) MI) (ar (aE (ac 3))))
theorem zR:aL P w K mg base (CX1 P w) 3 A.a_41 A.d_41 ["count","place"] (mQ K A):=
 T.f_41.f.okS Im (DF K A) (Fi T.1) fun _ _ _ _ _ _ hr=>
 ar (aE (cM (aQ (uD T) hr.le T.f_37 (ae (ac 0) (aj))) (cM (aQ (mf T) hr.le T.f_46 (ae (ac 1) (aj))) (dU (li oLe oLt (aq) (ac 1) (ac 0))))))
theorem JL:aL P w K mg base (CX1 P w) 4 A.a_6 A.d_6 ["self","count","place"] (tR K A):=
 T.f_6.okS Jw (Gv K A) (IE T.1) fun _ _ _ _ _ _ hr=>
 ar (aE (cM (aQ (zR T) hr.le T.f_41 (ae (ac 1) (ae (ac 2) (aj)))) (dU (dS oLe (ac 1) (im (ac 0) T.cl_Row T.me_Row_size (qJ T) hr.le T.b_9 bu)))))
theorem zp:aL P w K mg base (CX1 P w) 2 A.a_54 A.d_54 ["place","many"] (lW K A):=
 T.f_54.f.okS iB (BP K A) (Gg T.1) fun _ _ _ _ _ _ hr=>
 ap (aG 2 iB.nd (dI (aj))) (ap (aG 3 iB.nd (aq)) (ap (aG 4 iB.nd (ac 1)) (ap (nB (aX oGt (ac 4) (aq)) (ap (aG 5 iB.nd (aQ (uJ T) hr.le T.f_36 (ae (ac 4) (aj)))) (ar (aZ (aX oLt (ac 0) (aI bM (ac 3) (ac 5))) (ap (dj (eF Lw Lo Lt cp (ac 2) (ae (aq) (aj)))) (ar (aG 4 iB.nd (ac 5)))) (ap (dj (eF Lw Lo Lt cp (ac 2) (ae (aq) (aj)))) (ap (aG 3 iB.nd (aI bM (ac 3) (ac 5))) (ar (aG 4 iB.nd (aI gr (ac 4) (ac 5))))))))) MI) (ar (aE (ac 2))))))
theorem Jl:aL P w K mg base (CX1 P w) 146 A.a_8 A.d_8 ["self","count","place"] (tH K A):=
 T.f_8.okS jc (Gs K A) (JO T.1) fun _ _ _ _ _ _ hr=>
 ap (aZ (cI (bW (dg (ac 0) T.cl_Row T.me_Row_has_place (JL T) hr.le T.b_6 bu (ae (ac 1) (ae (ac 2) (aj)))))) (ar (gO)) (aV)) (ap (aG 3 jc.nd (dI (aj))) (ap (aG 4 jc.nd (aq)) (ap (aG 5 jc.nd (ac 1)) (ap (jk 6 jc.nd (eI (aQ (zp T) hr.le T.f_54 (ae (ac 2) (ae (ac 1) (aj))))) (ap (aG 7 jc.nd (aQ (uJ T) hr.le T.f_36 (ae (ac 5) (aj)))) (ar (aZ (aX (cU hr.units150) (ac 6) (aq)) (ap (dj (eF Lw Lo Lt cp (ac 3) (ae (dg (ac 0) T.cl_Row T.me_Row_top_of (pB T 70) hr.le T.b_10 bu (ae (aI bM (ac 4) (ac 7)) (ae (aI gr (ac 5) (ac 7)) (aj)))) (aj)))) (ar (aG 5 jc.nd (ac 7)))) (ap (dj (eF Lw Lo Lt cp (ac 3) (ae (dg (ac 0) T.cl_Row T.me_Row_top_of (pB T 70) hr.le T.b_10 bu (ae (ac 4) (ae (ac 7) (aj)))) (aj)))) (ap (aG 4 jc.nd (aI bM (ac 4) (ac 7))) (ar (aG 5 jc.nd (aI gr (ac 5) (ac 7))))))))) MI) (ar (aE (bn (ae (aJ (ay hr.units1) (eQ (ac 0)) (ac 2) (fun _ _=>rfl)) (ae (eS Dy T.z_tuple Pj (ae (ac 3) (aj))) (aj))))))))))
theorem zw:aL P w K mg base (CX1 P w) 3 A.a_39 A.d_39 ["thing"] (lY K A):=
 T.f_39.f.okS FC (Ey K A) (Ij T.1) fun _ _ _ _ _ _ hr=>
 ar (aE (cM (aR fH T.z_isinstance Me (ae (ac 0) (ae (fU T.z_tuple Pj) (aj)))) (cM (dS (cU hr.units150) (aR cA T.z_len Lk (ae (ac 0) (aj))) (aq)) (cM (aQ (uD T) hr.le T.f_37 (ae (aJ (ay hr.units1) (ac 0) (aq) (fun _ _=>rfl)) (aj))) (dU (aQ (mz T) hr.le T.f_44 (ae (aJ (ay hr.units1) (ac 0) (aq) (fun _ _=>rfl)) (aj))))))))
theorem zC:aL P w K mg base (CX1 P w) 6 A.a_43 A.d_43 ["knows","thing"] (my K A):=
 T.f_43.f.okS FK (DK K A) (Fs T.1) fun _ _ _ _ _ _ hr=>
 ar (aE (cM (aQ (zw T) hr.le T.f_39 (ae (ac 1) (aj))) (dU (fg (eB T) hr.le bu (ac 0) (ae (ac 1) (aj))))))
theorem Gr:aL P w K mg base (CX1 P w) 4 A.a_32 A.d_32 ["thing"] (pb K A):=
 T.f_32.f.okS Hd (Bu K A) (Ig T.1) fun _ _ _ _ _ _ hr=>
 ar (aZ (cI (bW (aQ (zw T) hr.le T.f_39 (ae (ac 0) (aj))))) (ar (gO)) (aV))
theorem Fu:aL P w K mg base (CX1 P w) 3 A.a_31 A.d_31 ["many","thing"] (pK K A):=
 T.f_31.f.okS Hy (By K A) (FE T.1) fun _ _ _ _ _ _ hr=>
 ar (aE (cM (aR fH T.z_isinstance Me (ae (ac 1) (ae (fU T.z_tuple Pj) (aj)))) (cM (dS (cU hr.units150) (aR cA T.z_len Lk (ae (ac 1) (aj))) (ac 0)) (dU (aR (Es rfl) T.z_all L2.wg (ae (jP (ys:=[]) (by exact⟨rfl,by decide+kernel,by decide+kernel,rfl,by decide+kernel,by decide+kernel⟩) (by exact .nil) (eI (ac 1)) (fun C s H fp=>ii) (fun C s H fp=>(aQ (mz T) hr.le T.f_44 (ae (ac 0) (aj))))) (aj)))))))
theorem FU:aL P w K mg base (CX1 P w) 4 A.a_42 A.d_42 ["turns","thing"] (qg K A):=
 T.f_42.f.okS Ih (EE K A) (HQ T.1) fun _ _ _ _ _ _ hr=>
 ap (aZ (x_w (iq (cI (bW (aR fH T.z_isinstance Me (ae (ac 1) (ae (fU T.z_tuple Pj) (aj)))))) (hJ (aX (kK hr.units150) (aR cA T.z_len Lk (ae (ac 1) (aj))) (aq))))) (ar (aE (eR))) (aV)) (ar (aE (cM (aQ (mz T) hr.le T.f_44 (ae (aJ (ay hr.units1) (ac 1) (aq) (fun _ _=>rfl)) (aj))) (dU (aQ (Fu T) hr.le T.f_31 (ae (aR cA T.z_len Lk (ae (ac 0) (aj))) (ae (aJ (ay hr.units1) (ac 1) (aq) (fun _ _=>rfl)) (aj))))))))
theorem Fo:aL P w K mg base (CX1 P w) 1 A.a_47 A.d_47 ["turn","own","aside"] (pS K A):=
 T.f_47.f.okS Hb (Cb K A) (Gc T.1) fun _ _ _ _ _ _ hr=>
 ar (aE (Kg (aX (cU hr.units150) (ac 0) (aq)) (bn (ae (cG) (ae (ac 1) (ae (ac 2) (aj))))) (bn (ae (cG) (ae (ac 2) (ae (ac 1) (aj)))))))
theorem Fj (cdv:Gt)(Ar:Lj)(outer:List Env)(s:Ky)(H:Hp)(E:XK)
  (hr:bc 5 (Ar.deeper (envOfC "place_terms" (ak nJ) s.heap.objs.size A.a_53 cdv))):PSs (cw (CX1 P w) P w K mg base ["stamper","count","place","paper","turns","terms","step"] "place_terms" (ak nJ) A.a_53 cdv Ar outer s H E) (aM nJ) (BY K A E):=QSs.out (
 ap (aZ (cI (bW (aQ (zR T) hr.le T.f_41 (ae (ac 1) (ae (ac 2) (aj)))))) (ar (sJ T.er_NoPlace T.mc_NoPlace kz)) (aV)) (ap (aG 4 pQ.nd (aQ (zp T) hr.le T.f_54 (ae (ac 2) (ae (ac 1) (aj))))) (ap (aZ (cI (bW (aQ (FU T) hr.le T.f_42 (ae (ac 4) (ae (ac 3) (aj)))))) (ar (sJ T.er_NoPaper T.mc_NoPaper kz)) (aV)) (ap (aG 5 pQ.nd (dI (ae (bn (ae (cG) (ae (aJ (ay hr.units1) (ac 3) (aq) (fun _ _=>rfl)) (aj)))) (aj)))) (ap (jk 6 pQ.nd (Bv T.z_reversed (ae (vh T.z_list T.z_zip rfl (ae (ac 4) (ae (aJ (ay hr.units1) (ac 3) (aq) (fun _ _=>rfl)) (aj)))) (aj))) (ar (dj (eF Lw Lo Lt cp (ac 5) (ae (aQ (Fo T) hr.le T.f_47 (ae (aJ (ay hr.units1) (ac 6) (aq) (fun _ _=>rfl)) (ae (fg (eB T) hr.le bu (ac 0) (ae (aJ (ay hr.units1) (ac 5) (fY (aq)) (fun _ _=>rfl)) (aj))) (ae (aJ (ay hr.units1) (ac 6) (aq) (fun _ _=>rfl)) (aj))))) (aj))))) PassesOwn.leaving) (ap (dj (eF Lw Lo Lt cp (ac 5) (ae (bn (ae (cG) (ae (ac 1) (ae (fg (eB T) hr.le bu (ac 0) (ae (aJ (ay hr.units1) (ac 5) (fY (aq)) (fun _ _=>rfl)) (aj))) (aj))))) (aj)))) (ar (aE (ac 5)))))))))
theorem ub:aL P w K mg base (CX1 P w) 6 A.a_53 A.d_53 ["stamper","count","place","paper"] (jo K A):=
 T.f_53.f.okX pQ (ET K A) (fun cdv Ar outer s H vs Q E hr h=>⟨_,Fj T cdv Ar outer s H E hr,GG T.1 vs H Q E h⟩)
theorem GK (cdv:Gt)(Ar:Lj)(outer:List Env)(s:Ky)(H:Hp)(E:XK)
  (hr:bc 6 (Ar.deeper (envOfC "place_mark" (ak mU) s.heap.objs.size A.a_52 cdv))):PSs (cw (CX1 P w) P w K mg base ["stamper","count","place","paper"] "place_mark" (ak mU) A.a_52 cdv Ar outer s H E) (aM mU) (Df K A E):=QSs.out (
 ar (aE (fg (eB T) hr.le bu (ac 0) (ae (aJ (ay hr.units1) (lm (ub T) hr.le T.f_53.m T.f_53.f.kp T.f_53.b qN (ae (ac 0) (ae (ac 1) (ae (ac 2) (ae (ac 3) (aj)))))) (fY (aq)) (fun _ _=>rfl)) (aj)))))
theorem Fg:aL P w K mg base (CX1 P w) 7 A.a_52 A.d_52 ["stamper","count","place","paper"] (qa K A):=
 T.f_52.f.okX Hm (EA K A) (fun cdv Ar outer s H vs Q E hr h=>⟨_,GK T cdv Ar outer s H E hr,FY T.1 vs H Q E h⟩)
theorem Jo:aL P w K mg base (CX1 P w) 1 A.a_0 A.d_0 ["self","due","came"] (uY K A):=
 T.f_0.okS JS (Ge K A) (IP T.1) fun _ _ _ _ _ _ hr=>
 ap (wj (ac 0) (ac 1)) (ar (wj (ac 0) (ac 2)))
theorem Ff (cdv:Gt)(Ar:Lj)(outer:List Env)(s:Ky)(H:Hp)(E:XK)
  (hr:bc 7 (Ar.deeper (envOfC "place_answer" (ak nN) s.heap.objs.size A.a_50 cdv))):PSs (cw (CX1 P w) P w K mg base ["stamper","head","place","paper","came"] "place_answer" (ak nN) A.a_50 cdv Ar outer s H E) (aM nN) (DV K A E):=QSs.out (
 ap (dj (aQ (Gr T) hr.le T.f_32 (ae (ac 1) (aj)))) (ap (aG 4 zY.nd (lm (Fg T) hr.le T.f_52.m T.f_52.f.kp T.f_52.b qN (ae (ac 0) (ae (aJ (ay hr.units1) (ac 1) (aq) (fun _ _=>rfl)) (ae (ac 2) (ae (ac 3) (aj))))))) (ap (aZ (aX (kK hr.units150) (ac 4) (aJ (ay hr.units1) (ac 1) (aq) (fun _ _=>rfl))) (ar (yU T.em_Broken (Jo T) hr.le T.b_0 T.mc_Broken kz (ae (aJ (ay hr.units1) (ac 1) (aq) (fun _ _=>rfl)) (ae (ac 4) (aj))))) (aV)) (ar (aE (aJ (ay hr.units1) (ac 3) (aq) (fun _ _=>rfl)))))))
theorem Fl:aL P w K mg base (CX1 P w) 8 A.a_50 A.d_50 ["stamper","head","place","paper"] (ph K A):=
 T.f_50.f.okX zY (DM K A) (fun cdv Ar outer s H vs Q E hr h=>⟨_,Ff T cdv Ar outer s H E hr,IC T.1 vs H Q E h⟩)
theorem Ac:aL P w K mg base (CX1 P w) 9 A.a_51 A.d_51 ["stamper","head","place","paper"] (ma K A):=
 T.f_51.f.okS HP (EI K A) (HU T.1) fun _ _ _ _ _ E hr=>
 ar (GH (fun pn' E' EH hEH=>ar (aE (lm (Fl T) hr.le T.f_50.m T.f_50.f.kp T.f_50.b hEH (ae (ac 0) (ae (ac 1) (ae (ac 2) (ae (ac 3) (aj)))))))) (Di T.eo_StampError T.mc_StampError (fun a=>ar (aE (jx))) (Ci)) (aV))
theorem Ie:aL P w K mg base (CX1 P w) 10 A.a_40 A.d_40 ["stamper","knows","thing"] (mR K A):=
 T.f_40.f.okS uu (BR K A) (Fe T.1) fun _ _ _ _ _ _ hr=>
 ap (aZ (x_w (iq (cI (bW (aR fH T.z_isinstance Me (ae (ac 2) (ae (fU T.z_tuple Pj) (aj)))))) (hJ (aX (kK hr.units150) (aR cA T.z_len Lk (ae (ac 2) (aj))) (aq))))) (ar (aE (eR))) (aV)) (ap (aZ (x_w (iq (cI (bW (aQ (zC T) hr.le T.f_43 (ae (ac 1) (ae (aJ (ay hr.units1) (ac 2) (aq) (fun _ _=>rfl)) (aj)))))) (hJ (cI (bW (aQ (zC T) hr.le T.f_43 (ae (ac 1) (ae (aJ (ay hr.units1) (ac 2) (aq) (fun _ _=>rfl)) (aj))))))))) (ar (aE (eR))) (aV)) (ap (aG 3 uu.nd (aQ (Ac T) hr.le T.f_51 (ae (ac 0) (ae (aJ (ay hr.units1) (ac 2) (aq) (fun _ _=>rfl)) (ae (aJ (ay hr.units1) (ac 2) (aq) (fun _ _=>rfl)) (ae (aJ (ay hr.units1) (ac 2) (aq) (fun _ _=>rfl)) (aj))))))) (ap (aG 4 uu.nd (aQ (Ac T) hr.le T.f_51 (ae (ac 0) (ae (aJ (ay hr.units1) (ac 2) (aq) (fun _ _=>rfl)) (ae (aJ (ay hr.units1) (ac 2) (aq) (fun _ _=>rfl)) (ae (aJ (ay hr.units1) (ac 2) (aq) (fun _ _=>rfl)) (aj))))))) (ar (aE (cM (dS kP (ac 3) (jx)) (cM (dS kP (ac 4) (jx)) (dU (dS (kK hr.units150) (ac 3) (ac 4))))))))))
theorem uX:aL P w K mg base (CX1 P w) 11 A.a_23 A.d_23 ["_law_stamper_here","_law_sealed","_law_thing"] (jg K A):=
 T.f_23.f.okC (caps:=fun L=>[(1,L+1)]) T.kc_23 Gw (CL K A) (fun L p hp=>by simp only[KY,Mb,or_false]at hp;rcases hp with rfl<;>exact⟨_,rfl,rfl,rfl⟩) (fun L=>by simp) rfl (Ie T) (by decide) T.f_40.m T.f_40.f.kp T.f_40.b (by decide) rfl fun Ar outer s H vs Q E hr h=>⟨_,rfl,(ae (ac 0) (ae (ur T.B T.C_23 rfl (by rfl) (by simp<;>omega) rfl rfl rfl rfl (fun _ _ _ _ us hl=>by obtain⟨_,rfl⟩:=L2.dH hl;rfl)) (ae (ac 2) (aj)))),Hc T.1 (s.heap.objs.size+1) vs H Q E h⟩
theorem Fh:aL P w K mg base (CX1 P w) 1 A.a_28 A.d_28 ["_law_place","_law_many"] (qh K A):=
 T.f_28.f.okS ji (CP K A) (EX T.1) fun _ _ _ _ _ _ hr=>
 ap (aG 2 ji.nd (dI (aj))) (ap (aG 3 ji.nd (aI xb (aq) (aq))) (ap (nB (aX oGt (ac 1) (aq)) (ap (nB (aX oGe (ac 3) (ac 1)) (ar (aG 3 ji.nd (aI fA (ac 3) (aq)))) MI) (ap (dj (eF Lw Lo Lt cp (ac 2) (ae (eS BE T.z_int L2.wC (ae (dS oGe (ac 0) (ac 3)) (aj))) (aj)))) (ar (aZ (aX oGe (ac 0) (ac 3)) (ap (aG 0 ji.nd (aI gr (ac 0) (ac 3))) (ar (aG 1 ji.nd (aI gr (ac 1) (ac 3))))) (ar (aG 1 ji.nd (ac 3))))))) MI) (ar (aE (ac 2)))))
theorem pF:aL P w K mg base (CX1 P w) 1 A.a_16 A.d_16 ["_law_mark"] (jE K A):=
 T.f_16.f.okS Ga (Co K A) (Iu T.1) fun _ _ _ _ _ _ hr=>
 ap (aZ (bW (aR fH T.z_isinstance Me (ae (ac 0) (ae (fU T.z_str SW) (aj))))) (ar (aE (aI HM (aJ (ay hr.units1) (dI (ae (cG) (ae (cG) (aj)))) (eS BE T.z_int L2.wC (ae (dS (cU hr.units150) (iZ ky (ac 0) (lg) (gP (aq))) (cG)) (aj))) (fun _ _=>rfl)) (aR cA T.z_len Lk (ae (ac 0) (aj)))))) (aV)) (ar (aE (aI dk (aI bM (ac 0) (aq)) (aI tD (aq) (aq)))))
theorem Gf:aL P w K mg base (CX1 P w) 3 A.a_13 A.d_13 ["_law_kind","_law_cell","_law_paper"] (pZ K A):=
 T.f_13.f.okS mw (EL K A) (HN T.1) fun _ _ _ _ _ _ hr=>
 ap (wy 3 4 mw.nd rfl (ac 2)) (ap (aZ (aX oLt (ac 0) (aq)) (ar (aE (bn (ae (aQ (pF T) hr.le T.f_16 (ae (ac 3) (aj))) (ae (ac 4) (aj)))))) (aV)) (ap (aZ (x_w (iq (aX (cU hr.units150) (ac 0) (aq)) (hJ (aX (cU hr.units150) (aR cA T.z_len Lk (ae (ac 4) (aj))) (aq))))) (ar (aE (bn (ae (aQ (ua T) hr.le T.f_25 (ae (ac 1) (aj))) (ae (ac 4) (aj)))))) (aV)) (ap (aZ (aX (cU hr.units150) (ac 0) (aq)) (ar (aE (bn (ae (aQ (pF T) hr.le T.f_16 (ae (ac 3) (aj))) (ae (ye T.z_tuple T.z_reversed rfl (ae (ac 4) (aj))) (aj)))))) (aV)) (ap (aG 5 mw.nd (aI dk (ac 1) (aR cA T.z_len Lk (ae (ac 4) (aj))))) (ap (aG 6 mw.nd (aQ (pF T) hr.le T.f_16 (ae (aJ (ay hr.units1) (ac 4) (ac 5) (fun _ _=>rfl)) (aj)))) (ap (aZ (aX (cU hr.units150) (ac 0) (aq)) (ar (aG 6 mw.nd (aQ (ua T) hr.le T.f_25 (ae (aI fA (ac 1) (aq)) (aj))))) (aV)) (ar (aE (bn (ae (aQ (pF T) hr.le T.f_16 (ae (ac 3) (aj))) (ae (aI bM (aI bM (iZ ky (ac 4) (lg) (gP (ac 5))) (bn (ae (ac 6) (aj)))) (iZ ky (ac 4) (gP (aI bM (ac 5) (aq))) (lg))) (aj))))))))))))
theorem tW:aL P w K mg base (CX1 P w) 6 A.a_14 A.d_14 ["_law_stamper_here","_law_count","_law_turns","_law_paper","_law_height"] (jl K A):=
 T.f_14.f.okS pA (CT K A) (GA T.1) fun _ _ _ _ _ _ hr=>
 ap (aG 5 pA.nd (dI (ae (bn (ae (cG) (ae (aJ (ay hr.units1) (ac 3) (aq) (fun _ _=>rfl)) (aj)))) (aj)))) (ap (jk 6 pA.nd (rn T.z_range (ae (ac 4) (aj))) (ap (aG 7 pA.nd (fg (eB T) hr.le bu (ac 0) (ae (aJ (ay hr.units1) (ac 5) (fY (aq)) (fun _ _=>rfl)) (aj)))) (ar (aZ (aX (cU hr.units150) (ac 6) (aR cA T.z_len Lk (ae (ac 2) (aj)))) (ar (dj (eF Lw Lo Lt cp (ac 5) (ae (bn (ae (cG) (ae (ac 1) (ae (ac 7) (aj))))) (aj))))) (ar (aZ (aX (cU hr.units150) (aJ (ay hr.units1) (ac 2) (aI gr (fY (aq)) (ac 6)) (fun _ _=>rfl)) (aq)) (ar (dj (eF Lw Lo Lt cp (ac 5) (ae (bn (ae (cG) (ae (aJ (ay hr.units1) (aJ (ay hr.units1) (ac 3) (aq) (fun _ _=>rfl)) (aI gr (fY (aq)) (ac 6)) (fun _ _=>rfl)) (ae (ac 7) (aj))))) (aj))))) (ar (dj (eF Lw Lo Lt cp (ac 5) (ae (bn (ae (cG) (ae (ac 7) (ae (aJ (ay hr.units1) (aJ (ay hr.units1) (ac 3) (aq) (fun _ _=>rfl)) (aI gr (fY (aq)) (ac 6)) (fun _ _=>rfl)) (aj))))) (aj)))))))))) MI) (ar (aE (ac 5))))
theorem Fz:aL P w K mg base (CX1 P w) 1 A.a_19 A.d_19 ["_law_known","_law_alias","_law_new","_law_old"] (pH K A):=
 T.f_19.f.okS Gz (DA K A) (Ir T.1) fun _ _ _ _ _ _ hr=>
 ar (aZ (aX (iO hr.units150) (ac 2) (ac 0)) (ar (fL hr.units1 (ac 1) (ac 2) (ac 3))) (aV))
theorem FI:aL P w K mg base (CX1 P w) 7 A.a_18 A.d_18 ["_law_script","_law_stamper_here","_law_head","_law_turns","_law_papers","_law_plan"] (pM K A):=
 T.f_18.f.okS jn (Eo K A) (Hk T.1) fun _ _ _ _ _ _ hr=>
 ap (De 6 7 8 jn.nd rfl (ac 5)) (ap (aG 9 jn.nd (aQ (gK T) hr.le T.f_12 (ae (ac 0) (ae (aq) (aj))))) (ap (aG 10 jn.nd (aQ (Gf T) hr.le T.f_13 (ae (aI dk (ac 9) (aq)) (ae (aI fA (ac 9) (aq)) (ae (aJ (ay hr.units1) (ac 4) (aq) (fun _ _=>rfl)) (aj)))))) (ap (aG 11 jn.nd (aI dk (aQ (gK T) hr.le T.f_12 (ae (ac 0) (ae (aq) (aj)))) (aI bM (aR cA T.z_len Lk (ae (ac 3) (aj))) (aq)))) (ap (aZ (aX oLt (ac 6) (aq)) (ap (aG 12 jn.nd (aJ (ay hr.units1) (aQ (tW T) hr.le T.f_14 (ae (ac 1) (ae (aJ (ay hr.units1) (ac 2) (aq) (fun _ _=>rfl)) (ae (ac 3) (ae (aJ (ay hr.units1) (ac 4) (aq) (fun _ _=>rfl)) (ae (ac 11) (aj))))))) (fY (aq)) (fun _ _=>rfl))) (ap (aG 13 jn.nd (aJ (ay hr.units1) (aQ (tW T) hr.le T.f_14 (ae (ac 1) (ae (aJ (ay hr.units1) (ac 2) (aq) (fun _ _=>rfl)) (ae (ac 3) (ae (ac 10) (ae (ac 11) (aj))))))) (fY (aq)) (fun _ _=>rfl))) (ar (dj (aQ (Fz T) hr.le T.f_19 (ae (ac 7) (ae (ac 8) (ae (ac 13) (ae (ac 12) (aj)))))))))) (aV)) (ar (aE (ac 10)))))))
theorem Fp:aL P w K mg base (CX1 P w) 1 A.a_17 A.d_17 ["_law_cell","_law_thing"] (pd K A):=
 T.f_17.f.okS ju (El K A) (Hr T.1) fun _ _ _ _ _ _ hr=>
 ap (EN 2 3 4 5 6 ju.nd rfl (ac 1)) (ap (aG 7 ju.nd (dI (ae (eS tO T.z_list boot_list (ae (ac 1) (aj))) (ae (iZ ky (ac 1) (lg) (gP (aq))) (ae (aI bM (ac 1) (bn (ae (ac 4) (aj)))) (ae (jx) (ae (bn (ae (eS tO T.z_list boot_list (ae (ac 2) (aj))) (ae (ac 3) (ae (ac 4) (ae (ac 5) (ae (ac 6) (aj))))))) (aj)))))))) (ap (aG 7 ju.nd (aI bM (ac 7) (dI (ae (bn (ae (ac 2) (ae (ac 3) (ae (jx) (ae (ac 5) (ae (ac 6) (aj))))))) (ae (bn (ae (ac 2) (ae (ac 3) (ae (ac 4) (ae (ac 5) (ae (jx) (aj))))))) (aj)))))) (ap (aG 7 ju.nd (aI bM (ac 7) (dI (ae (bn (ae (bn (ae (aJ (ay hr.units1) (ac 2) (aq) (fun _ _=>rfl)) (ae (aI bM (aI tD (aq) (aq)) (aq)) (aj)))) (ae (ac 3) (ae (ac 4) (ae (ac 5) (ae (ac 6) (aj))))))) (ae (bn (ae (ac 2) (ae (ac 3) (ae (ac 4) (ae (aJ (ay hr.units1) (ac 6) (aq) (fun _ _=>rfl)) (ae (ac 6) (aj))))))) (aj)))))) (ap (aG 7 ju.nd (aI bM (ac 7) (dI (ae (bn (ae (ac 2) (ae (bn (ae (aI bM (aJ (ay hr.units1) (ac 3) (aq) (fun _ _=>rfl)) (aq)) (ae (aJ (ay hr.units1) (ac 3) (aq) (fun _ _=>rfl)) (aj)))) (ae (ac 4) (ae (ac 5) (ae (ac 6) (aj))))))) (ae (bn (ae (ac 2) (ae (ac 3) (ae (eS IM T.z_str SW (ae (ac 4) (aj))) (ae (ac 5) (ae (ac 6) (aj))))))) (ae (bn (aj)) (aj))))))) (ap (aG 7 ju.nd (aI bM (ac 7) (dI (ae (bn (ae (ac 2) (ae (ac 3) (ae (eR) (ae (ac 5) (ae (ac 6) (aj))))))) (aj))))) (ar (aE (aJ (ay hr.units1) (ac 7) (aI dk (ac 0) (aq)) (fun _ _=>rfl)))))))))
theorem GN:aL P w K mg base (CX1 P w) 6 A.a_15 A.d_15 ["_law_stamper_here","_law_terms","_law_found"] (pO K A):=
 T.f_15.f.okS FS (Bw K A) (FL T.1) fun _ _ _ _ _ _ hr=>
 ap (aZ (x_w (iq (cI (bW (aR fH T.z_isinstance Me (ae (ac 2) (ae (fU T.z_tuple Pj) (aj)))))) (iq (aX (kK hr.units150) (aR cA T.z_len Lk (ae (ac 2) (aj))) (aq)) (hJ (aX (cU hr.units150) (aJ (ay hr.units1) (ac 2) (aq) (fun _ _=>rfl)) (aJ (ay hr.units1) (ac 2) (aq) (fun _ _=>rfl))))))) (ar (aE (eR))) (aV)) (ap (aZ (x_w (iq (aX (iO hr.units150) (aJ (ay hr.units1) (ac 2) (aq) (fun _ _=>rfl)) (ac 1)) (hJ (aX (iO hr.units150) (aJ (ay hr.units1) (ac 2) (aq) (fun _ _=>rfl)) (ac 1))))) (ar (aE (eR))) (aV)) (ar (aE (dS (cU hr.units150) (fg (eB T) hr.le bu (ac 0) (ae (aJ (ay hr.units1) (ac 2) (aq) (fun _ _=>rfl)) (aj))) (fg (eB T) hr.le bu (ac 0) (ae (aJ (ay hr.units1) (ac 2) (aq) (fun _ _=>rfl)) (aj)))))))
theorem GX:aL P w K mg base (CX1 P w) 6 A.a_33 A.d_33 ["stamper","terms"] (pG K A):=
 T.f_33.f.okS pT (Cv K A) (Ho T.1) fun _ _ _ _ _ _ hr=>
 ap (aG 2 pT.nd (gU)) (ap (jk 3 pT.nd (eI (ac 1)) (ap (aG 4 pT.nd (eF OM Mi Qo (oy hr.units1) (ac 2) (ae (fg (eB T) hr.le bu (ac 0) (ae (ac 3) (aj))) (ae (ac 3) (aj))))) (ar (aZ (aX (kK hr.units150) (ac 4) (ac 3)) (ar (aE (bn (ae (ac 4) (ae (ac 3) (aj)))))) (aV)))) MI) (ar (aE (jx))))
theorem GU:aL P w K mg base (CX1 P w) 148 A.a_48 A.d_48 ["_law_script"] (qb K A):=
 T.f_48.f.okS cz (Bx K A) (HI T.1) fun _ _ _ _ _ _ hr=>
 ap (aG 1 cz.nd (aI dk (aQ (gK T) hr.le T.f_12 (ae (ac 0) (ae (aq) (aj)))) (aq))) (ap (aG 2 cz.nd (gU)) (ap (aG 3 cz.nd (gU)) (ap (aG 4 cz.nd (aQ (Ha T) hr.le T.f_26 (ae (ac 1) (ae (aI fA (aQ (gK T) hr.le T.f_12 (ae (ac 0) (ae (aq) (aj)))) (aq)) (ae (ac 2) (ae (ac 3) (aj))))))) (ap (aG 5 cz.nd (jP (ys:=[]) (by exact⟨rfl,by decide+kernel,by decide+kernel,rfl,by decide+kernel,by decide+kernel⟩) (by exact .nil) (eI (aI bM (dI (ae (aQ (gK T) hr.le T.f_12 (ae (ac 0) (ae (aq) (aj)))) (aj))) (iZ ky (ac 0) (gP (aq)) (gP (aq))))) (fun C s H fp=>ii) (fun C s H fp=>(aQ (ua T) hr.le T.f_25 (ae (ac 0) (aj)))))) (ap (aG 6 cz.nd (gU)) (ap (aG 7 cz.nd (aQ (FT T) hr.le T.f_22 (ae (ac 4) (ae (ac 5) (ae (ac 6) (aj)))))) (ap (oN (ys:=["_law_script","_law_entries","_law_sealed"]) 8 cz.nd (by exact⟨rfl,by decide+kernel,by decide+kernel,rfl,by decide+kernel,by decide+kernel⟩) (by exact .cons rfl (by first|exact .inl rfl|exact .inr rfl) rfl (.cons rfl (by first|exact .inl rfl|exact .inr rfl) rfl (.cons rfl (by first|exact .inl rfl|exact .inr rfl) rfl (.nil)))) (yq T.z_range (ae (aq) (ae (aq) (aj)))) (fun C s H fp=>ii) (fun C s H fp=>(aJ (ay hr.units1) (eS (Ds rfl) T.z_list sF (ae (ac 3) (aj))) (aI dk (aQ (gK T) hr.le T.f_12 (ae (ac 1) (ae (ac 0) (aj)))) (aR cA T.z_len Lk (ae (ac 2) (aj)))) (fun _ _=>rfl)))) (ap (aG 9 cz.nd (aI dk (aQ (gK T) hr.le T.f_12 (ae (ac 0) (ae (aq) (aj)))) (aR (Kr rfl) T.z_min boot_min (ae (aJ (ay hr.units1) (aJ (ay hr.units1) (ac 8) (aq) (fun _ _=>rfl)) (aq) (fun _ _=>rfl)) (ae (aJ (ay hr.units1) (aJ (ay hr.units1) (ac 8) (aq) (fun _ _=>rfl)) (aq) (fun _ _=>rfl)) (aj)))))) (ap (oN (ys:=["_law_row_here","_law_place"]) 10 cz.nd (by exact⟨rfl,by decide+kernel,by decide+kernel,rfl,by decide+kernel,by decide+kernel⟩) (by exact .cons rfl (by first|exact .inl rfl|exact .inr rfl) rfl (.cons rfl (by first|exact .inl rfl|exact .inr rfl) rfl (.nil))) (eI (ac 8)) (fun C s H fp=>ii) (fun C s H fp=>(dg (ac 1) T.cl_Row T.me_Row_place_paper (Jl T) hr.le T.b_8 bu (ae (aJ (ay hr.units1) (ac 0) (aq) (fun _ _=>rfl)) (ae (ac 2) (aj)))))) (ap (aZ (aX kP (aQ (uX T) hr.le T.f_23 (ae (ac 4) (ae (ac 6) (ae (bn (ae (aJ (ay hr.units1) (ac 8) (aq) (fun _ _=>rfl)) (ae (aJ (ay hr.units1) (ac 8) (aq) (fun _ _=>rfl)) (ae (ac 9) (ae (aJ (ay hr.units1) (ac 10) (aq) (fun _ _=>rfl)) (ae (aJ (ay hr.units1) (ac 10) (aq) (fun _ _=>rfl)) (aj))))))) (aj))))) (eR)) (ar (aE (eR))) (aV)) (ap (aG 11 cz.nd (aI dk (aQ (gK T) hr.le T.f_12 (ae (ac 0) (ae (aq) (aj)))) (aq))) (ap (wy 12 13 cz.nd rfl (aJ (ay hr.units1) (ac 8) (ac 11) (fun _ _=>rfl))) (ap (aG 14 cz.nd (aQ (Fh T) hr.le T.f_28 (ae (ac 9) (ae (ac 12) (aj))))) (ap (aG 15 cz.nd (aQ (FI T) hr.le T.f_18 (ae (ac 0) (ae (ac 4) (ae (aJ (ay hr.units1) (ac 8) (ac 11) (fun _ _=>rfl)) (ae (ac 14) (ae (dI (ae (aJ (ay hr.units1) (ac 10) (ac 11) (fun _ _=>rfl)) (aj))) (ae (bn (ae (ac 1) (ae (ac 2) (ae (ac 3) (aj))))) (aj))))))))) (ap (aG 16 cz.nd (fg (eB T) hr.le bu (ac 4) (ae (aJ (ay hr.units1) (aQ (tW T) hr.le T.f_14 (ae (ac 4) (ae (ac 12) (ae (ac 14) (ae (ac 15) (ae (aI bM (aR cA T.z_len Lk (ae (ac 14) (aj))) (aq)) (aj))))))) (fY (aq)) (fun _ _=>rfl)) (aj)))) (ap (aG 17 cz.nd (cM (dS (cU hr.units150) (ac 16) (ac 13)) (dU (dS (kK hr.units150) (aJ (ay hr.units1) (ac 15) (aq) (fun _ _=>rfl)) (aJ (ay hr.units1) (ac 5) (ac 9) (fun _ _=>rfl)))))) (ap (aG 18 cz.nd (aQ (ub T) hr.le T.f_53 (ae (ac 4) (ae (ac 12) (ae (ac 9) (ae (ac 15) (aj))))))) (ap (aG 18 cz.nd (aI bM (ac 18) (aQ (ub T) hr.le T.f_53 (ae (ac 4) (ae (ac 12) (ae (ac 9) (ae (aJ (ay hr.units1) (ac 10) (ac 11) (fun _ _=>rfl)) (aj)))))))) (ap (fL hr.units1 (ac 10) (ac 11) (ac 15)) (ap (aG 19 cz.nd (bn (ae (aJ (ay hr.units1) (ac 8) (aq) (fun _ _=>rfl)) (ae (aJ (ay hr.units1) (ac 8) (aq) (fun _ _=>rfl)) (ae (ac 9) (ae (aJ (ay hr.units1) (ac 10) (aq) (fun _ _=>rfl)) (ae (aJ (ay hr.units1) (ac 10) (aq) (fun _ _=>rfl)) (aj)))))))) (ap (aZ (aX kP (aQ (uX T) hr.le T.f_23 (ae (ac 4) (ae (ac 6) (ae (aQ (Fp T) hr.le T.f_17 (ae (aQ (gK T) hr.le T.f_12 (ae (ac 0) (ae (aq) (aj)))) (ae (ac 19) (aj)))) (aj))))) (eR)) (ar (aE (eR))) (aV)) (ap (fL hr.units1 (ac 8) (ac 11) (bn (ae (ac 12) (ae (ac 16) (aj))))) (ap (jk 20 cz.nd (eI (dI (ae (ac 19) (ae (bn (ae (aJ (ay hr.units1) (ac 8) (aq) (fun _ _=>rfl)) (ae (aJ (ay hr.units1) (ac 8) (aq) (fun _ _=>rfl)) (ae (ac 9) (ae (aJ (ay hr.units1) (ac 10) (aq) (fun _ _=>rfl)) (ae (aJ (ay hr.units1) (ac 10) (aq) (fun _ _=>rfl)) (aj))))))) (aj))))) (ap (aG 21 cz.nd (aQ (uX T) hr.le T.f_23 (ae (ac 4) (ae (ac 6) (ae (ac 20) (aj)))))) (ar (aZ (x_w (iq (cI (bW (aR fH T.z_isinstance Me (ae (ac 21) (ae (fU T.z_bool boot_bool) (aj)))))) (hJ (aX (kK hr.units150) (ac 21) (ac 17))))) (ar (aE (eR))) (aV)))) MI) (ap (aZ (cI (bW (ac 17))) (ar (aE (eR))) (aV)) (ar (aE (cM (dS oLt (ac 1) (aq)) (dU (aQ (GN T) hr.le T.f_15 (ae (ac 4) (ae (ac 18) (ae (aQ (GX T) hr.le T.f_33 (ae (ac 4) (ae (ac 18) (aj)))) (aj)))))))))))))))))))))))))))))))))
omit T
def uK (P:KS)(w:LI)(K:tx)(mg:Str→Option Gt)(fa:Addr):Prop:=∃(fd:KP)(tabs:List (Addr×Addr))(sp:Sp),(∀(s:Ky)(v:Gt),SV s fd ⟨[v],[]⟩ [("_law_script",v)])∧Sj K=true∧(∀t∈tabs,∃y∈(["_law_weak","writing","counting","_law_planted","_law_shown"]:List Str),Oq K y=some t)∧(∀base:Heap,K.In base→base.Ns mainGlobals mg→BM mg base→(∀t∈tabs,Ny base t.1 t.2)→aL P w K mg base (CX1 P w) 148 fa fd ["_law_script"] sp)∧∀(H:Hp)(a:Addr)(ns:List Int),ns.length≤63→(∀t∈tabs,H t.2=some (.tbl #[]))→SqL K H a (ns.map V.int)→sp [.ref a] H (fun v _=>v=.bl true) fun _ _ _=>False
theorem Ez (T:Txt K mg A)(nt:Sj K=true)(tb_29:Oq K "_law_weak"=some (A.k_29,A.t_29))(tb_55:Oq K "writing"=some (A.k_55,A.t_55))(tb_34:Oq K "counting"=some (A.k_34,A.t_34))(tb_20:Oq K "_law_planted"=some (A.k_20,A.t_20))(tb_23:Oq K "_law_shown"=some (A.k_23,A.t_23))(tdn:([A.t_29,A.t_55,A.t_34,A.t_20,A.t_23]:List Addr).Nodup):uK P w K mg A.a_48:=by
 refine⟨A.d_48,[(A.k_29,A.t_29),(A.k_55,A.t_55),(A.k_34,A.t_34),(A.k_20,A.t_20),(A.k_23,A.t_23)],qb K A,T.f_48.f.bt,nt,?_,fun base _ _ B C=>?_,fun H a ns hl hO hS=>⟨a,ns,rfl,hS,hl,⟨hO (A.k_29,A.t_29) (by simp),hO (A.k_55,A.t_55) (by simp),hO (A.k_34,A.t_34) (by simp),hO (A.k_20,A.t_20) (by simp),hO (A.k_23,A.t_23) (by simp),tdn⟩,fun _=>rfl⟩⟩
 ·intro t ht
  simp only[KY,Mb,or_false]at ht
  rcases ht with rfl|rfl|rfl|rfl|rfl
  ·exact⟨"_law_weak",by simp,tb_29⟩
  ·exact⟨"writing",by simp,tb_55⟩
  ·exact⟨"counting",by simp,tb_34⟩
  ·exact⟨"_law_planted",by simp,tb_20⟩
  ·exact⟨"_law_shown",by simp,tb_23⟩
 ·exact GU ⟨T,B,C (A.k_29,A.t_29) (by simp),C (A.k_55,A.t_55) (by simp),C (A.k_34,A.t_34) (by simp),C (A.k_20,A.t_20) (by simp),C (A.k_23,A.t_23) (by simp)⟩
theorem Cr {h:Heap}{fa:Addr}(X:K.In h)(G:h.Ns mainGlobals mg)(hfa:mg "law"=some (.ref fa)){x_46 x_44 x_45 x_49 x_57 x_2 x_12 x_29 x_55 x_1 x_34 x_20 x_26 x_27 x_25 x_3 x_4 x_9 x_37 x_38 x_5 x_36 x_11 x_10 x_7 x_22 x_41 x_6 x_54 x_8 x_39 x_43 x_32 x_31 x_42 x_47 x_53 x_52 x_0 x_50 x_51 x_40 x_23 x_28 x_16 x_13 x_14 x_19 x_18 x_17 x_15 x_33 x_48 y_NoPaper y_NoPlace y_Broken y_StampError y_Numbers y_Row:Addr}{d0 d1 d2 d3 d4 d5 d6 d7 d8 d9 d10 d11 d12 d13 d14 d15 d16 d17 d18 d19 d20 d21 d22 d23 d24 d25 d26 d27 d28 d29 d30 d31 d32 d33 d34 d35 d36 d37 d38 d39 d40 d41 d42 d43 d44 d45 d46 d47 d48 d49 d50 d51 d52:KP}{tc0:Tok}
  (bo_Numbers:NV K mainGlobals "Numbers"=some (some (.ref y_Numbers)))(bo_Row:NV K mainGlobals "Row"=some (some (.ref y_Row)))(bc_NoPaper:NV K mainGlobals "NoPaper"=some (some (.ref y_NoPaper)))(bc_NoPlace:NV K mainGlobals "NoPlace"=some (some (.ref y_NoPlace)))(bc_Broken:NV K mainGlobals "Broken"=some (some (.ref y_Broken)))(bc_StampError:NV K mainGlobals "StampError"=some (some (.ref y_StampError)))(h0:Fa K "is_whole" "is_whole" xF x_46 d0)(h1:Fa K "is_stamp" "is_stamp" xh x_44 d1)(h2:Fa K "is_term" "is_term" zd x_45 d2)(h3:Fa K "part_form" "part_form" zb x_49 d3)(h4:Fa K "written" "written" ya x_57 d4)(a5:Lr K (.ref y_Numbers) "number_of"=some (some (.ref x_2)))(h5:Fun K "number_of" "Numbers.number_of" s_2 x_2 d5)(fn5:OO K (.ref x_2)=true)(h6:Fa K "_law_cell_at" "_law_cell_at" xM x_12 d6)(h7:Fa K "_law_weak" "_law_weak" lx x_29 d7)(tb_29:(Oq K "_law_weak").isSome=true)(h8:Fa K "writing" "writing" lI x_55 d8)(tb_55:(Oq K "writing").isSome=true)(a9:Lr K (.ref y_Numbers) "__init__"=some (some (.ref x_1)))(h9:Fun K "__init__" "Numbers.__init__" s_1 x_1 d9)(fn9:OO K (.ref x_1)=true)(h10:Fa K "counting" "counting" lU x_34 d10)(tb_34:(Oq K "counting").isSome=true)(h11:Fa K "_law_planted" "_law_planted" lJ x_20 d11)(tb_20:(Oq K "_law_planted").isSome=true)(h12:Fa K "_law_stamper" "_law_stamper" yQ x_26 d12)(h13:Fa K "_law_text_by" "_law_text_by" yV x_27 d13)(h14:Fa K "_law_stamp_by" "_law_stamp_by" yY x_25 d14)(a15:Lr K (.ref y_Row) "__init__"=some (some (.ref x_3)))(h15:Fun K "__init__" "Row.__init__" s_3 x_3 d15)(fn15:OO K (.ref x_3)=true)(a16:Lr K (.ref y_Row) "add"=some (some (.ref x_4)))(h16:Fun K "add" "Row.add" s_4 x_4 d16)(fn16:OO K (.ref x_4)=true)(a17:Lr K (.ref y_Row) "size"=some (some (.ref x_9)))(h17:Fun K "size" "Row.size" s_9 x_9 d17)(fn17:OO K (.ref x_9)=true)(h18:Fa K "is_count" "is_count" yI x_37 d18)(h19:Fa K "is_elder" "is_elder" yR x_38 d19)(a20:Lr K (.ref y_Row) "has_elder"=some (some (.ref x_5)))(h20:Fun K "has_elder" "Row.has_elder" s_5 x_5 d20)(fn20:OO K (.ref x_5)=true)(h21:Fa K "half" "half" xu x_36 d21)(a22:Lr K (.ref y_Row) "top_term"=some (some (.ref x_11)))(h22:Fun K "top_term" "Row.top_term" yi x_11 d22)(fn22:OO K (.ref x_11)=true)(a23:Lr K (.ref y_Row) "top_of"=some (some (.ref x_10)))(h23:Fun K "top_of" "Row.top_of" xv x_10 d23)(fn23:OO K (.ref x_10)=true)(a24:Lr K (.ref y_Row) "mark_at"=some (some (.ref x_7)))(h24:Fun K "mark_at" "Row.mark_at" s_7 x_7 d24)(fn24:OO K (.ref x_7)=true)(h25:Fa K "_law_row" "_law_row" yu x_22 d25)(h26:Fa K "is_place" "is_place" yl x_41 d26)(a27:Lr K (.ref y_Row) "has_place"=some (some (.ref x_6)))(h27:Fun K "has_place" "Row.has_place" s_6 x_6 d27)(fn27:OO K (.ref x_6)=true)(h28:Fa K "ways" "ways" xj x_54 d28)(a29:Lr K (.ref y_Row) "place_paper"=some (some (.ref x_8)))(h29:Fun K "place_paper" "Row.place_paper" s_8 x_8 d29)(fn29:OO K (.ref x_8)=true)(h30:Fa K "is_head" "is_head" xo x_39 d30)(h31:Fa K "is_sealed" "is_sealed" xC x_43 d31)(h32:Fa K "check_head" "check_head" yr x_32 d32)(h33:Fa K "are_marks" "are_marks" xA x_31 d33)(h34:Fa K "is_place_paper" "is_place_paper" yE x_42 d34)(h35:Fa K "joint" "joint" xG x_47 d35)(h36:Fa K "place_terms" "place_terms" nJ x_53 d36)(h37:Fa K "place_mark" "place_mark" mU x_52 d37)(a38:Lr K (.ref y_Broken) "__init__"=some (some (.ref x_0)))(h38:Fun K "__init__" "Broken.__init__" s_0 x_0 d38)(fn38:OO K (.ref x_0)=true)(h39:Fa K "place_answer" "place_answer" nN x_50 d39)(h40:Fa K "place_entry" "place_entry" xl x_51 d40)(h41:Fa K "is_lie" "is_lie" wV x_40 d41)(h42:Fa K "_law_shown" "_law_shown" sX x_23 d42)(tb_23:(Oq K "_law_shown").isSome=true)(h43:Fa K "_law_way" "_law_way" yH x_28 d43)(h44:Fa K "_law_near" "_law_near" yS x_16 d44)(h45:Fa K "_law_changed" "_law_changed" xY x_13 d45)(h46:Fa K "_law_climb" "_law_climb" yN x_14 d46)(h47:Fa K "_law_plant" "_law_plant" yZ x_19 d47)(h48:Fa K "_law_planned" "_law_planned" xH x_18 d48)(h49:Fa K "_law_odd" "_law_odd" xI x_17 d49)(h50:Fa K "_law_is_clash" "_law_is_clash" zl x_15 d50)(h51:Fa K "clash" "clash" xN x_33 d51)(h52:Fa K "law" "law" yJ x_48 d52)(pg_Numbers:PQ K y_Numbers MP=true)(hd_Numbers:Pg K y_Numbers=true)(po_Numbers:Rw K y_Numbers=true)(sa_Numbers:Lr K (.ref y_Numbers) "__setattr__"=some (some (.builtin "object.__setattr__")))(na_Numbers_given:Lr K (.ref y_Numbers) "given"=some none)(pg_Row:PQ K y_Row MP=true)(hd_Row:Pg K y_Row=true)(po_Row:Rw K y_Row=true)(sa_Row:Lr K (.ref y_Row) "__setattr__"=some (some (.builtin "object.__setattr__")))(na_Row_stamper:Lr K (.ref y_Row) "stamper"=some none)(na_Row_entries:Lr K (.ref y_Row) "entries"=some none)(na_Row_tops:Lr K (.ref y_Row) "tops"=some none)(mk_Numbers:SN K y_Numbers=true)(kc_Numbers:Oh K (.ref y_Numbers)=true)(mk_Row:SN K y_Row=true)(kc_Row:Oh K (.ref y_Row)=true)(eo_NoPaper:Sk K y_NoPaper veM "ValueError.__new__"=true)(eo_NoPlace:Sk K y_NoPlace veM "ValueError.__new__"=true)(eo2_Broken:mI K y_Broken=true)(eo_StampError:Sk K y_StampError veM "ValueError.__new__"=true)(sa_Broken:Lr K (.ref y_Broken) "__setattr__"=some (some (.builtin "object.__setattr__")))(hd_Broken:Pg K y_Broken=true)(na_Broken_came:Lr K (.ref y_Broken) "came"=some none)(na_Broken_due:Lr K (.ref y_Broken) "due"=some none)(kc_Broken:Oh K (.ref y_Broken)=true)(e0_NoPaper:Lr K (.ref y_NoPaper) "__getattribute__"=some (some (.builtin "BaseException.__getattribute__")))(e1_NoPaper:Lr K (.ref y_NoPaper) "__getattr__"=some none)(e2_NoPaper:Lr K (.ref y_NoPaper) "__class__"=some (some (.builtin "object.__class__")))(em0_NoPaper:Ot K y_NoPaper (.type "object")=some true)(em1_NoPaper:Ot K y_NoPaper (.type "BaseException")=some true)(e0_NoPlace:Lr K (.ref y_NoPlace) "__getattribute__"=some (some (.builtin "BaseException.__getattribute__")))(e1_NoPlace:Lr K (.ref y_NoPlace) "__getattr__"=some none)(e2_NoPlace:Lr K (.ref y_NoPlace) "__class__"=some (some (.builtin "object.__class__")))(em0_NoPlace:Ot K y_NoPlace (.type "object")=some true)(em1_NoPlace:Ot K y_NoPlace (.type "BaseException")=some true)(e0_Broken:Lr K (.ref y_Broken) "__getattribute__"=some (some (.builtin "BaseException.__getattribute__")))(e1_Broken:Lr K (.ref y_Broken) "__getattr__"=some none)(e2_Broken:Lr K (.ref y_Broken) "__class__"=some (some (.builtin "object.__class__")))(em0_Broken:Ot K y_Broken (.type "object")=some true)(em1_Broken:Ot K y_Broken (.type "BaseException")=some true)(sb_NoPaper_StampError:Ot K y_NoPaper (.ref y_StampError)=some true)(sb_NoPlace_StampError:Ot K y_NoPlace (.ref y_StampError)=some true)(sb_Broken_StampError:Ot K y_Broken (.ref y_StampError)=some true)(z_all:NV K mainGlobals "all"=some none)(z_bool:NV K mainGlobals "bool"=some none)(z_int:NV K mainGlobals "int"=some none)(z_isinstance:NV K mainGlobals "isinstance"=some none)(z_len:NV K mainGlobals "len"=some none)(z_list:NV K mainGlobals "list"=some none)(z_min:NV K mainGlobals "min"=some none)(z_range:NV K mainGlobals "range"=some none)(z_reversed:NV K mainGlobals "reversed"=some none)(z_str:NV K mainGlobals "str"=some none)(z_tuple:NV K mainGlobals "tuple"=some none)(z_zip:NV K mainGlobals "zip"=some none)(c_MOST_PARTS:NV K mainGlobals "MOST_PARTS"=some (some (.int 8 tc0)))(nt:Sj K=true)(td:oJ K ["_law_weak","writing","counting","_law_planted","_law_shown"]=true):uK P w K mg fa:=by
 cases hfa.symm.trans (NW X G h52.m)
 obtain⟨⟨z_29,t_29⟩,tb_29⟩:=Lu.mp tb_29
 obtain⟨⟨z_55,t_55⟩,tb_55⟩:=Lu.mp tb_55
 obtain⟨⟨z_34,t_34⟩,tb_34⟩:=Lu.mp tb_34
 obtain⟨⟨z_20,t_20⟩,tb_20⟩:=Lu.mp tb_20
 obtain⟨⟨z_23,t_23⟩,tb_23⟩:=Lu.mp tb_23
 have tdn:([t_29,t_55,t_34,t_20,t_23]:List Addr).Nodup:=xU (by unfold oJ at td;simp only[Lm,Qw,tb_29,tb_55,tb_34,tb_20,tb_23,NM]at td;exact of_decide_eq_true td)
 exact Ez (A:=⟨x_46,d0,x_44,d1,x_45,d2,x_49,d3,x_57,d4,x_2,d5,x_12,d6,x_29,d7,x_55,d8,x_1,d9,x_34,d10,x_20,d11,x_26,d12,x_27,d13,x_25,d14,x_3,d15,x_4,d16,x_9,d17,x_37,d18,x_38,d19,x_5,d20,x_36,d21,x_11,d22,x_10,d23,x_7,d24,x_22,d25,x_41,d26,x_6,d27,x_54,d28,x_8,d29,x_39,d30,x_43,d31,x_32,d32,x_31,d33,x_42,d34,x_47,d35,x_53,d36,x_52,d37,x_0,d38,x_50,d39,x_51,d40,x_40,d41,x_23,d42,x_28,d43,x_16,d44,x_13,d45,x_14,d46,x_19,d47,x_18,d48,x_17,d49,x_15,d50,x_33,d51,fa,d52,z_29,t_29,z_55,t_55,z_34,t_34,z_20,t_20,z_23,t_23,y_NoPaper,y_NoPlace,y_Broken,y_StampError,y_Numbers,y_Row⟩) ⟨h0.fm1 X G,h1.fm1 X G,h2.fm1 X G,h3.fm1 X G,h4.fm1 X G,h5,h5.b2,h6.fm2 X G,h7.fm1 X G,h8.fm0 X G,h9,h9.b1,h10.fm0 X G,h11.fm3 X G,h12.fm4 X G,h13.fm1 X G,h14.fm1 X G,h15,h15.b2,h16,h16.b2,h17,h17.b1,h18.fm1 X G,h19.fm2 X G,h20,h20.b3,h21.fm1 X G,h22,h22.b3,h23,h23.b3,h24,h24.b2,h25.fm3 X G,h26.fm2 X G,h27,h27.b3,h28.fm2 X G,h29,h29.b3,h30.fm1 X G,h31.fm2 X G,h32.fm1 X G,h33.fm2 X G,h34.fm2 X G,h35.fm3 X G,h36.fm4 X G,h37.fm4 X G,h38,h38.b3,h39.fm4 X G,h40.fm4 X G,h41.fm3 X G,h42.fm3 X G,h43.fm2 X G,h44.fm1 X G,h45.fm3 X G,h46.fm5 X G,h47.fm4 X G,h48.fm6 X G,h49.fm2 X G,h50.fm3 X G,h51.fm2 X G,h52.fm1 X G,MO X G z_all,MO X G z_bool,MO X G z_int,MO X G z_isinstance,MO X G z_len,MO X G z_list,MO X G z_min,MO X G z_range,MO X G z_reversed,MO X G z_str,MO X G z_tuple,MO X G z_zip,⟨_,NW X G c_MOST_PARTS⟩,h7.code X G tb_29,h8.code X G tb_55,h10.code X G tb_34,h11.code X G tb_20,h42.code X G tb_23,NW X G bc_NoPaper,dZ.ok eo_NoPaper,NW X G bc_NoPlace,dZ.ok eo_NoPlace,NW X G bc_Broken,eo2_Broken,NW X G bc_StampError,dZ.ok eo_StampError,eo_NoPaper,eo_NoPlace,⟨e0_NoPaper,e1_NoPaper,e2_NoPaper,em0_NoPaper,em1_NoPaper⟩,⟨e0_NoPlace,e1_NoPlace,e2_NoPlace,em0_NoPlace,em1_NoPlace⟩,⟨e0_Broken,e1_Broken,e2_Broken,em0_Broken,em1_Broken⟩,⟨eo2_Broken,sa_Broken,⟨e0_Broken,e1_Broken,e2_Broken,em0_Broken,em1_Broken⟩,na_Broken_came,hd_Broken⟩,⟨eo2_Broken,sa_Broken,⟨e0_Broken,e1_Broken,e2_Broken,em0_Broken,em1_Broken⟩,na_Broken_due,hd_Broken⟩,⟨eo2_Broken,a38,fn38,kc_Broken⟩,lD sb_NoPaper_StampError,lD sb_NoPlace_StampError,lD sb_Broken_StampError,NW X G bo_Numbers,⟨pg_Numbers,hd_Numbers,po_Numbers,sa_Numbers⟩,na_Numbers_given,NW X G bo_Row,⟨pg_Row,hd_Row,po_Row,sa_Row⟩,na_Row_stamper,na_Row_entries,na_Row_tops,⟨a17,fn17,h17.kp⟩,⟨a23,fn23,h23.kp⟩,⟨a22,fn22,h22.kp⟩,⟨a20,fn20,h20.kp⟩,⟨a24,fn24,h24.kp⟩,⟨a16,fn16,h16.kp⟩,⟨a27,fn27,h27.kp⟩,⟨a29,fn29,h29.kp⟩,⟨a5,fn5,h5.kp⟩,⟨mk_Numbers,a9,fn9,kc_Numbers⟩,⟨mk_Row,a15,fn15,kc_Row⟩⟩ nt tb_29 tb_55 tb_34 tb_20 tb_23 tdn
theorem ID {l:W.OpenLaw}{q:KS}{loose:List Str}{XP:(Str→Option Gt)→Heap→Prop}{YP:LI→Heap→Prop}{d:DefRec}{K:Params→tx}(hn:l.most=some 63)(hdf:d.params.defaults=[])
  (hY:∀(w:LI)(h:Heap),YP w h→(K w.params).In h)(hq:∀y∈(["_law_weak","writing","counting","_law_planted","_law_shown"]:List Str),((QR q).find? fun e=>e.name==y).isSome=true)
  (F:∀(w:LI)(mg:Str→Option Gt)(fa:Addr)(h:Heap),(K w.params).In h→h.Ns mainGlobals mg→mg d.name=some (.ref fa)→uK l.prog w (K w.params) mg fa):
  W.WalkO q loose XP YP l.row.toRowW d [] (fun f vs=>SL f vs):=
 L2.xc (n:=63) (k:=148) (x:="_law_script") (CX:=fun w=>CX1 l.prog w) hn (by decide) hdf ⟨rfl,by decide,by decide⟩ hY hq F fun _ _ _ _ _ ⟨_,_,_,_,_,_,z⟩=>z
end
end Rs
def PySem.W.Fast.tw16021154934549124002:Unit:=()
def PySem.W.Fast.tw4560045400137871888:Unit:=()
def PySem.W.Fast.tw3304995518848902272:Unit:=()
def PySem.W.Fast.tw3240724588808313707:Unit:=()
def PySem.W.Fast.tw5671342410529958233:Unit:=()
def PySem.W.Fast.tw15376757674937287764:Unit:=()
def PySem.W.Fast.tw3661422375207641494:Unit:=()
def PySem.W.Fast.tw1980989094137032077:Unit:=()
def PySem.W.Fast.tw1542507332217449244:Unit:=()
def PySem.W.Fast.tw5407978768983115272:Unit:=()
def PySem.W.Fast.tw16245267262625501261:Unit:=()
def PySem.W.Fast.tw15308410135057272977:Unit:=()
def PySem.W.Fast.tw2051736873168261412:Unit:=()
def PySem.W.Fast.tw10426998169141961501:Unit:=()
def PySem.W.Fast.tw8408953760041328193:Unit:=()
def PySem.W.Fast.tw15771635962935640085:Unit:=()
def PySem.W.Fast.tw16447741041700273885:Unit:=()
def PySem.W.Fast.tw9602871721904388224:Unit:=()
def PySem.W.Fast.tw16263376290974129572:Unit:=()
def PySem.W.Fast.tw18205165851136754493:Unit:=()
def PySem.W.Fast.tw2941990868131114638:Unit:=()
def PySem.W.Fast.tw7848139543535822489:Unit:=()
def PySem.W.Fast.tw13536322541808793048:Unit:=()
def PySem.W.Fast.tw13878386251582682731:Unit:=()
def PySem.W.Fast.tw13766048169295133622:Unit:=()
def PySem.W.Fast.tw15126668221004375920:Unit:=()
def PySem.W.Fast.tw3151053680295492309:Unit:=()
def PySem.W.Fast.tw10153759465259719565:Unit:=()
def PySem.W.Fast.tw7273999558743862698:Unit:=()
def PySem.W.Fast.tw5369462731222640874:Unit:=()
def PySem.W.Fast.tw10808648683604008085:Unit:=()
def PySem.W.Fast.tw770749475684538464:Unit:=()
def PySem.W.Fast.tw6491193857727120808:Unit:=()
def PySem.W.Fast.tw12082671835332710395:Unit:=()
def PySem.W.Fast.tw2040349682404230651:Unit:=()
def PySem.W.Fast.tw17590192743840474694:Unit:=()
def PySem.W.Fast.tw7768450650539480817:Unit:=()
def PySem.W.Fast.tw7404309630197094281:Unit:=()
def PySem.W.Fast.tw849658663617957179:Unit:=()
def PySem.W.Fast.tw2792557583820353118:Unit:=()
def PySem.W.Fast.tw8298478114191257255:Unit:=()
def PySem.W.Fast.tw8879336602825277996:Unit:=()
def PySem.W.Fast.tw18110783164063608680:Unit:=()
def PySem.W.Fast.tw16056668146418774426:Unit:=()
def PySem.W.Fast.tw12380793272520472110:Unit:=()
def PySem.W.Fast.tw16811054986737863287:Unit:=()
def PySem.W.Fast.tw15586807766505219645:Unit:=()
def PySem.W.Fast.tw16214657797094280881:Unit:=()
def PySem.W.Fast.tw14527876102674928623:Unit:=()
def PySem.W.Fast.tw232875141080010604:Unit:=()
def PySem.W.Fast.tw13717774356234430072:Unit:=()
def PySem.W.Fast.tw14272756608998421335:Unit:=()
def PySem.W.Fast.tw12615868644584414781:Unit:=()
def PySem.W.Fast.tw16142664410409324796:Unit:=()
def PySem.W.Fast.tw16963844974262936029:Unit:=()
def PySem.W.Fast.tw15637275622231595121:Unit:=()
def PySem.W.Fast.tw1119306584152264817:Unit:=()
def PySem.W.Fast.tw7670926928406631560:Unit:=()
def PySem.W.Fast.tw8180627556634728678:Unit:=()
def PySem.W.Fast.tw11751056205166410330:Unit:=()
def PySem.W.Fast.tw16808072228846004743:Unit:=()
def PySem.W.Fast.tw13998611772609301114:Unit:=()
def PySem.W.Fast.tw17889785440252588324:Unit:=()
def PySem.W.Fast.tw2716795929517644433:Unit:=()
def PySem.W.Fast.tw2988186558504075601:Unit:=()
def PySem.W.Fast.tw15944711947493625039:Unit:=()
def PySem.W.Fast.tw3564857192929102251:Unit:=()
def PySem.W.Fast.tw10220397384949342976:Unit:=()
def PySem.W.Fast.tw409455643134040926:Unit:=()
def PySem.W.Fast.tw7378135977259997852:Unit:=()
def PySem.W.Fast.tw6974894335914027235:Unit:=()
def PySem.W.Fast.tw17831914538686032021:Unit:=()
def PySem.W.Fast.tw7236138493526811458:Unit:=()
def PySem.W.Fast.tw515648413809419335:Unit:=()
def PySem.W.Fast.tw17874224461427515624:Unit:=()
def PySem.W.Fast.tw10166300983686497832:Unit:=()
def PySem.W.Fast.tw8834217446106837947:Unit:=()
def PySem.W.Fast.tw15349321537664482612:Unit:=()
def PySem.W.Fast.tw6036561597879739442:Unit:=()
def PySem.W.Fast.tw8876594043405349592:Unit:=()
def PySem.W.Fast.tw17996415053770266506:Unit:=()
def PySem.W.Fast.tw12822830390479405093:Unit:=()
def PySem.W.Fast.tw8870613545768321788:Unit:=()
def PySem.W.Fast.tw16497674417935357974:Unit:=()
def PySem.W.Fast.tw14570314785367511094:Unit:=()
def PySem.W.Fast.tw17724689104051833032:Unit:=()
def PySem.W.Fast.tw2317213218757913322:Unit:=()
def PySem.W.Fast.tw2317360062078676650:Unit:=()
def PySem.W.Fast.tw11576552726839133494:Unit:=()
def PySem.W.Fast.tw13418236062154277610:Unit:=()
def PySem.W.Fast.tw119391236865517721:Unit:=()
def PySem.W.Fast.tw5444529275437618456:Unit:=()
def PySem.W.Fast.tw8093057931710605764:Unit:=()
def PySem.W.Fast.tw17747398731516758759:Unit:=()
def PySem.W.Fast.tw8103408455818531627:Unit:=()
def PySem.W.Fast.tw11856444185461101276:Unit:=()
def PySem.W.Fast.tw5146881855369472881:Unit:=()
def PySem.W.Fast.tw13226150711527237004:Unit:=()
def PySem.W.Fast.tw1664011074821036597:Unit:=()
def PySem.W.Fast.tw14627903371625699209:Unit:=()
def PySem.W.Fast.tw16705471149397927636:Unit:=()
def PySem.W.Fast.tw7557319852663466097:Unit:=()
def PySem.W.Fast.tw2604851705115698949:Unit:=()
def PySem.W.Fast.tw2380372679664811264:Unit:=()
def PySem.W.Fast.tw5911522731244958152:Unit:=()
def PySem.W.Fast.tw12025769227649720553:Unit:=()
def PySem.W.Fast.tw10088122101958900254:Unit:=()
def PySem.W.Fast.tw13089820644438865530:Unit:=()
def PySem.W.Fast.tw5957454278952067863:Unit:=()
def PySem.W.Fast.tw4748008890614229109:Unit:=()
def PySem.W.Fast.tw11789264380815045866:Unit:=()
def PySem.W.Fast.tw15193788239288357206:Unit:=()
def PySem.W.Fast.tw2561854304633579743:Unit:=()
def PySem.W.Fast.tw4186764722787019384:Unit:=()
def PySem.W.Fast.tw11895539216858037004:Unit:=()
def PySem.W.Fast.tw939542729738057604:Unit:=()
def PySem.W.Fast.tw12628106159302915950:Unit:=()
def PySem.W.Fast.tw637656079818418639:Unit:=()
def PySem.W.Fast.tw9209847247949967874:Unit:=()
def PySem.W.Fast.tw10825674562817252358:Unit:=()
def PySem.W.Fast.tw1525609607159538760:Unit:=()
def PySem.W.Fast.tw11716499431656624978:Unit:=()
def PySem.W.Fast.tw4057412238745350467:Unit:=()
def PySem.W.Fast.tw11129811802688793272:Unit:=()
def PySem.W.Fast.tw17200705037610793786:Unit:=()
def PySem.W.Fast.tw16641935312454128231:Unit:=()
def PySem.W.Fast.tw16569305489061422330:Unit:=()
def PySem.W.Fast.tw4168759184595037568:Unit:=()
def PySem.W.Fast.tw9669041660347730589:Unit:=()
def PySem.W.Fast.tw12142686087835555193:Unit:=()
def PySem.W.Fast.tw7705459482632632873:Unit:=()
def PySem.W.Fast.tw8151207388256085765:Unit:=()
def PySem.W.Fast.tw4639678908882534045:Unit:=()
def PySem.W.Fast.tw9373068676769964668:Unit:=()
def PySem.W.Fast.tw3058697542458021448:Unit:=()
def PySem.W.Fast.tw11425077651613869199:Unit:=()
def PySem.W.Fast.tw13104417111918465268:Unit:=()
def PySem.W.Fast.tw6378786368500264833:Unit:=()
def PySem.W.Fast.tw6450454559526057553:Unit:=()
def PySem.W.Fast.tw8705774496362679996:Unit:=()
def PySem.W.Fast.tw17450416127791420378:Unit:=()
def PySem.W.Fast.tw2158402082174827291:Unit:=()
def PySem.W.Fast.tw6885002588986580993:Unit:=()
def PySem.W.Fast.tw2466894928961559288:Unit:=()
def PySem.W.Fast.tw8062668560117465603:Unit:=()
def PySem.W.Fast.tw2458039202535747450:Unit:=()
def PySem.W.Fast.tw3703648065401127695:Unit:=()
def PySem.W.Fast.tw13351049976094602007:Unit:=()
def PySem.W.Fast.tw7603144038675809102:Unit:=()
def PySem.W.Fast.tw15206726769658102538:Unit:=()
def PySem.W.Fast.tw1126684750490735779:Unit:=()
def PySem.W.Fast.tw2926154965620731810:Unit:=()
def PySem.W.Fast.tw16612871737528564718:Unit:=()
def PySem.W.Fast.tw10134092449767155441:Unit:=()
def PySem.W.Fast.tw7741647930150137436:Unit:=()
def PySem.W.Fast.tw13377932577406524973:Unit:=()
def PySem.W.Fast.tw2881365484709576085:Unit:=()
def PySem.W.Fast.tw8989699248496204758:Unit:=()
def PySem.W.Fast.tw5110220892704432639:Unit:=()
def PySem.W.Fast.tw2052060984508201014:Unit:=()
def PySem.W.Fast.tw13769561108261116022:Unit:=()
def PySem.W.Fast.tw9212826362519564678:Unit:=()
def PySem.W.Fast.tw567280536239349938:Unit:=()
def PySem.W.Fast.tw17274185868382649578:Unit:=()
def PySem.W.Fast.tw7045760794497812061:Unit:=()
def PySem.W.Fast.tw9896028981737055857:Unit:=()
def PySem.W.Fast.tw6394167582530302557:Unit:=()
open PySem PySem.W PyProof.Rows
set_option maxRecDepth 100000 in
set_option maxHeartbeats 0 in
theorem PySem.Challenge.cw_rootstamp_k66_whole_no_lie_of_one_row_holds : PySem.Challenge.rw_rootstamp_k66_whole_no_lie_of_one_row.Holds := by
 w_on; o_law; k_head; (case hw => w_witness2)
 k_fill
 refine Rs.ID (l := PySem.Challenge.rw_rootstamp_k66_whole_no_lie_of_one_row) rfl rfl (fun w h Y => by first | exact PySem.W.kIn_of Y | exact PySem.W.km_in_of Y) (by decide +kernel) ?F
 case F =>
  intro w mg fa h KX G hmg
  refine' Rs.Cr KX G hmg ?bo_Numbers ?bo_Row ?bc_NoPaper ?bc_NoPlace ?bc_Broken ?bc_StampError (L2.bg ?a0 ?l0 ?c0 ?k0) (L2.bg ?a1 ?l1 ?c1 ?k1) (L2.bg ?a2 ?l2 ?c2 ?k2) (L2.bg ?a3 ?l3 ?c3 ?k3) (L2.bg ?a4 ?l4 ?c4 ?k4) ?a5 (L2.dz ?l5 ?c5 ?k5) ?fn5 (L2.bg ?a6 ?l6 ?c6 ?k6) (L2.bg ?a7 ?l7 ?c7 ?k7) ?tb_29 (L2.bg ?a8 ?l8 ?c8 ?k8) ?tb_55 ?a9 (L2.dz ?l9 ?c9 ?k9) ?fn9 (L2.bg ?a10 ?l10 ?c10 ?k10) ?tb_34 (L2.bg ?a11 ?l11 ?c11 ?k11) ?tb_20 (L2.bg ?a12 ?l12 ?c12 ?k12) (L2.bg ?a13 ?l13 ?c13 ?k13) (L2.bg ?a14 ?l14 ?c14 ?k14) ?a15 (L2.dz ?l15 ?c15 ?k15) ?fn15 ?a16 (L2.dz ?l16 ?c16 ?k16) ?fn16 ?a17 (L2.dz ?l17 ?c17 ?k17) ?fn17 (L2.bg ?a18 ?l18 ?c18 ?k18) (L2.bg ?a19 ?l19 ?c19 ?k19) ?a20 (L2.dz ?l20 ?c20 ?k20) ?fn20 (L2.bg ?a21 ?l21 ?c21 ?k21) ?a22 (L2.dz ?l22 ?c22 ?k22) ?fn22 ?a23 (L2.dz ?l23 ?c23 ?k23) ?fn23 ?a24 (L2.dz ?l24 ?c24 ?k24) ?fn24 (L2.bg ?a25 ?l25 ?c25 ?k25) (L2.bg ?a26 ?l26 ?c26 ?k26) ?a27 (L2.dz ?l27 ?c27 ?k27) ?fn27 (L2.bg ?a28 ?l28 ?c28 ?k28) ?a29 (L2.dz ?l29 ?c29 ?k29) ?fn29 (L2.bg ?a30 ?l30 ?c30 ?k30) (L2.bg ?a31 ?l31 ?c31 ?k31) (L2.bg ?a32 ?l32 ?c32 ?k32) (L2.bg ?a33 ?l33 ?c33 ?k33) (L2.bg ?a34 ?l34 ?c34 ?k34) (L2.bg ?a35 ?l35 ?c35 ?k35) (L2.bg ?a36 ?l36 ?c36 ?k36) (L2.bg ?a37 ?l37 ?c37 ?k37) ?a38 (L2.dz ?l38 ?c38 ?k38) ?fn38 (L2.bg ?a39 ?l39 ?c39 ?k39) (L2.bg ?a40 ?l40 ?c40 ?k40) (L2.bg ?a41 ?l41 ?c41 ?k41) (L2.bg ?a42 ?l42 ?c42 ?k42) ?tb_23 (L2.bg ?a43 ?l43 ?c43 ?k43) (L2.bg ?a44 ?l44 ?c44 ?k44) (L2.bg ?a45 ?l45 ?c45 ?k45) (L2.bg ?a46 ?l46 ?c46 ?k46) (L2.bg ?a47 ?l47 ?c47 ?k47) (L2.bg ?a48 ?l48 ?c48 ?k48) (L2.bg ?a49 ?l49 ?c49 ?k49) (L2.bg ?a50 ?l50 ?c50 ?k50) (L2.bg ?a51 ?l51 ?c51 ?k51) (L2.bg ?a52 ?l52 ?c52 ?k52) ?pg_Numbers ?hd_Numbers ?po_Numbers ?sa_Numbers ?na_Numbers_given ?pg_Row ?hd_Row ?po_Row ?sa_Row ?na_Row_stamper ?na_Row_entries ?na_Row_tops ?mk_Numbers ?kc_Numbers ?mk_Row ?kc_Row ?eo_NoPaper ?eo_NoPlace ?eo2_Broken ?eo_StampError ?sa_Broken ?hd_Broken ?na_Broken_came ?na_Broken_due ?kc_Broken ?e0_NoPaper ?e1_NoPaper ?e2_NoPaper ?em0_NoPaper ?em1_NoPaper ?e0_NoPlace ?e1_NoPlace ?e2_NoPlace ?em0_NoPlace ?em1_NoPlace ?e0_Broken ?e1_Broken ?e2_Broken ?em0_Broken ?em1_Broken ?sb_NoPaper_StampError ?sb_NoPlace_StampError ?sb_Broken_StampError ?z_all ?z_bool ?z_int ?z_isinstance ?z_len ?z_list ?z_min ?z_range ?z_reversed ?z_str ?z_tuple ?z_zip ?c_MOST_PARTS ?nt ?td
  case bo_Numbers | bo_Row | bc_NoPaper | bc_NoPlace | bc_Broken | bc_StampError | a0 | l0 | c0 | k0 | a1 | l1 | c1 | k1 | a2 | l2 | c2 | k2 | a3 | l3 | c3 | k3 | a4 | l4 | c4 | k4 | a5 | l5 | c5 | k5 | fn5 | a6 | l6 | c6 | k6 | a7 | l7 | c7 | k7 => k_is
  case tb_29 => kernel_rfl
  case a8 | l8 | c8 | k8 => k_is
  case tb_55 => kernel_rfl
  case a9 | l9 | c9 | k9 | fn9 | a10 | l10 | c10 | k10 => k_is
  case tb_34 => kernel_rfl
  case a11 | l11 | c11 | k11 => k_is
  case tb_20 => kernel_rfl
  case a12 | l12 | c12 | k12 | a13 | l13 | c13 | k13 | a14 | l14 | c14 | k14 | a15 | l15 | c15 | k15 | fn15 | a16 | l16 | c16 | k16 | fn16 | a17 | l17 | c17 | k17 | fn17 | a18 | l18 | c18 | k18 | a19 | l19 | c19 | k19 | a20 | l20 | c20 | k20 | fn20 | a21 | l21 | c21 | k21 | a22 | l22 | c22 | k22 | fn22 | a23 | l23 | c23 | k23 | fn23 | a24 | l24 | c24 | k24 | fn24 | a25 | l25 | c25 | k25 | a26 | l26 | c26 | k26 | a27 | l27 | c27 | k27 | fn27 | a28 | l28 | c28 | k28 | a29 | l29 | c29 | k29 | fn29 | a30 | l30 | c30 | k30 | a31 | l31 | c31 | k31 | a32 | l32 | c32 | k32 | a33 | l33 | c33 | k33 | a34 | l34 | c34 | k34 | a35 | l35 | c35 | k35 | a36 | l36 | c36 | k36 | a37 | l37 | c37 | k37 | a38 | l38 | c38 | k38 | fn38 | a39 | l39 | c39 | k39 | a40 | l40 | c40 | k40 | a41 | l41 | c41 | k41 | a42 | l42 | c42 | k42 => k_is
  case tb_23 => kernel_rfl
  case a43 | l43 | c43 | k43 | a44 | l44 | c44 | k44 | a45 | l45 | c45 | k45 | a46 | l46 | c46 | k46 | a47 | l47 | c47 | k47 | a48 | l48 | c48 | k48 | a49 | l49 | c49 | k49 | a50 | l50 | c50 | k50 | a51 | l51 | c51 | k51 | a52 | l52 | c52 | k52 | pg_Numbers | hd_Numbers | po_Numbers | sa_Numbers | na_Numbers_given | pg_Row | hd_Row | po_Row | sa_Row | na_Row_stamper | na_Row_entries | na_Row_tops | mk_Numbers | kc_Numbers | mk_Row | kc_Row => k_is
  case eo_NoPaper | eo_NoPlace => k_exc
  case eo2_Broken => kernel_rfl
  case eo_StampError => k_exc
  case sa_Broken | hd_Broken | na_Broken_came | na_Broken_due | kc_Broken | e0_NoPaper | e1_NoPaper | e2_NoPaper | em0_NoPaper | em1_NoPaper | e0_NoPlace | e1_NoPlace | e2_NoPlace | em0_NoPlace | em1_NoPlace | e0_Broken | e1_Broken | e2_Broken | em0_Broken | em1_Broken | sb_NoPaper_StampError | sb_NoPlace_StampError | sb_Broken_StampError | z_all | z_bool | z_int | z_isinstance | z_len | z_list | z_min | z_range | z_reversed | z_str | z_tuple | z_zip | c_MOST_PARTS => k_is
  case nt | td => kernel_rfl
