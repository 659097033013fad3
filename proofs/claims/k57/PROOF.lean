import PyProof.Rows.All
import Wide.All
import OpenK.AllK
import Wide.FinOn
import Lean
import PyProof.EqAt
import PyProof.EqKinds
import PyProof.TupleCall
import PyProof.P3In
import KE.KDictLaws
import KE.KTabLook
import KE.KRevIter
import KE.KItemsList
import PyProof.TupleOfGen
import KE.KSortTup
import KE.KDictSum
import KE.KEqDict
import PyProof.EnumMake
import PyProof.EnumFor
import PyProof.EnumStmt
import PyProof.AttrMissHeap
import KE.KDictOf
import PyProof.Rows.SortShell
import KE.KDictList
import PyProof.Rows.StrJoinRep
import PyProof.NeKinds
import KE.KUnpack
import PyProof.Rows.SetFrom
import PyProof.CollectIter
import PyProof.Rows.RegSetRoads
import PySem.Challenge.RW_rootstamp_k57_whole_one_full_paper
set_option genSizeOf false
set_option compiler.extract_closed false
set_option Elab.async false
set_option linter.all false
set_option maxRecDepth 100000
set_option maxHeartbeats 4000000
open Array renaming getElem?_eq_getElem->Jp,getElem?_eq_some_iff->JT,length_toList->Ko,getElem?_toList->Kx,getElem?_eq_none->Lk,getD->NF,toList_push->Ol,getElem?_setIfInBounds_ne->Om,all_eq_true->On,getD_eq_getD_getElem?->ON,forIn_toList->QK,append_assoc->QL,toList->Sy
open Bool renaming false_ne_true->Jc,and_eq_true_iff->Jf,and_eq_true->Jt,false_eq_true->KD,eq_iff_iff->MQ,not_eq_true'->Nh,true_and->Oe,not_eq_false'->Of,and_false->Px,or_false->PV,or_true->Qk,or_eq_true->RT,false_and->Si,false_or->Ss,and_true->Sv,true_or->Tq
open Classical renaming byContradiction->Ls
open False renaming elim->Kg
open ForInStep renaming yield->Qy
open Int renaming eq_ofNat_of_zero_le->JW,toNat_natCast->Kb,emod_lt_of_pos->KH,emod_nonneg->Ll,one_mul->Nv,le_refl->Nw,fdiv_eq_ediv_of_nonneg->Pw,natCast_ediv->RS,ediv_nonneg->Sh
open LawfulBEq renaming eq_of_beq->RJ
open LawfulMonad renaming pure_bind->RI,bind_assoc->Tp
open List renaming getElem?_eq_getElem->IR,length_map->IU,getElem?_eq_some_iff->IW,size_toArray->IX,mem_cons->IY,mem_cons_of_mem->Je,length_append->Jg,getD_eq_getElem?_getD->Jk,not_mem_nil->Jl,mem_of_getElem?->Jq,getElem?_map->Jr,mem_append_right->Jv,mem_cons_self->Jw,length_take->Jz,map_append->JD,mem_singleton->JJ,length_cons->JU,map_cons->JY,mem_append->Ka,filterMap_cons->Kp,getElem?_append_right->Kq,nodup_cons->Ks,getElem?_append_left->Kt,length_drop->Ku,all_eq_true->Kv,mem_map->Ky,take_of_length_le->KL,lookup->KO,append_assoc->KP,getElem?_reverse->KR,getElem?_eq_none->KS,forIn_cons->KU,append_nil->KW,mem_append_left->Lf,lookup_cons->Lv,mem_iff_getElem?->Lx,forIn_nil->LA,zipIdx_cons->Mk,zip->Ml,zipIdx_nil->Mu,of_mem_zip->Mv,length_eq_zero_iff->Mw,find?_cons->Mx,getElem_mem->MI,mem_iff_getElem->MK,map_drop->MM,range->MN,getLast?_eq_getElem?->MY,take_sublist->Nf,reverse_cons->Ng,map_take->Nq,getLast?_cons_cons->Nr,getElem?_set_self->Nx,length_replicate->NE,mem_of_mem_take->NL,getElem?_set_ne->NM,mem_range->NQ,toList_toArray->NV,pairwise_cons->Ob,mem_filterMap->Oc,contains_cons->Od,getLast?_map->Ov,map_nil->OB,getLast?_eq_some_getLast->OF,any_eq_true->OG,nil_append->OU,length_nil->OV,length->OW,length_eraseIdx_of_lt->Pe,replicate->Ps,pairwise_iff_getElem->Pt,mem_of_find?_eq_some->Pu,getElem?_take_of_lt->PJ,getElem?_replicate->PQ,any_cons->PR,all_cons->PU,pairwise_lt_range->Qd,drop_eq_nil_of_le->Qe,lookup_cons_self->Qi,length_singleton->Qj,pairwise_append->Qv,getLast?_append->Qw,dropLast_concat->Qx,getElem?_take->Rb,take_add_one->Rj,nodup_append->Rk,length_range->Rl,find?_append->Rm,ext_getElem?->Rn,drop_sublist->Ro,take_length->RF,getElem_inj->RG,cons_append->RH,mem_filter->RQ,take_succ->Sf,drop_zero->Sg,sum_cons->Sr,toArray->Tj
open List.Pairwise renaming sublist->OC,nil->Pf,of_map->Tl,imp->To
open Nat renaming le_refl->IV,ne_of_lt->Jb,lt_of_lt_of_le->Jm,le_trans->JQ,ne_of_gt->Kc,zero_le->Kf,lt_irrefl->KG,lt_of_le_of_lt->Ly,le_of_lt->Lz,lt_or_ge->LK,le_succ->LO,lt_succ_self->Mm,le_add_right->MJ,pow_le_pow_right->ML,le_of_eq->MX,lt_trichotomy->Nk,lt_succ_of_lt->Nl,sub_zero->OE,log2_self_le->OM,log2->OT,two_pow_pos->Pc,div_add_mod->Pd,mod_two_eq_zero_or_one->Pr,pow_lt_pow_iff_right->PP,sub_self->Qt,lt_trans->Qu,pow_lt_pow_right->QJ,log2_lt->Ra,min_le_right->RP,min_le_left->Se
open Nat.succ renaming inj->Pq
open Ne renaming symm->KQ
open Option renaming isSome_iff_exists->JR,map_some->Mq,map_map->OS,map_eq_some_iff->PF,isSome_map->QG,getD_some->QY,getD_none->QZ
open Option.some renaming inj->Js
open Or renaming inr->RE
open PyProof.Rows renaming callWith_type1->JP,boot_isinstance->JS,slot_tuple_getitem->Kl,boot_tuple->Mb,AllBare->NJ,IsTup->NP,IntsAre->OA,recsOf->OR,boot_str->PN,getItem_tuple->QV,firstMet_succ->QX,subscriptTail_builtinR->Ri,zipApart_new->RC,entry_tuple_getitem->Sd,firstMet_length_le->So,args_tuple_getitem->Sq
open PyProof.Rows.F renaming plain_set_update_loop->ND,entry_set_update_loop->Qs
open PyProof.Rows.IsTup renaming new->RD
open PySem renaming wpAny_bind->cW,wpAny_pure->tx,Value->Gt,Shared->IQ,Program->Jd,wpAny_field->Jh,wpAny_callSpecial?_slot->Jj,FuncData->Jn,wpAny_call_entry->Jo,wpAny_mono->Ju,wpAny_setField_rec->Jx,wpAny_newObj_type->JF,wpAny_seqItems->JH,boot_len->JI,Around->JK,World->JL,wpAny_Call_Name_kw->Ke,wpAny_holding->Km,wpAny_attempt->Kn,IsPair->KA,sizeLine_eq->KB,builtinLookup_eq_fast->KC,Builtin->KF,mem_of_lookup->KM,wpAny_rule->KY,wpAny_of_eq->KZ,wpAny_updateSeq_pair->Lj,wpAny_setField->Lm,wpAny_truthy_bool->Lp,wpAny_setState_of->Lq,wpAny_loadPart_at->Lr,wpAny_onRaise->LB,isSubtype_type->LD,SetTable->LI,NameKind->LJ,wpAny_specialOf->LL,typeLookup_type->LM,codeAny_builtin->LN,wpAny_isSubtype_exc->LS,ZipApart->LU,wpAny_pyIter_zip->LX,wpAny_isInstance->LY,wpAny_passesOwn->Mg,codeAny_mono->Mh,wpAny_askSetting->Mr,wpAny_setEntries_of->My,wpAny_letGo->Mz,wpAny_updateSeq->MB,wpAny_execs_nil->MC,plainId_quiet->MD,IsZip->MU,wpAny_typeOf->Nm,wpAny_pyIter_tuple->Nn,tupleKind_room_in1->Np,wpAny_letOwnedTupleGo_zip->Nt,isSubtype_stop->Nu,wpAny_pyIter_slot->Ny,wpAny_pyIter_list->Nz,atKey_none_of_get->NA,wpAny_standAt->NG,ExceptHandler->NI,wpAny_execs_cons->NK,wpAny_loadPart'->NW,wpAny_call->NZ,wpAny_pyIter_revIter->Og,wpAny_newFunctionEnv->Oh,codeAny_call_builtin->Oi,wpAny_newTuple->Oo,wpAny_fieldsOf->Oq,Result->Ou,wpAny_handled->OH,signature?_of->OI,GenState->OK,fits_of_scanBound->OX,PlainAttrs->OZ,callType_new->Pg,IsPart->Pm,noFill_tuple_add->Py,wpAny_throw->PY,codeAny_of_tree->PZ,Within->Qa,PassesOwn->Qb,wpAny_newFunctionEnv_cells->Qf,entryFor_alias->Ql,wpAny_comprehension_free->Qz,PyData->QB,seq_tuple_add->QN,call->QP,BindsTo->QU,wpAny_nextOf_list_item->Rc,codeAny_compStart_list->Re,wpAny_notOrdered_dict->Rp,wpAny_nextOf_list_end->Rq,concat_meets->Rr,codeAny_call_function->Rt,call_meetsIn->Ru,CmpOp->Rw,relayAll->RL,wpAny_mkInt->RU,storedH_new->RV,kt_meets_setdefault->RW,Model->RY,ElemsOf->Sb,layNew->Sj,call_reversed_list->Sk,wpAny_storeSet_of->Sz,wpAny_sequenceKey->SE,wpAny_dictEntries->SH,wpAny_assign_Name->SI,wpAny_Return_some->SJ,wpAny_Name->SK,typeIs_str->SL,call_meets->SM
open PySem.Around renaming under_plainId->Lc,under->PM,frames_deeper->Qc
open PySem.Builtin renaming bitNot->JZ,bitAnd->Lu,bitXor->Mf
open PySem.Builtin.Dict renaming keyAndDefault->NY
open PySem.Builtin.Frozenset renaming updateFrom->Rx,slot0->Ry,sizeOf->Rz,newClass->RA,addrOf->RB
open PySem.Builtin.Int renaming intBits->Le
open PySem.Builtin.List renaming listExtendWith->Kw,listSameRef->Mc,listLengthHint->NU,listItems->Oz
open PySem.Builtin.Range renaming rangeSize->Th
open PySem.Builtin.Slice renaming slicePlaces->LW,sliceAdjust->MG,sliceApplied->NT,slicePartIndex->Tf,sliceFields->Tg
open PySem.Builtin.SmallTypes renaming nextOf->IZ,ownedTupleIsFree->Ja,ownedTupleHandOut->JV
open PySem.Builtin.Str renaming occurrences->Oy
open PySem.Builtin.Tuple renaming tupleExact->Ma,tupleItemsOf->NS,tupleIsExact->Td
open PySem.Calls renaming Name_function_global->MS,spliced_cons->MT,spliced_nil->Oj,call_function_entry->Pb,loadGlobal_global->PD,callWith_builtin->PL
open PySem.Code renaming quiet_builtin->Oa,isFrame->Qh
open PySem.EntryCells renaming newEntry->Pp
open PySem.EqMixed renaming ne_str_int->SV,ne_str_bool->SW,ne_int_str->SX,ne_bool_str->SY,eq_str_int->SZ,eq_str_bool->Ta,eq_int_str->Tb,eq_bool_str->Tc
open PySem.F renaming slot_list_append->Jy,type_list_append->JB,plainAttrs_list->JE,slot_zip_next->Ki,slot_dict_setdefault->Kj,plain_extend_loop->La,args_dict_setdefault_3->LC,entry_dict_setdefault->LG,args_zip_next_1->LH,entry_zip_next->LV,slot_tuple_iterator_next->Mj,called_set->Mt,type_dict_setdefault->MF,args_tuple_add_2->MV,plainAttrs_dict->Nb,entry_tuple_add->Nc,slot_tuple_add->Nj,slot_lri_next->NO,args_object_init_3->NX,entry_extend_loop->OL,slot_str_ascii_iterator_iter->OQ,typeCall_zip_2->Pa,args_tuple_iterator_next_1->Po,newCall_zip_2->Pz,entry_zip_new->PB,entry_tuple_iterator_next->PC,called_zip->QR,slot_tuple_eq_refl->Rg,excAttr_ValueError->Rh,plain_list_iadd->RZ,args_lri_next_1->Sa,entry_lri_next->Sn,slot_set_iter->SQ,slot_dict_len->SR,plain_set_new->SU
open PySem.Heap renaming get?_push_of_some->gV,lt_size->IS,get?_push_size->IT,get?_update_self->JC,size_push->JG,get?_update_other->JX,SameBut->Kh,ExtBut->MP,size_update->OD,IsTuple->Qg,get?_none_of_le->Qr,get?_update_ne->QF
open PySem.Heap.IsSliceOf renaming new->Sm
open PySem.Heap.SameBut renaming update->JN,refl->Pn
open PySem.IntMulOk renaming of_left->LF,of_right->Ms
open PySem.Manifest renaming owners->QD
open PySem.NameKind renaming free->Lo,cell->MW
open PySem.Obj renaming data_mapFields->JO,isFreed_of_fields->Kz,mapSeq->Lb,mapFields->Li,cls_mapFields->Me,data_mapDictKeys->QC
open PySem.PassesOwn renaming never->Kr
open PySem.PyData renaming depthAll->JA,eqvAll->KN,canLayAll0->Lg,tuple->Lt,strOk->MR
open PySem.SeqAt.EqAt renaming int_int->NN,str_int->Ow,int_str->Ox,str_str->RO
open PySem.SetTable renaming below->KJ,grown->Md,has->Pl,slot->Rf
open PySem.SetTable.below renaming go->Mi
open PySem.SetTable.probe renaming go->OP
open PySem.Shared renaming heap->Nd,TypeIs->Pj
open PySem.Str renaming ofString->JM,empty->NH,append_empty->RN
open PySem.Txt renaming slice->ME
open PySem.Value renaming ref->Ji,none->Kk,bool->Lh,type->LP,str->MZ,int->Na,builtin->Ni,isInt->Qp,float->Qq,isStrOf->RX,bytes->SO
open PySem.Value.type renaming inj->Ot
open PySem.W renaming Frag->If,mg_none_of->KI,fnOf->Mo,findIn->Mp,kia_one->MA,hideAll_none->MH,nsIn->MO,mg_of->NB,hideAll_get->NC,CodeHd->NR,mroIn->OJ,envX->OO,cellsFrom_some->OY,keepIn->Ph,tabObj->Qm,tabIn->Qn,noTabs->Qo,of_hideAll->QQ,methodObj->Rv,codeIn->RM,instObj->SN
open PySem.Within renaming cons->Sl
open String renaming ofList->RK
open Sum renaming inl->LR,inr->Mn
open Sum.inl renaming inj->PX
open True renaming intro->LQ
namespace L2
open PySem PySem.Spec PyProof.Rows
abbrev Key:=Sum Int Str
def jT:Key->Gt->Bool
 |.inl k,v=>Qp k v
 |.inr x,v=>RX x v
def Ij (w:JL):Key->Int
 |.inl k=>hashInt k
 |.inr x=>hashStr w x
theorem cp:∀{k:Key}{v:Gt},jT k v=true->(∃i t,k=LR i/\v=Na i t)\/(∃x t,k=Mn x/\v=MZ x t)
 |.inl i,v,h=>by
  obtain⟨t,e⟩:=Value.isInt_shape (k:=i) (v:=v) h
  exact .inl ⟨i,t,rfl,e⟩
 |.inr x,v,h=>by
  obtain⟨t,e⟩:=Value.isStrOf_shape (x:=x) (v:=v) h
  exact .inr ⟨x,t,rfl,e⟩
def tG (i:Int)(t:Tok):jT (.inl i) (.int i t)=true:=by simp[jT,Qp]
def uD (x:Str)(t:Tok):jT (.inr x) (.str x t)=true:=by simp[jT,RX]
def Cf (a b:Int):decide ((LR a:Key)=LR b)=(a==b):=by
 by_cases e:a=b
 ·subst e;simp
 ·have h:¬(LR a:Key)=LR b:=fun q=>e (PX q)
  rw[decide_eq_false h]
  exact(beq_eq_false_iff_ne.mpr e).symm
def Aw (a b:Str):decide ((Mn a:Key)=Mn b)=decide (a=b):=by
 by_cases e:a=b
 ·subst e;simp
 ·have h:¬(Mn a:Key)=Mn b:=fun q=>e (Sum.inr.inj q)
  rw[decide_eq_false h,decide_eq_false e]
def Bn (a:Int)(b:Str):decide ((LR a:Key)=Mn b)=false:=decide_eq_false (fun q=>nomatch q)
def BQ (a:Str)(b:Int):decide ((Mn a:Key)=LR b)=false:=decide_eq_false (fun q=>nomatch q)
def bY (prog:Jd)(w:JL):PySem.KeyKind prog w Key where
 is:=jT
 hash:=Ij w
 inj:=fun v a b ha hb=>by
  rcases cp ha with⟨i,t,rfl,rfl⟩|⟨x,t,rfl,rfl⟩
  ·rcases cp hb with⟨j,u,rfl,e⟩|⟨y,u,rfl,e⟩
   ·injection e with e1 _;rw[e1]
   ·exact nomatch e
  ·rcases cp hb with⟨j,u,rfl,e⟩|⟨y,u,rfl,e⟩
   ·exact nomatch e
   ·injection e with e1 _;rw[e1]
 byValue:=fun k v h=>by
  rcases cp h with⟨i,t,rfl,rfl⟩|⟨x,t,rfl,rfl⟩<;>rfl
 pyHash:=fun hv h=>by
  rcases cp hv with⟨i,t,rfl,rfl⟩|⟨x,t,rfl,rfl⟩
  ·exact wpAny_pyHash_int h
  ·exact wpAny_pyHash_str h
 eqBool:=fun hu hv h=>by
  rcases cp hu with⟨i,t,rfl,rfl⟩|⟨x,t,rfl,rfl⟩
  ·rcases cp hv with⟨j,u,rfl,rfl⟩|⟨y,u,rfl,rfl⟩
   ·rw[Cf]at h;exact wpAny_eqBool_int h
   ·rw[Bn]at h;exact Ox i t y u _ _ _ _ h
  ·rcases cp hv with⟨j,u,rfl,rfl⟩|⟨y,u,rfl,rfl⟩
   ·rw[BQ]at h;exact Ow x t j u _ _ _ _ h
   ·rw[Aw]at h;exact wpAny_eqBool_str h
 «strs»:=fun k x t v h=>by
  rcases cp h with⟨i,u,rfl,e⟩|⟨y,u,rfl,e⟩
  ·exact nomatch e
  ·injection e with e1 _
   subst e1
   cases v<;>rfl
def qh (prog:Jd)(w:JL)(i:Int)(t:Tok):(bY prog w).is (.inl i) (.int i t)=true:=tG i t
def qg (prog:Jd)(w:JL)(x:Str)(t:Tok):(bY prog w).is (.inr x) (.str x t)=true:=uD x t
inductive V where
 |non|bl (b:Bool)|int (i:Int)|str (x:Str)|byt (b:Array UInt8)|flt (b:UInt64)|ref (a:Addr)|ty (n:String)
 deriving DecidableEq
def aY:V->Gt->Prop
 |.non,u=>u=Kk
 |.bl b,u=>u=Lh b
 |.int i,u=>∃t,u=Na i t
 |.str x,u=>∃t,u=MZ x t
 |.byt b,u=>∃t,u=SO b t
 |.flt b,u=>∃t,u=Qq b t
 |.ref a,u=>u=Ji a
 |.ty n,u=>u=LP n
abbrev aX:List V->List Gt->Prop:=Paired aY
def aX.length {xs:List V}{us:List Gt}(r:aX xs us):xs.length=us.length:=Paired.length r
theorem aX.get:∀{xs:List V}{us:List Gt}{i:Nat}{x:V},aX xs us->xs[i]? =some x->∃u,us[i]? =some u/\aY x u
 |_,_,_,_,.nil,e=>by simp at e
 |_,_,0,_,.cons r _,e=>by simp at e;subst e;exact⟨_,rfl,r⟩
 |_,_,i+1,x,.cons _ t,e=>by
  obtain⟨u,h1,h2⟩:=aX.get (i:=i) (x:=x) t (by simpa using e)
  exact⟨u,by simpa using h1,h2⟩
theorem aX.append:∀{xs ys:List V}{us ws:List Gt},aX xs us->aX ys ws->aX (xs++ys) (us++ws)
 |_,_,_,_,.nil,s=>s
 |_,_,_,_,.cons r t,s=>.cons r (aX.append t s)
theorem aX.take:∀{xs:List V}{us:List Gt}(n:Nat),aX xs us->aX (xs.take n) (us.take n)
 |_,_,0,_=>.nil
 |_,_,_+1,.nil=>.nil
 |_,_,n+1,.cons r t=>.cons r (aX.take n t)
theorem aX.drop:∀{xs:List V}{us:List Gt}(n:Nat),aX xs us->aX (xs.drop n) (us.drop n)
 |_,_,0,r=>r
 |_,_,_+1,.nil=>.nil
 |_,_,n+1,.cons _ t=>aX.drop n t
def cM:Option V->Option Gt->Prop
 |some v,some u=>aY v u
 |none,none=>True
 |_,_=>False
def KV {κ:Type}:List (κ×V)->List (κ×Gt)->Prop:=Paired fun(p:κ×V)(q:κ×Gt)=>p.1=q.1/\aY p.2 q.2
def kV:Key->V
 |.inl i=>.int i
 |.inr x=>.str x
inductive HO where
 |lst (xs:List V)
 |tup (xs:List V)
 |dK (kvs:List (Key×V))|dT (kvs:List (List Key×V))
 |set (S:Int->Bool) (n:Nat)
 |ins (C dx:Addr) (fs:List (Str×V))
 |own (x:Addr)
 |xd (fs:List (Str×V))
 |met (f x:Addr)
 |rng (lo hi:Int)
 |frz (o:Obj) (u:HO)
 |tbl (ps:Array Gt)
 |ext (φ:Heap->Prop)
abbrev Hp:=Addr->Option HO
def upd (H:Hp)(a:Addr)(o:HO):Hp:=fun b=>if b=a then some o else H b
def al {H:Hp}{a:Addr}{o:HO}:upd H a o a=some o:=by unfold upd;rw[if_pos rfl]
def ap {H:Hp}{a b:Addr}{o:HO}(h:b≠a):upd H a o b=H b:=by unfold upd;rw[if_neg h]
def eW {H:Hp}{a:Addr}{o u:HO}:upd (upd H a o) a u=upd H a u:=by
 funext b;unfold upd;split<;>rfl
def de {H:Hp}{a b:Addr}{o u:HO}(h:H a=some o)(h':H b=some u)(d:o≠u):a≠b:=by
 intro e;subst e;rw[h]at h';exact d (Js h')
def ay {H:Hp}{a b:Addr}{o:HO}(h:H a=some o)(h':H b=none):a≠b:=by
 intro e;subst e;rw[h]at h';cases h'
section
variable (P:Jd)(w:JL)
def aU (H:Hp)(h:Heap)(a:Addr):HO->Prop
 |.lst xs=>xs.length<=sizeLine/\∃(its:List Gt)(n:Nat),aX xs its/\h.get? a=some {cls:=.type "list",data:=.seq its.toArray n}
 |.tup xs=>xs.length<=sizeLine/\∃its:List Gt,aX xs its/\NP h a its.toArray
 |.dK kvs=>kvs.length<=sizeLine/\(a==sysModules)=false/\∃vs,KV kvs vs/\h.DictOf (bY P w) a vs
 |.dT kvs=>kvs.length<=sizeLine/\(a==sysModules)=false/\∃xs:List (List Key×Addr×Gt),
  Paired (fun(p:List Key×V)(q:List Key×Addr×Gt)=>p.1=q.1/\H q.2.1=some (.tup (p.1.map kV))/\aY p.2 q.2.2) kvs xs/\
  ∃o es ep,h.get? a=some o/\o.ExactDict/\o.data=.dict es ep/\es.toList=xs.map (entryOfKey (tupleKind (bY P w)))/\(xs.map (·.1)).Nodup
 |.set S n=>h.SetOf (intKind P w) a S n
 |.ins C dx fs=>H dx=some (.own a)/\fs.length<=1000/\dx≠a/\h.get? a=some (SN C dx)/\
  ∃mA,h.Ns1 dx mA/\(∀f,cM (fs.lookup f) (mA f))/\Qa mA (fs.map (·.1))
 |.own _=>∃o,h.get? a=some o
 |.xd fs=>∃mA,h.Ns1 a mA/\∀f,cM (fs.lookup f) (mA f)
 |.rng lo hi=>∃t u v,h.get? a=some {cls:=.type "range",data:=.fields #[.int lo t,.int hi u,.int 1 v]}
 |.frz o u=>h.get? a=some o/\aU H h a u
 |.tbl ps=>h.get? a=some {cls:=.none,data:=.fields ps}
 |.met f x=>h.get? a=some (Rv (.ref f) (.ref x))
 |.ext φ=>φ h/\(∃o,h.get? a=some o)/\∀h1 h2:Heap,φ h1->(∀o,h1.get? a=some o->h2.get? a=some o)->φ h2
def HOk (H:Hp)(h:Heap):Prop:=∀a o,H a=some o->aU P w H h a o
end
section
variable {P:Jd}{w:JL}{H H':Hp}{h h':Heap}{a:Addr}{o:HO}
def aU.lt (x:aU P w H h a o):a<h.objs.size:=by
 cases o with
 |lst xs=>obtain⟨_,_,_,_,e⟩:=x;exact IS e
 |tup xs=>obtain⟨_,_,_,p⟩:=x;exact p.lt
 |dK kvs=>obtain⟨_,_,_,_,o,_,_,e,_⟩:=x;exact IS e
 |dT kvs=>obtain⟨_,_,_,_,o,_,_,e,_⟩:=x;exact IS e
 |set S n=>obtain⟨o,_,_,_,e,_⟩:=x;exact IS e
 |ins C dx fs=>obtain⟨_,_,_,e,_⟩:=x;exact IS e
 |own y=>obtain⟨_,e⟩:=x;exact IS e
 |xd fs=>obtain⟨_,⟨_,_,_,e,_⟩,_⟩:=x;exact IS e
 |rng lo hi=>obtain⟨_,_,_,e⟩:=x;exact IS e
 |frz ob u=>obtain⟨e,_⟩:=x;exact IS e
 |tbl ps=>exact IS (show h.get? a=some _ from x)
 |met f y=>exact IS (show h.get? a=some _ from x)
 |ext φ=>obtain⟨_,⟨_,e⟩,_⟩:=x;exact IS e
theorem Paired.mapP {α β:Type}{F G:α->β->Prop}:∀{l₁:List α}{l₂:List β},Paired F l₁ l₂->(∀a b,F a b->G a b)->Paired G l₁ l₂
 |_,_,.nil,_=>.nil
 |_,_,.cons r t,f=>.cons (f _ _ r) (Paired.mapP t f)
def aU.stay (x:aU P w H h a o)(k:∀b u,(b=a\/H b=some (.own a))->h.get? b=some u->h'.get? b=some u)
  (ho:∀b,H b=some (.own a)->H' b=some (.own a))(ht:∀b xs,H b=some (.tup xs)->H' b=some (.tup xs)):aU P w H' h' a o:=by
 induction o with
 |lst xs=>obtain⟨z,its,n,r,e⟩:=x;exact⟨z,its,n,r,k _ _ (.inl rfl) e⟩
 |tup xs=>obtain⟨z,its,r,ob,e,c⟩:=x;exact⟨z,its,r,ob,k _ _ (.inl rfl) e,c⟩
 |dK kvs=>obtain⟨z,y,vs,r,ob,es,ep,e,c⟩:=x;exact⟨z,y,vs,r,ob,es,ep,k _ _ (.inl rfl) e,c⟩
 |dT kvs=>
  obtain⟨z,y,xs,r,ob,es,ep,e,c⟩:=x
  exact⟨z,y,xs,Paired.mapP r fun p q z=>⟨z.1,ht _ _ z.2.1,z.2.2⟩,ob,es,ep,k _ _ (.inl rfl) e,c⟩
 |set S n=>obtain⟨ob,es,ep,t,e,c⟩:=x;exact⟨ob,es,ep,t,k _ _ (.inl rfl) e,c⟩
 |ins C dx fs=>
  obtain⟨d,z,ne,e,mA,⟨od,es,ep,e2,c⟩,r⟩:=x
  exact⟨ho _ d,z,ne,k _ _ (.inl rfl) e,mA,⟨od,es,ep,k _ _ (.inr d) e2,c⟩,r⟩
 |own y=>obtain⟨ob,e⟩:=x;exact⟨ob,k _ _ (.inl rfl) e⟩
 |xd fs=>obtain⟨mA,⟨od,es,ep,e,c⟩,r⟩:=x;exact⟨mA,⟨od,es,ep,k _ _ (.inl rfl) e,c⟩,r⟩
 |rng lo hi=>obtain⟨t,u,v,e⟩:=x;exact⟨t,u,v,k _ _ (.inl rfl) e⟩
 |frz ob u ih=>obtain⟨e,q⟩:=x;exact⟨k _ _ (.inl rfl) e,ih q⟩
 |tbl ps=>
  have e:h.get? a=some {cls:=.none,data:=.fields ps}:=x
  show h'.get? a=some {cls:=.none,data:=.fields ps}
  exact k a _ (.inl rfl) e
 |met f y=>
  have e:h.get? a=some (Rv (.ref f) (.ref y)):=x
  show h'.get? a=some (Rv (.ref f) (.ref y))
  exact k a _ (.inl rfl) e
 |ext φ=>obtain⟨p,⟨o,e⟩,st⟩:=x;exact⟨st _ _ p fun o q=>k _ _ (.inl rfl) q,⟨o,k _ _ (.inl rfl) e⟩,st⟩
def HOk.lt (x:HOk P w H h)(e:H a=some o):a<h.objs.size:=(x a o e).lt
def HOk.fresh (x:HOk P w H h)(e:h.objs.size<=a):H a=none:=by
 cases q:H a with
 |none=>rfl
 |some u=>exact absurd (Jm (x.lt q) e) (KG _)
def HOk.kept (x:HOk P w H h)(k:∀b u,h.get? b=some u->h'.get? b=some u):HOk P w H h':=fun a o e=>
 (x a o e).stay (fun b u _ q=>k b u q) (fun _ q=>q) fun _ _ q=>q
def HOk.laid (x:HOk P w H h)(k:∀b u,h.get? b=some u->h'.get? b=some u)(hp:h.objs.size<=a)(new:aU P w (upd H a o) h' a o):HOk P w (upd H a o) h':=fun b u e=>by
 have hn:=x.fresh hp
 by_cases hb:b=a
 ·subst hb;rw[al]at e;cases e;exact new
 ·rw[ap hb]at e
  exact(x b u e).stay (fun c v _ q=>k c v q) (fun c q=>by rw[ap (ay q hn)];exact q) fun c xs q=>by rw[ap (ay q hn)];exact q
end
def Rd (H:Hp)(a:Addr)(u:HO):Prop:=H a=some u\/∃o,H a=some (.frz o u)
def Rd.ok {P:Jd}{w:JL}{H:Hp}{h:Heap}{a:Addr}{u:HO}(r:Rd H a u)(x:HOk P w H h):aU P w H h a u:=by
 rcases r with r|⟨o,r⟩
 ·exact x a u r
 ·obtain⟨_,q⟩:=x a _ r
  exact q
def Mut:Option HO->Prop
 |some (.lst _)=>True
 |some (.dK _)=>True
 |some (.dT _)=>True
 |some (.set _ _)=>True
 |some (.ins _ _ _)=>True
 |some (.ext _)=>True
 |_=>False
section
variable {P:Jd}{w:JL}{H:Hp}{h h':Heap}{x e:Addr}{o':HO}
def HOk.write (ok:HOk P w H h)(mu:Mut (H x))(he:e=x\/H e=some (.own x))(k:∀b u,b≠e->h.get? b=some u->h'.get? b=some u)(heo:∃u,h'.get? e=some u)
  (new:aU P w (upd H x o') h' x o'):HOk P w (upd H x o') h':=fun b u q=>by
 have nown:∀c y,H c=some (.own y)->c≠x:=fun c y r z=>by subst z;rw[r]at mu;exact mu
 have ntup:∀c xs,H c=some (.tup xs)->c≠x:=fun c xs r z=>by subst z;rw[r]at mu;exact mu
 by_cases hb:b=x
 ·subst hb;rw[al]at q;cases q;exact new
 ·rw[ap hb]at q
  by_cases hbe:b=e
  ·have q':H b=some (.own x):=by
    rcases he with z|z
    ·exact absurd (hbe.trans z) hb
    ·rw[hbe];exact z
   rw[q]at q';cases q'
   obtain⟨v,hv⟩:=heo
   exact⟨v,by rw[hbe];exact hv⟩
  ·refine(ok b u q).stay (fun c v hc r=>k c v ?_ r) (fun c r=>by rw[ap (nown c b r)];exact r) fun c xs r=>by rw[ap (ntup c xs r)];exact r
   rcases hc with rfl|hc
   ·exact hbe
   ·rintro rfl
    rcases he with z|z
    ·exact nown c b hc z
    ·rw[hc]at z;cases z;exact hb rfl
end
structure Un (fs ex:List Addr)(H H':Hp)(h h':Heap):Prop where
 keep:∀b o,h.get? b=some o->H b=none->b∉fs->b∉ex->h'.get? b=some o
 slot:∀b o,h.get? b=some o->H b=none->b∈fs->b∉ex->∃sl,h'.get? b=some {o with slots:=sl}
 free:∀b o,h.get? b=some o->H b=none->b∉ex->H' b=none
 there:∀b o,h.get? b=some o->b∉ex->∃o',h'.get? b=some o'
 tups:∀b xs,H b=some (.tup xs)->H' b=some (.tup xs)
 frzs:∀b o u,H b=some (.frz o u)->H' b=some (.frz o u)
 tbls:∀b ps,H b=some (.tbl ps)->∃more,H' b=some (.tbl (ps++more))
section
variable {fs fs' ex ex':List Addr}{H H1 H2:Hp}{h h1 h2 h':Heap}{a x e:Addr}{o:HO}
def Un.any (u:Un fs ex H H1 h h1){b:Addr}{ob:Obj}(q:h.get? b=some ob)(n:H b=none)(hx:b∉ex):∃sl,h1.get? b=some {ob with slots:=sl}:=by
 by_cases hb:b∈fs
 ·exact u.slot b ob q n hb hx
 ·exact⟨ob.slots,u.keep b ob q n hb hx⟩
def Un.trans (a:Un fs ex H H1 h h1)(b:Un fs ex H1 H2 h1 h2):Un fs ex H H2 h h2 where
 keep:=fun c ob q n hc hx=>b.keep c ob (a.keep c ob q n hc hx) (a.free c ob q n hx) hc hx
 slot:=fun c ob q n hc hx=>by
  obtain⟨sl,e1⟩:=a.slot c ob q n hc hx
  obtain⟨sl',e2⟩:=b.slot c _ e1 (a.free c ob q n hx) hc hx
  exact⟨sl',e2⟩
 free:=fun c ob q n hx=>by
  obtain⟨o',e1⟩:=a.there c ob q hx
  exact b.free c o' e1 (a.free c ob q n hx) hx
 there:=fun c ob q hx=>by
  obtain⟨o',e1⟩:=a.there c ob q hx
  exact b.there c o' e1 hx
 tups:=fun c xs q=>b.tups c xs (a.tups c xs q)
 frzs:=fun c ob xs q=>b.frzs c ob xs (a.frzs c ob xs q)
 tbls:=fun c ps q=>by
  obtain⟨m1,e1⟩:=a.tbls c ps q
  obtain⟨m2,e2⟩:=b.tbls c _ e1
  exact⟨m1++m2,by rw[e2,QL]⟩
def Un.kept (k:∀b u,h.get? b=some u->h'.get? b=some u):Un fs ex H H h h':=
 ⟨fun b ob q _ _ _=>k b ob q,fun b ob q _ _ _=>⟨ob.slots,k b ob q⟩,fun _ _ _ n _=>n,fun b ob q _=>⟨ob,k b ob q⟩,fun _ _ q=>q,fun _ _ _ q=>q,fun _ ps q=>⟨#[],by rw[q];simp⟩⟩
def Un.refl:Un fs ex H H h h:=Un.kept fun _ _ q=>q
def Un.laid (k:∀b u,h.get? b=some u->h'.get? b=some u)(hp:h.objs.size<=a)(hn:H a=none):Un fs ex H (upd H a o) h h' where
 keep:=fun b u q _ _ _=>k b u q
 slot:=fun b u q _ _ _=>⟨u.slots,k b u q⟩
 free:=fun b u q n _=>by rw[ap (Jb (Jm (IS q) hp))];exact n
 there:=fun b u q _=>⟨u,k b u q⟩
 tups:=fun b xs q=>by rw[ap (ay q hn)];exact q
 frzs:=fun b u xs q=>by rw[ap (ay q hn)];exact q
 tbls:=fun b ps q=>⟨#[],by rw[ap (ay q hn),q];simp⟩
def Un.write (mu:Mut (H x))(he:e=x\/H e=some (.own x))(k:∀b u,b≠e->h.get? b=some u->h'.get? b=some u)(heo:∃u,h'.get? e=some u):Un fs ex H (upd H x o) h h':=by
 have hx:∀b,H b=none->b≠x:=fun b n z=>by subst z;rw[n]at mu;exact mu
 have hb:∀b,H b=none->b≠e:=fun b n z=>by
  subst z
  rcases he with r|r
  ·exact hx b n r
  ·rw[n]at r;cases r
 have hm:∀b u,H b=some u->¬Mut (some u)->b≠x:=fun b u q nm z=>by subst z;rw[q]at mu;exact nm mu
 refine⟨fun b u q n _ _=>k b u (hb b n) q,fun b u q n _ _=>⟨u.slots,k b u (hb b n) q⟩,fun b u q n _=>by rw[ap (hx b n)];exact n,fun b u q _=>?_,
  fun b xs q=>by rw[ap (hm b _ q fun z=>z)];exact q,fun b u xs q=>by rw[ap (hm b _ q fun z=>z)];exact q,fun b ps q=>⟨#[],by rw[ap (hm b _ q fun z=>z),q];simp⟩⟩
 by_cases hbe:b=e
 ·subst hbe;exact heo
 ·exact⟨u,k b u hbe q⟩
end
def trk (h:Heap)(H:Hp):List Addr:=(MN h.objs.size).filter fun a=>(H a).isSome
def gp (h:Heap)(H:Hp):Heap:=W.hideAll h (trk h H)
def tK (h:Heap)(H:Hp):(gp h H).objs.size=h.objs.size:=W.hideAll_size _ _
def ve {h:Heap}{H:Hp}{b:Addr}{o:Obj}(e:h.get? b=some o)(n:H b=none):(gp h H).get? b=some o:=
 NC _ e fun hm=>by
  have q:(H b).isSome=true:=(RQ.mp hm).2
  rw[n]at q;simp at q
def zN {h:Heap}{H:Hp}{b:Addr}{o:Obj}(e:(gp h H).get? b=some o):h.get? b=some o/\H b=none:=by
 have e':h.get? b=some o:=QQ (trk h H) e
 refine⟨e',?_⟩
 cases q:H b with
 |none=>rfl
 |some x=>
  have hm:b∈trk h H:=RQ.mpr ⟨NQ.mpr (IS e'),by simp[q]⟩
  have z:(gp h H).get? b=none:=MH (trk h H) hm
  rw[z]at e;cases e
def zh (g h:Heap)(L:Addr):List (Addr×Obj):=(MN h.objs.size).filterMap fun a=>if a=L\/(g.get? a).isSome=true then none else(h.get? a).map fun o=>(a,o)
def bD (g h:Heap)(L d:Addr):List (Addr×Obj):=(zh g h L).filter fun p=>decide (p.1≠d)
structure Mod (K:If)(mg:Str->Option Gt)(base:Heap):Prop where
 kin:K.In base
 glob:base.Ns mainGlobals mg
 blt:∃mb,base.Ns builtinsNs mb/\∀x:Str,x≠"__name__"->mb x=bootBuiltins x
 nolimit:base.NoLimit
set_option genInjectivity false in
structure Cx where
 prog:Jd
 w:JL
 K:If
 mg:Str->Option Gt
 base:Heap
 A:JK
 N:List Str
 s₀:IQ
 H₀:Hp
 env:Env
 outer:List Env
 stack:List Env
 ex:List Addr
 fn:Str->Bool
 calm:Bool
 pn:List (Addr×Obj)
 xe:Gt->IQ->Prop
def frs (l:List Env):List Addr:=l.filterMap (·.frame)
abbrev Cx.fs (X:Cx):List Addr:=frs X.outer
def Vis (sc:Scope)(x:Str):Prop:=sc.names.lookup x=some .local\/sc.names.lookup x=some .cell\/sc.names.lookup x=some .free
def Loc (sc:Scope)(x:Str):Prop:=sc.names.lookup x=some .local\/sc.names.lookup x=some .cell
def BX (env:Env)(h:Heap)(m:Str->Option Gt)(x:Str)(u:Gt):Prop:=
 (env.kindOf x=some .local/\m x=some u)\/((env.kindOf x=some .cell\/env.kindOf x=some .free)/\∃c,env.cells.lookup x=some c/\h.IsCell c (some u))
set_option genInjectivity false in
structure Cx.Ok (X:Cx):Prop where
 mod:Mod X.K X.mg X.base
 kind:X.env.scope.kind=.function
 glob:X.env.globals=mainGlobals
 blt:X.env.builtins=builtinsNs
 above:X.s₀.heap.objs.size<=X.env.locals
 inj:∀x y c,X.env.cells.lookup x=some c->X.env.cells.lookup y=some c->x=y
 has:∀x,(X.env.kindOf x=some .cell\/X.env.kindOf x=some .free)->∃c,X.env.cells.lookup x=some c
 cab:∀x c,X.fn x=true->X.env.cells.lookup x=some c->X.s₀.heap.objs.size<=c
 hd:X.calm=true->X.A.handled=none
 frames:X.A.frames=some X.stack
 stk:X.stack=X.outer\/(X.stack=X.env::X.outer/\X.env.frame=some X.env.locals)
 exf:∀b∈X.ex,b≠X.env.locals/\∀x c,X.env.cells.lookup x=some c->c≠b
 bs:∀b o,X.base.get? b=some o->X.s₀.heap.get? b=some o/\X.H₀ b=none
 bsz:X.base.objs.size<=X.s₀.heap.objs.size
 noex:∀b o,X.base.get? b=some o->b∉X.ex
 exfs:∀b∈X.ex,b∉X.fs
 funs:X.s₀.heap.FunFrames X.base X.outer
 frf:∀b∈X.fs,X.H₀ b=none
structure Inv (X:Cx)(pins:List (Addr×Obj))(σ:List (Option V))(H:Hp)(s:IQ):Prop where
 ok:X.Ok
 os:s.os=X.s₀.os
 bare:NJ s.gens
 base:Un X.fs X.ex X.H₀ H X.s₀.heap s.heap
 loc:∃m,s.heap.Ns X.env.locals m/\∀(i:Nat)(x:Str)(v:V),X.N[i]?=some x->σ[i]?=some (some v)->Vis X.env.scope x->∃u,aY v u/\BX X.env s.heap m x u
 cell:∀x c,X.env.cells.lookup x=some c->∃v,s.heap.IsCell c v
 free:H X.env.locals=none
 freeC:∀x c,X.env.cells.lookup x=some c->H c=none
 pin:∀p∈X.pn++pins,s.heap.get? p.1=some p.2/\H p.1=none/\p.1≠X.env.locals/\p.1∉X.fs/\∀v,p.2.data≠.cell v
 hok:HOk X.prog X.w H s.heap
 len:σ.length=X.N.length
section
variable {X:Cx}{pins:List (Addr×Obj)}{σ:List (Option V)}{H H':Hp}{s:IQ}{h':Heap}
def Cx.Ok.nofr (ok:X.Ok){b:Addr}{o:Obj}(e:X.base.get? b=some o):b∉X.fs:=fun hb=>by
 have:=(ok.funs.mem hb).1
 rw[e]at this;cases this
def Inv.bs (I:Inv X pins σ H s):∀b o,X.base.get? b=some o->s.heap.get? b=some o/\H b=none:=fun b o e=>
 ⟨I.base.keep b o (I.ok.bs b o e).1 (I.ok.bs b o e).2 (I.ok.nofr e) (I.ok.noex b o e),I.base.free b o (I.ok.bs b o e).1 (I.ok.bs b o e).2 (I.ok.noex b o e)⟩
def Inv.bk (I:Inv X pins σ H s):∀b o,X.base.get? b=some o->s.heap.get? b=some o:=fun b o e=>(I.bs b o e).1
def Inv.mod (I:Inv X pins σ H s):Mod X.K X.mg X.base:=I.ok.mod
def Inv.kIn (I:Inv X pins σ H s):X.K.In s.heap:=I.ok.mod.kin.keeps I.bk
def Inv.lt (I:Inv X pins σ H s):X.env.locals<s.heap.objs.size:=let ⟨_,hn,_⟩:=I.loc;hn.lt
def Inv.sz (I:Inv X pins σ H s):X.s₀.heap.objs.size<=s.heap.objs.size:=JQ I.ok.above (Lz I.lt)
def Inv.nofs (I:Inv X pins σ H s){a:Addr}(h:s.heap.objs.size<=a):a∉X.fs:=fun hb=>by
 obtain⟨_,o,ho,_⟩:=I.ok.funs.mem hb
 exact absurd (Jm (IS ho) (JQ I.sz h)) (KG _)
def Inv.cne (I:Inv X pins σ H s):∀x c,X.env.cells.lookup x=some c->c≠X.env.locals:=fun x c e z=>by
 obtain⟨v,o,ho,hd⟩:=I.cell x c e
 obtain⟨m,⟨o',es,ep,ho',hd',_⟩,_⟩:=I.loc
 rw[z,ho']at ho;cases ho;rw[hd']at hd;cases hd
def Inv.funs (I:Inv X pins σ H s):s.heap.FunFrames X.base X.outer:=by
 have all:∀(l:List Env),(∀b∈frs l,b∈X.fs)->X.s₀.heap.FunFrames X.base l->s.heap.FunFrames X.base l:=by
  intro l
  induction l with
  |nil=>intro _ _;trivial
  |cons env r ih=>
   intro hs hl
   obtain⟨hk,⟨L,o,hf,hn,ho,hd⟩,hr⟩:=hl
   have hL:L∈X.fs:=hs L (by unfold frs;rw[Kp,hf];exact Jw)
   obtain⟨sl,e⟩:=I.base.slot L o ho (I.ok.frf L hL) hL fun z=>I.ok.exfs L z hL
   exact⟨hk,⟨L,_,hf,hn,e,hd⟩,ih (fun b hb=>hs b (by unfold frs;rw[Kp,hf];exact Je _ hb)) hr⟩
 exact all X.outer (fun _ hb=>hb) I.ok.funs
def Inv.stack (I:Inv X pins σ H s):s.heap.FunFrames X.base X.stack:=by
 rcases I.ok.stk with e|⟨e,hf⟩
 ·rw[e];exact I.funs
 ·rw[e]
  obtain⟨m,hn,_⟩:=I.loc
  refine .cons (by rw[I.ok.kind];decide) hf hn ?_ I.funs
  exact Qr (JQ I.ok.bsz I.ok.above)
def Inv.stkSub (I:Inv X pins σ H s):∀b∈frs X.stack,b∈X.env.locals::X.fs:=fun b hb=>by
 rcases I.ok.stk with e|⟨e,hf⟩
 ·rw[e]at hb;exact Je _ hb
 ·rw[e]at hb
  unfold frs at hb
  rw[Kp,hf]at hb
  exact hb
def Inv.stkFree (I:Inv X pins σ H s):∀b∈frs X.stack,H b=none:=fun b hb=>by
 rcases IY.mp (I.stkSub b hb)with e|hb
 ·rw[e];exact I.free
 ·obtain⟨_,o,ho,_⟩:=I.ok.funs.mem hb
  exact I.base.free b o ho (I.ok.frf b hb) fun z=>I.ok.exfs b z hb
def Inv.step {g':Array OK}{t':Nat}{d':Drawn}{ch:List Addr}(I:Inv X pins σ H s)
  (hch:∀b∈ch,(b∈X.ex\/X.s₀.heap.objs.size<=b)/\b≠X.env.locals/\(∀x c,X.env.cells.lookup x=some c->c≠b)/\∀p∈X.pn++pins,p.1≠b)
  (keep:∀b o,b≠X.env.locals->b∉X.fs->b∉ch->s.heap.get? b=some o->H b=none->h'.get? b=some o)
  (slot:∀b o,b≠X.env.locals->b∈X.fs->b∉ch->s.heap.get? b=some o->H b=none->∃sl,h'.get? b=some {o with slots:=sl})(free:∀b o,b∉ch->s.heap.get? b=some o->H b=none->H' b=none)
  (there:∀b o,b∉ch->s.heap.get? b=some o->∃o',h'.get? b=some o')
  (tups:∀b xs,H b=some (.tup xs)->H' b=some (.tup xs))(frzs:∀b o u,H b=some (.frz o u)->H' b=some (.frz o u))(tbls:∀b ps,H b=some (.tbl ps)->∃more,H' b=some (.tbl (ps++more)))
  (ns:∀m,s.heap.Ns X.env.locals m->h'.Ns X.env.locals m)(hok:HOk X.prog X.w H' h')(hg:NJ g'):
  Inv X pins σ H' {s with heap:=h',gens:=g',drawn:=d',toks:=t'}:=by
 have neL:∀b o,X.s₀.heap.get? b=some o->b≠X.env.locals:=fun b o e=>Jb (Jm (IS e) I.ok.above)
 have neC:∀b o,X.s₀.heap.get? b=some o->b∉X.ex->b∉ch:=fun b o e hx hb=>by
  rcases(hch b hb).1 with z|z
  ·exact hx z
  ·exact absurd (Jm (IS e) z) (KG _)
 have cellK:∀x c,X.env.cells.lookup x=some c->∀v,s.heap.IsCell c v->h'.IsCell c v:=fun x c e v ⟨o,ho,hd⟩=>by
  have nch:c∉ch:=fun z=>(hch c z).2.2.1 x c e rfl
  by_cases hc:c∈X.fs
  ·obtain⟨sl,q⟩:=slot c o (I.cne x c e) hc nch ho (I.freeC x c e)
   exact⟨_,q,hd⟩
  ·exact⟨o,keep c o (I.cne x c e) hc nch ho (I.freeC x c e),hd⟩
 refine⟨I.ok,I.os,hg,⟨fun b o e n hb hx=>?_,fun b o e n hb hx=>?_,fun b o e n hx=>?_,fun b o e hx=>?_,fun b xs e=>tups b xs (I.base.tups b xs e),fun b o xs e=>frzs b o xs (I.base.frzs b o xs e),fun b ps e=>?_⟩,?_,fun x c e=>?_,?_,fun x c e=>?_,fun p hp=>?_,hok,I.len⟩
 ·exact keep b o (neL b o e) hb (neC b o e hx) (I.base.keep b o e n hb hx) (I.base.free b o e n hx)
 ·obtain⟨sl,e1⟩:=I.base.slot b o e n hb hx
  obtain⟨sl',e2⟩:=slot b _ (neL b o e) hb (neC b o e hx) e1 (I.base.free b o e n hx)
  exact⟨sl',e2⟩
 ·obtain⟨o',e1⟩:=I.base.there b o e hx
  exact free b o' (neC b o e hx) e1 (I.base.free b o e n hx)
 ·obtain⟨o',e1⟩:=I.base.there b o e hx
  exact there b o' (neC b o e hx) e1
 ·obtain⟨m1,e1⟩:=I.base.tbls b ps e
  obtain⟨m2,e2⟩:=tbls b _ e1
  exact⟨m1++m2,by rw[e2,QL]⟩
 ·obtain⟨m,hn,hl⟩:=I.loc
  refine⟨m,ns m hn,fun i x v e1 e2 e3=>?_⟩
  obtain⟨u,r,l⟩:=hl i x v e1 e2 e3
  refine⟨u,r,?_⟩
  rcases l with l|⟨k,c,e,z⟩
  ·exact .inl l
  ·exact .inr ⟨k,c,e,cellK x c e _ z⟩
 ·obtain⟨v,z⟩:=I.cell x c e
  exact⟨v,cellK x c e v z⟩
 ·obtain⟨m,⟨o,_,_,ho,_⟩,_⟩:=I.loc
  exact free _ o (fun z=>(hch _ z).2.1 rfl) ho I.free
 ·obtain⟨v,o,ho,hd⟩:=I.cell x c e
  exact free c o (fun z=>(hch c z).2.2.1 x c e rfl) ho (I.freeC x c e)
 ·obtain⟨e,n,ne,nf,d⟩:=I.pin p hp
  have nch:p.1∉ch:=fun z=>(hch p.1 z).2.2.2 p hp rfl
  exact⟨keep p.1 p.2 ne nf nch e n,free p.1 p.2 nch e n,ne,nf,d⟩
def Inv.un {t':Nat}(I:Inv X pins σ H s)(u:Un X.fs [] H H' s.heap h')(hok:HOk X.prog X.w H' h'):Inv X pins σ H' {s with heap:=h',toks:=t'}:=by
 obtain⟨m,⟨o,es,ep,ho,r⟩,_⟩:=id I.loc
 obtain⟨sl,hL⟩:=u.any ho I.free (by simp)
 exact I.step (g':=s.gens) (d':=s.drawn) (ch:=[]) (fun _ z=>nomatch z) (fun b o _ hb _ e n=>u.keep b o e n hb (by simp)) (fun b o _ hb _ e n=>u.slot b o e n hb (by simp)) (fun b o _ e n=>u.free b o e n (by simp)) (fun b o _ e=>u.there b o e (by simp)) u.tups u.frzs u.tbls (fun m' hm=>by
  obtain⟨o',es',ep',ho',r'⟩:=hm
  rw[ho]at ho';cases ho'
  exact⟨_,es',ep',hL,r'⟩) hok I.bare
def Inv.call {g':Array OK}{t':Nat}{d':Drawn}{ch:List Addr}(I:Inv X pins σ H s)(u:Un (frs X.stack) ch H H' s.heap h')(hok:HOk X.prog X.w H' h')(hg:NJ g')
  (hch:∀b∈ch,(b∈X.ex\/X.s₀.heap.objs.size<=b)/\b≠X.env.locals/\(∀x c,X.env.cells.lookup x=some c->c≠b)/\∀p∈X.pn++pins,p.1≠b):
  Inv X pins σ H' {s with heap:=h',gens:=g',drawn:=d',toks:=t'}:=by
 obtain⟨m,⟨o,es,ep,ho,r⟩,_⟩:=id I.loc
 obtain⟨sl,hL⟩:=u.any ho I.free fun z=>(hch _ z).2.1 rfl
 exact I.step (ch:=ch) hch (fun b o hL hb hc e n=>u.keep b o e n (fun z=>(IY.mp (I.stkSub b z)).elim hL hb) hc) (fun b o _ _ hc e n=>u.any e n hc) (fun b o hc e n=>u.free b o e n hc) (fun b o hc e=>u.there b o e hc) u.tups u.frzs u.tbls (fun m' hm=>by
  obtain⟨o',es',ep',ho',r'⟩:=hm
  rw[ho]at ho';cases ho'
  exact⟨_,es',ep',hL,r'⟩) hok hg
def Inv.turned {t':Nat}{it:Addr}(I:Inv X pins σ H s)(k:∀b o,b≠it->s.heap.get? b=some o->h'.get? b=some o)(hn:H it=none)(hL:it≠X.env.locals)
  (h1:it∈X.ex\/X.s₀.heap.objs.size<=it)(h2:∀x c,X.env.cells.lookup x=some c->c≠it)(h3:∀p∈X.pn++pins,p.1≠it):Inv X pins σ H {s with heap:=h',toks:=t'}:=by
 have nit:∀b u,H b=some u->b≠it:=fun b u e z=>by rw[z,hn]at e;cases e
 refine I.step (g':=s.gens) (d':=s.drawn) (ch:=[it]) (fun b hb=>?_) (fun b o _ _ hc e _=>k b o (fun z=>hc (by simp[z])) e) (fun b o _ _ hc e _=>⟨o.slots,k b o (fun z=>hc (by simp[z])) e⟩) (fun _ _ _ _ n=>n)
  (fun b o hc e=>⟨o,k b o (fun z=>hc (by simp[z])) e⟩) (fun _ _ e=>e) (fun _ _ _ e=>e) (fun b ps e=>⟨#[],by rw[e];simp⟩) (fun m hm=>?_) (fun b u e=>?_) I.bare
 ·have e:b=it:=by simpa using hb
  subst e
  exact⟨h1,hL,h2,h3⟩
 ·obtain⟨o,es,ep,ho,r⟩:=hm
  exact⟨o,es,ep,k _ o (KQ hL) ho,r⟩
 ·refine(I.hok b u e).stay (fun c v hc q=>k c v ?_ q) (fun _ q=>q) fun _ _ q=>q
  rcases hc with z|z
  ·rw[z];exact nit b u e
  ·exact nit c _ z
def Inv.tok (I:Inv X pins σ H s)(t:Nat):Inv X pins σ H {s with toks:=t}:=I.un (h':=s.heap) (t':=t) Un.refl I.hok
def Inv.kept {t':Nat}(I:Inv X pins σ H s)(k:∀b u,s.heap.get? b=some u->h'.get? b=some u):Inv X pins σ H {s with heap:=h',toks:=t'}:=I.un (Un.kept k) (I.hok.kept k)
def Inv.laid {a:Addr}{o:HO}{t':Nat}(I:Inv X pins σ H s)(k:∀b u,s.heap.get? b=some u->h'.get? b=some u)(hp:s.heap.objs.size<=a)(new:aU X.prog X.w (upd H a o) h' a o):
 Inv X pins σ (upd H a o) {s with heap:=h',toks:=t'}:=I.un (Un.laid k hp (I.hok.fresh hp)) (I.hok.laid k hp new)
def Inv.write {x e:Addr}{o:HO}{t':Nat}(I:Inv X pins σ H s)(mu:Mut (H x))(he:e=x\/H e=some (.own x))(k:∀b u,b≠e->s.heap.get? b=some u->h'.get? b=some u)(heo:∃u,h'.get? e=some u)
 (new:aU X.prog X.w (upd H x o) h' x o):Inv X pins σ (upd H x o) {s with heap:=h',toks:=t'}:=I.un (Un.write mu he k heo) (I.hok.write mu he k heo new)
def Inv.pins_of {pins':List (Addr×Obj)}(I:Inv X pins σ H s)(h:∀p∈pins',s.heap.get? p.1=some p.2/\H p.1=none/\p.1≠X.env.locals/\p.1∉X.fs/\∀v,p.2.data≠.cell v):Inv X pins' σ H s:=
 ⟨I.ok,I.os,I.bare,I.base,I.loc,I.cell,I.free,I.freeC,fun p hp=>(Ka.mp hp).elim (fun z=>I.pin p (Lf _ z)) (h p),I.hok,I.len⟩
def kr {N:List Str}(hN:N.Nodup){i j:Nat}{x:Str}(a:N[i]?=some x)(b:N[j]?=some x):i=j:=by
 obtain⟨h1,e1⟩:=IW.mp a
 obtain⟨h2,e2⟩:=IW.mp b
 exact(RG hN).mp (e1.trans e2.symm)
def uf {M:RY}{A:JK}{E:Gt->IQ->Prop}{i:Nat}{x:Str}{v:V}{u:Gt}{Q:Unit->IQ->Prop}(I:Inv X pins σ H s)(hN:X.N.Nodup)(hi:X.N[i]?=some x)(hx:Loc X.env.scope x)(r:aY v u)
  (h:∀s',Inv X pins (σ.set i (some v)) H s'->(∃a,Kh a s.heap s'.heap/\(a=X.env.locals\/X.env.cells.lookup x=some a))->Q () s')(hf:X.fn x=true\/X.env.scope.names.lookup x=some .local:=by first|exact .inl rfl|exact .inr rfl|assumption):wpAny M A (storeName X.env x u) Q E s:=by
 obtain⟨m,hn,hl⟩:=id I.loc
 have hcls:(X.env.scope.kind==.class||(X.env.scope.kind==.module&&X.env.locals !=X.env.globals))=false:=by rw[I.ok.kind];rfl
 have hiσ:i<σ.length:=by rw[I.len];exact(IW.mp hi).1
 have cne:=I.cne
 have tracked:∀{a:Addr}{h':Heap},(∃o,s.heap.get? a=some o/\H a=none)->Kh a s.heap h'->HOk X.prog X.w H h':=fun{a h'} ha hs b ob e=>by
  obtain⟨_,_,hfree⟩:=ha
  refine(I.hok b ob e).stay (fun c w' hc q=>(hs.2 c ?_).trans q) (fun _ q=>q) fun _ _ q=>q
  rintro rfl
  rcases hc with rfl|hc
  ·rw[hfree]at e;cases e
  ·rw[hfree]at hc;cases hc
 rcases hx with hk|hk
 ·refine wpAny_storeName_local hk hn (fun h' hn' hs=>?_) hcls
  obtain⟨oL,_,_,hoL,_⟩:=id hn
  refine h _ ⟨I.ok,I.os,I.bare,⟨fun b o e n hb hx=>?_,fun b o e n hb hx=>?_,I.base.free,fun b o e hx=>?_,I.base.tups,I.base.frzs,I.base.tbls⟩,⟨_,hn',fun j y v' e1 e2 e3=>?_⟩,fun y c e=>?_,I.free,I.freeC,fun p hp=>?_,tracked ⟨oL,hoL,I.free⟩ hs,by simpa using I.len⟩ ⟨_,hs,.inl rfl⟩
  ·exact(hs.2 b (Jb (Jm (IS e) I.ok.above))).trans (I.base.keep b o e n hb hx)
  ·obtain⟨sl,e1⟩:=I.base.slot b o e n hb hx
   exact⟨sl,(hs.2 b (Jb (Jm (IS e) I.ok.above))).trans e1⟩
  ·obtain⟨o',e1⟩:=I.base.there b o e hx
   exact⟨o',(hs.2 b (Jb (Jm (IS e) I.ok.above))).trans e1⟩
  ·by_cases hj:j=i
   ·subst hj
    rw[hi]at e1;cases e1
    rw[Nx hiσ]at e2
    cases e2
    exact⟨u,r,.inl ⟨hk,by simp⟩⟩
   ·rw[NM (KQ hj)]at e2
    obtain⟨u',r',q⟩:=hl j y v' e1 e2 e3
    refine⟨u',r',?_⟩
    rcases q with⟨k,e⟩|⟨k,c,e,z⟩
    ·refine .inl ⟨k,?_⟩
     have:y≠x:=fun e=>hj (kr hN e1 (e▸hi))
     simp[this,e]
    ·exact .inr ⟨k,c,e,z.sameBut hs (cne y c e)⟩
  ·obtain⟨w',z⟩:=I.cell y c e
   exact⟨w',z.sameBut hs (cne y c e)⟩
  ·obtain⟨e,n,ne,nf,d⟩:=I.pin p hp
   exact⟨(hs.2 p.1 ne).trans e,n,ne,nf,d⟩
 ·have hfn:X.fn x=true:=by
   rcases hf with z|z
   ·exact z
   ·rw[z]at hk;cases hk
  obtain⟨c,hc⟩:=I.ok.has x (.inl hk)
  obtain⟨w',z⟩:=I.cell x c hc
  refine wpAny_storeName_cell I.ok.kind hk hc z (fun h' hc' hs=>?_)
  obtain⟨oc,hoc,hocd⟩:=id z
  refine h {s with heap:=h'} ⟨I.ok,I.os,I.bare,⟨fun b o e n hb hx=>?_,fun b o e n hb hx=>?_,I.base.free,fun b o e hx=>?_,I.base.tups,I.base.frzs,I.base.tbls⟩,⟨m,hn.sameBut hs (KQ (cne x c hc)),fun j y v' e1 e2 e3=>?_⟩,fun y c' e=>?_,I.free,I.freeC,fun p hp=>?_,tracked ⟨oc,hoc,I.freeC x c hc⟩ hs,by simpa using I.len⟩ ⟨c,hs,.inr hc⟩
  ·exact(hs.2 b (Jb (Jm (IS e) (I.ok.cab x c hfn hc)))).trans (I.base.keep b o e n hb hx)
  ·obtain⟨sl,e1⟩:=I.base.slot b o e n hb hx
   exact⟨sl,(hs.2 b (Jb (Jm (IS e) (I.ok.cab x c hfn hc)))).trans e1⟩
  ·obtain⟨o',e1⟩:=I.base.there b o e hx
   exact⟨o',(hs.2 b (Jb (Jm (IS e) (I.ok.cab x c hfn hc)))).trans e1⟩
  ·by_cases hj:j=i
   ·subst hj
    rw[hi]at e1;cases e1
    rw[Nx hiσ]at e2
    cases e2
    exact⟨u,r,.inr ⟨.inl hk,c,hc,hc'⟩⟩
   ·rw[NM (KQ hj)]at e2
    obtain⟨u',r',q⟩:=hl j y v' e1 e2 e3
    refine⟨u',r',?_⟩
    rcases q with q|⟨k,c',e,z'⟩
    ·exact .inl q
    ·refine .inr ⟨k,c',e,z'.sameBut hs ?_⟩
     rintro rfl
     exact hj (kr hN e1 (I.ok.inj _ _ _ e hc▸hi))
  ·by_cases hcc:c'=c
   ·subst hcc;exact⟨_,hc'⟩
   ·obtain⟨w2,z2⟩:=I.cell y c' e
    exact⟨w2,z2.sameBut hs hcc⟩
  ·obtain⟨e,n,ne,nf,d⟩:=I.pin p hp
   refine⟨(hs.2 p.1 ?_).trans e,n,ne,nf,d⟩
   intro q
   rw[q,hoc]at e
   have q':oc=p.2:=Js e
   exact d w' (by rw[<-q'];exact hocd)
def iq {M:RY}{A:JK}{E:Gt->IQ->Prop}{i:Nat}{x:Str}{v:V}{u:Gt}{Q:Unit->IQ->Prop}(I:Inv X pins σ H s)(hN:X.N.Nodup)(hi:X.N[i]?=some x)(hx:Loc X.env.scope x)(r:aY v u)
  (h:∀s',Inv X pins (σ.set i (some v)) H s'->Q () s')(hf:X.fn x=true\/X.env.scope.names.lookup x=some .local:=by first|exact .inl rfl|exact .inr rfl|assumption):wpAny M A (storeName X.env x u) Q E s:=
 uf I hN hi hx r (fun s' I' _=>h s' I') hf
def Inv.call' {s':IQ}{ch:List Addr}(I:Inv X pins σ H s)(ho:s'.os=s.os)(u:Un (frs X.stack) ch H H' s.heap s'.heap)(hok:HOk X.prog X.w H' s'.heap)(hg:NJ s'.gens)
  (hch:∀b∈ch,(b∈X.ex\/X.s₀.heap.objs.size<=b)/\b≠X.env.locals/\(∀x c,X.env.cells.lookup x=some c->c≠b)/\∀p∈X.pn++pins,p.1≠b):Inv X pins σ H' s':=by
 obtain⟨h',g',d',t',o'⟩:=s'
 have e:o'=s.os:=ho
 subst e
 exact I.call (g':=g') (t':=t') (d':=d') u hok hg hch
end
abbrev XK:=Gt->Option Addr->Hp->Prop
abbrev St:=List (Option V)
abbrev VK:=V->Hp->Prop
abbrev TE:=St->Hp->VK->Prop
abbrev TT:=St->Hp->(Bool->Hp->Prop)->Prop
abbrev TA:=St->Hp->(List V->Hp->Prop)->Prop
structure eO where
 nx:St->Hp->Prop
 rt:VK
 bk:St->Hp->Prop:=fun _ _=>False
 ct:St->Hp->Prop:=fun _ _=>False
abbrev TS:=eO->St->Hp->Prop
def EP (X:Cx)(pins:List (Addr×Obj))(σ:St)(Q:VK)(u:Gt)(s':IQ):Prop:=∃v H',Inv X pins σ H' s'/\aY v u/\Q v H'
def TP (X:Cx)(pins:List (Addr×Obj))(σ:St)(Q:Bool->Hp->Prop)(b:Bool)(s':IQ):Prop:=∃H',Inv X pins σ H' s'/\Q b H'
def AP (X:Cx)(pins:List (Addr×Obj))(σ:St)(Q:List V->Hp->Prop)(us:List Gt)(s':IQ):Prop:=∃vs H',Inv X pins σ H' s'/\aX vs us/\Q vs H'
def SP (X:Cx)(pins:List (Addr×Obj))(D:eO)(f:Flow)(s':IQ):Prop:=
 match f with
 |.next=>∃σ' H',Inv X pins σ' H' s'/\D.nx σ' H'
 |.brk=>∃σ' H',Inv X pins σ' H' s'/\D.bk σ' H'
 |.cont=>∃σ' H',Inv X pins σ' H' s'/\D.ct σ' H'
 |.ret u=>∃v σ' H',Inv X pins σ' H' s'/\aY v u/\D.rt v H'
def PE (X:Cx)(e:Expr)(t:TE):Prop:=
 ∀(pins:List (Addr×Obj))(s:IQ)(σ:St)(H:Hp)(Q:VK),Inv X pins σ H s->t σ H Q->wpAny (model X.prog X.w) X.A (eval e X.env) (EP X pins σ Q) X.xe s
def PT (X:Cx)(e:Expr)(t:TT):Prop:=
 ∀(pins:List (Addr×Obj))(s:IQ)(σ:St)(H:Hp)(Q:Bool->Hp->Prop),Inv X pins σ H s->t σ H Q->wpAny (model X.prog X.w) X.A (isTrue e X.env (eval e X.env)) (TP X pins σ Q) X.xe s
def PW (X:Cx)(e:Expr)(t:TT):Prop:=
 ∀(whole:Sem Gt)(pins:List (Addr×Obj))(s:IQ)(σ:St)(H:Hp)(Q:Bool->Hp->Prop),Inv X pins σ H s->t σ H Q->wpAny (model X.prog X.w) X.A (isTrue e X.env whole) (TP X pins σ Q) X.xe s
def PW.pt {X:Cx}{e:Expr}{t:TT}(h:PW X e t):PT X e t:=h _
def PA (X:Cx)(es:List Expr)(t:TA):Prop:=
 ∀(pos:Pos)(pins:List (Addr×Obj))(s:IQ)(σ:St)(H:Hp)(Q:List V->Hp->Prop),Inv X pins σ H s->t σ H Q->wpAny (model X.prog X.w) X.A (spliced (backTo pos (starEach es X.env))) (AP X pins σ Q) X.xe s
def PS (X:Cx)(st:Stmt)(t:TS):Prop:=
 ∀(pins:List (Addr×Obj))(s:IQ)(σ:St)(H:Hp)(D:eO),Inv X pins σ H s->t D σ H->wpAny (model X.prog X.w) X.A (exec st X.env) (SP X pins D) X.xe s
def PSs (X:Cx)(st:List Stmt)(t:TS):Prop:=
 ∀(pins:List (Addr×Obj))(s:IQ)(σ:St)(H:Hp)(D:eO),Inv X pins σ H s->t D σ H->wpAny (model X.prog X.w) X.A (execs st X.env) (SP X pins D) X.xe s
def thn {α:Type}{t:Sem α}{Q Q':α->IQ->Prop}{M:RY}{A:JK}{E:Gt->IQ->Prop}{s:IQ}(h:wpAny M A t Q E s)(hQ:∀a s,Q a s->Q' a s):wpAny M A t Q' E s:=Ju h hQ fun _ _ x=>x
section
variable {X:Cx}
def HD (i:Nat):TE:=fun σ H Q=>∃v,σ[i]?=some (some v)/\Q v H
def tC (v:V):TE:=fun _ H Q=>Q v H
def AB {i:Nat}{x:Str}{pos:Pos}(hN:X.N[i]?=some x)(hv:Vis X.env.scope x)(hd:(x==("__debug__":Str))=false:=by decide)(hcd:(x==("__classdict__":Str))=false:=by decide):PE X (.Name x pos) (HD i):=by
 intro pins s σ H Q I h
 obtain⟨v,e,h⟩:=h
 obtain⟨m,hn,hl⟩:=I.loc
 obtain⟨u,r,l⟩:=hl i x v hN e hv
 have fin:EP X pins σ Q u s:=⟨v,H,I,r,h⟩
 rcases l with⟨hk,hm⟩|⟨hk,c,hc,hcell⟩
 ·exact SK (wpAny_loadName_local I.ok.kind hk hn hm fin) hd
 ·rcases hk with hk|hk
  ·exact SK (wpAny_loadName_cell I.ok.kind hk hc hcell fin) hd
  ·exact SK (wpAny_loadName_free I.ok.kind hk hc hcell fin hcd) hd
def CQ {i j pos}:PE X (.Constant (.int i) j pos) (tC (.int i)):=fun _ _ _ H _ I h=>wpAny_Constant_int ⟨.int i,H,I.tok _,⟨_,rfl⟩,h⟩
def Ez {b j pos}:PE X (.Constant (.bool b) j pos) (tC (.bl b)):=fun _ _ _ H _ I h=>Constant_bool ⟨.bl b,H,I,rfl,h⟩
def AU {j pos}:PE X (.Constant .none j pos) (tC .non):=fun _ _ _ H _ I h=>Constant_none ⟨.non,H,I,rfl,h⟩
def Az {x j pos}:PE X (.Constant (.str x) j pos) (tC (.str x)):=fun _ _ _ H _ I h=>Calls.Constant_str ⟨.str x,H,I.tok _,⟨_,rfl⟩,h⟩
def Gl (X:Cx)(x:Str):Prop:=X.env.kindOf x=some .globalImplicit
def lQ {E:Gt->IQ->Prop}{pins:List (Addr×Obj)}{s:IQ}{σ:St}{H:Hp}{x:Str}{u:Gt}{pos:Pos}{Q:Gt->IQ->Prop}(I:Inv X pins σ H s)(hg:Gl X x)(hm:X.mg x=some u)(h:Q u s)
  (hd:(x==("__debug__":Str))=false:=by decide):wpAny (model X.prog X.w) X.A (eval (.Name x pos) X.env) Q E s:=
 MS I.ok.kind hg (PD (by rw[I.ok.glob];exact I.mod.glob.keeps I.bk) hm h) hd
def eA {E:Gt->IQ->Prop}{pins:List (Addr×Obj)}{s:IQ}{σ:St}{H:Hp}{x:Str}{u:Gt}{pos:Pos}{Q:Gt->IQ->Prop}(I:Inv X pins σ H s)(hg:Gl X x)(hm:X.mg x=none)(hv:bootBuiltins x=some u)(h:Q u s)
  (hn:x≠"__name__":=by decide)(hd:(x==("__debug__":Str))=false:=by decide):wpAny (model X.prog X.w) X.A (eval (.Name x pos) X.env) Q E s:=by
 obtain⟨mb,h1,h2⟩:=I.mod.blt
 exact MS I.ok.kind hg (Calls.loadGlobal_builtin (by rw[I.ok.glob];exact I.mod.glob.keeps I.bk) hm (by rw[I.ok.blt];exact h1.keeps I.bk) ((h2 x hn).trans hv) h) hd
def zH {x:Str}{v:V}{u:Gt}{pos:Pos}(hg:Gl X x)(hm:X.mg x=some u)(r:aY v u)(hd:(x==("__debug__":Str))=false:=by decide):PE X (.Name x pos) (tC v):=
 fun _ _ _ H _ I h=>lQ I hg hm ⟨v,H,I,r,h⟩ hd
def zo {x:Str}{v:V}{u:Gt}{pos:Pos}(hg:Gl X x)(hm:X.mg x=none)(hv:bootBuiltins x=some u)(r:aY v u)(hn:x≠"__name__":=by decide)(hd:(x==("__debug__":Str))=false:=by decide):PE X (.Name x pos) (tC v):=
 fun _ _ _ H _ I h=>eA I hg hm hv ⟨v,H,I,r,h⟩ hn hd
variable {a b:Expr}{ta tb:TE}{pos:Pos}
variable {tA tB':TT}{bD:List Expr}
def cf (t:TT):TT:=fun σ H Q=>t σ H fun c H1=>Q (!c) H1
def zm (ha:PT X a tA):PW X (.BoolOp .And [a] pos) tA:=by
 intro wh pins s σ H Q I h
 refine isTrue_and (thn (ha pins s σ H Q I h) fun c s1 e=>?_)
 cases c with
 |true=>exact isTrue_and_nil e
 |false=>exact e
def Bw (ha:PT X a tA):PW X (.BoolOp .Or [a] pos) tA:=by
 intro wh pins s σ H Q I h
 refine isTrue_or (thn (ha pins s σ H Q I h) fun c s1 e=>?_)
 cases c with
 |false=>exact isTrue_or_nil e
 |true=>exact e
def CS (ha:PT X a tA):PT X (.UnaryOp .Not a pos) (cf tA):=by
 intro pins s σ H Q I h
 exact isTrue_not (ha pins s σ H (fun c H1=>Q (!c) H1) I h)
def Be {op}{t:TE}(h:PE X a t):PE X (.BoolOp op [a] pos) t:=fun pins s σ H Q I hw=>BoolOp_one (h pins s σ H Q I hw)
end
def SqL (K:If)(H:Hp)(a:Addr)(xs:List V):Prop:=
 Rd H a (.lst xs)\/
  ∃(o:Obj)(its:Array Gt)(n:Nat),K.lookup a=some o/\o.cls=.type "list"/\o.dict=none/\o.data=.seq its n/\its.size<=sizeLine/\aX xs its.toList
def SqT (K:If)(H:Hp)(a:Addr)(xs:List V):Prop:=
 Rd H a (.tup xs)\/
  ∃(o:Obj)(its:Array Gt)(n:Nat),K.lookup a=some o/\o.cls=.type "tuple"/\o.data=.seq its n/\its.size<=sizeLine/\aX xs its.toList
def Hx:Gt->Option V
 |.none=>some .non
 |.bool b=>some (.bl b)
 |.int i _=>some (.int i)
 |.str x _=>some (.str x)
 |.bytes b _=>some (.byt b)
 |.float b _=>some (.flt b)
 |.ref a=>some (.ref a)
 |.type n=>some (.ty n)
 |_=>none
def aY.abs {x:V}{u:Gt}(r:aY x u):Hx u=some x:=by
 cases x with
 |non=>cases r;rfl
 |bl _=>cases r;rfl
 |int _=>obtain⟨t,rfl⟩:=r;rfl
 |str _=>obtain⟨t,rfl⟩:=r;rfl
 |byt _=>obtain⟨t,rfl⟩:=r;rfl
 |flt _=>obtain⟨t,rfl⟩:=r;rfl
 |ref _=>cases r;rfl
 |ty _=>cases r;rfl
def aY.inj {x y:V}{u:Gt}(r:aY x u)(q:aY y u):x=y:=Js (r.abs.symm.trans q.abs)
theorem aX.inj:∀{xs ys:List V}{us:List Gt},aX xs us->aX ys us->xs=ys
 |_,_,_,.nil,.nil=>rfl
 |_,_,_,.cons r t,.cons r' t'=>by rw[r.inj r',aX.inj t t']
section
variable {X:Cx}{pins:List (Addr×Obj)}{σ:St}{H:Hp}{s:IQ}{a:Addr}{xs ys:List V}
def SqL.of {K:If}(h:H a=some (.lst xs)):SqL K H a xs:=.inl (.inl h)
def SqT.of {K:If}(h:H a=some (.tup xs)):SqT K H a xs:=.inl (.inl h)
def Inv.list (I:Inv X pins σ H s)(h:SqL X.K H a xs):∃its:List Gt,aX xs its/\PlainL s.heap a its.toArray/\xs.length<=sizeLine:=by
 rcases h with h|⟨o,its,n,hk,hc,hd,hs,hz,r⟩
 ·obtain⟨z,its,n,r,e⟩:=h.ok I.hok
  exact⟨its,r,⟨_,n,e,rfl,rfl,rfl⟩,z⟩
 ·refine⟨its.toList,r,⟨o,n,I.kIn a o hk,hc,hd,by simpa using hs⟩,?_⟩
  have e:=r.length
  simp only[Ko]at e
  omega
def Inv.tuple (I:Inv X pins σ H s)(h:SqT X.K H a xs):∃its:List Gt,aX xs its/\NP s.heap a its.toArray/\xs.length<=sizeLine:=by
 rcases h with h|⟨o,its,n,hk,hc,hs,hz,r⟩
 ·obtain⟨z,its,r,p⟩:=h.ok I.hok
  exact⟨its,r,p,z⟩
 ·refine⟨its.toList,r,⟨o,I.kIn a o hk,hc,n,by simpa using hs⟩,?_⟩
  have e:=r.length
  simp only[Ko]at e
  omega
def Inv.list_inj (I:Inv X pins σ H s)(h:SqL X.K H a xs)(h':SqL X.K H a ys):xs=ys:=by
 obtain⟨its,r,⟨o,n,e,_,_,d⟩,_⟩:=I.list h
 obtain⟨its',r',⟨o',n',e',_,_,d'⟩,_⟩:=I.list h'
 rw[e]at e';cases e'
 rw[d]at d'
 injection d' with d1 _
 have:its=its':=by simpa using congrArg Sy d1
 subst this
 exact r.inj r'
def Inv.tuple_inj (I:Inv X pins σ H s)(h:SqT X.K H a xs)(h':SqT X.K H a ys):xs=ys:=by
 obtain⟨its,r,⟨o,e,_,n,d⟩,_⟩:=I.tuple h
 obtain⟨its',r',⟨o',e',_,n',d'⟩,_⟩:=I.tuple h'
 rw[e]at e';cases e'
 rw[d]at d'
 injection d' with d1 _
 have:its=its':=by simpa using congrArg Sy d1
 subst this
 exact r.inj r'
end
abbrev Cx.wish (X:Cx)(E:Gt->IQ->Prop):Cx:={X with xe:=E}
abbrev Cx.nox (X:Cx):Cx:=X.wish fun _ _=>False
def Cx.Ok.wish {X:Cx}(ok:X.Ok)(E:Gt->IQ->Prop):(X.wish E).Ok:=
 ⟨ok.mod,ok.kind,ok.glob,ok.blt,ok.above,ok.inj,ok.has,ok.cab,ok.hd,ok.frames,ok.stk,ok.exf,ok.bs,ok.bsz,ok.noex,ok.exfs,ok.funs,ok.frf⟩
def Cx.Ok.unwish {X:Cx}{E:Gt->IQ->Prop}(ok:(X.wish E).Ok):X.Ok:=
 ⟨ok.mod,ok.kind,ok.glob,ok.blt,ok.above,ok.inj,ok.has,ok.cab,ok.hd,ok.frames,ok.stk,ok.exf,ok.bs,ok.bsz,ok.noex,ok.exfs,ok.funs,ok.frf⟩
section
variable {X:Cx}{pins:List (Addr×Obj)}{σ:St}{H:Hp}{s:IQ}{E:Gt->IQ->Prop}
def Inv.wish (I:Inv X pins σ H s)(E:Gt->IQ->Prop):Inv (X.wish E) pins σ H s:=⟨I.ok.wish E,I.os,I.bare,I.base,I.loc,I.cell,I.free,I.freeC,I.pin,I.hok,I.len⟩
def Inv.unwish (I:Inv (X.wish E) pins σ H s):Inv X pins σ H s:=⟨I.ok.unwish,I.os,I.bare,I.base,I.loc,I.cell,I.free,I.freeC,I.pin,I.hok,I.len⟩
def SP.unwish {D:eO}{f:Flow}{s':IQ}(h:SP (X.wish E) pins D f s'):SP X pins D f s':=by
 cases f with
 |next=>obtain⟨σ',H',I,q⟩:=h;exact⟨σ',H',I.unwish,q⟩
 |brk=>obtain⟨σ',H',I,q⟩:=h;exact⟨σ',H',I.unwish,q⟩
 |cont=>obtain⟨σ',H',I,q⟩:=h;exact⟨σ',H',I.unwish,q⟩
 |ret u=>obtain⟨v,σ',H',I,r,q⟩:=h;exact⟨v,σ',H',I.unwish,r,q⟩
def PE.nox {e:Expr}{t:TE}(h:PE X.nox e t):PE X e t:=fun pins s σ H Q I hw=>
 Ju (h pins s σ H Q (I.wish _) hw) (fun _ _ ⟨v,H',I',r,q⟩=>⟨v,H',I'.unwish,r,q⟩) fun _ _ z=>Kg z
def PSs.nox {st:List Stmt}{t:TS}(h:PSs X.nox st t):PSs X st t:=fun pins s σ H D I hw=>
 Ju (h pins s σ H D (I.wish _) hw) (fun _ _ q=>q.unwish) fun _ _ z=>Kg z
end
section
variable {X:Cx}{st:Stmt}{bD:List Stmt}{t u:TS}{e:Expr}{te:TE}{pos:Pos}
def aS:TS:=fun D σ H=>D.nx σ H
def av (t u:TS):TS:=fun D σ H=>t {D with nx:=u D} σ H
def Ae:PSs X [] aS:=fun _ _ σ H _ I h=>MC ⟨σ,H,I,h⟩
def vg (h1:PS X st t)(h2:PSs X bD u):PSs X (st::bD) (av t u):=by
 intro pins s σ H D I h
 refine NK (thn (h1 pins s σ H {D with nx:=u D} I h) fun f s1 q=>?_)
 cases f with
 |next=>
  obtain⟨σ',H',I',q⟩:=q
  exact h2 pins s1 σ' H' D I' q
 |ret v=>exact q
 |brk=>exact q
 |cont=>exact q
def zv (h1:PS X st t):PSs X [st] t:=by
 intro pins s σ H D I h
 refine NK (thn (h1 pins s σ H D I h) fun f s1 q=>?_)
 cases f with
 |next=>exact MC q
 |ret v=>exact q
 |brk=>exact q
 |cont=>exact q
def Inv.quiet {pins:List (Addr×Obj)}{σ:St}{H:Hp}{s:IQ}(I:Inv X pins σ H s):interactive X.env=false:=by simp[interactive,I.ok.kind]
def cA (te:TE):TS:=fun D σ H=>te σ H fun _ H1=>D.nx σ H1
def zB (he:PE X e te)(hs:swapsWith e none pos.line X.env=pure false:=by rfl):PS X (.Expr e pos) (cA te):=by
 intro pins s σ H D I h
 exact wpAny_Expr_any (thn (he pins s σ H _ I h) fun v s1 ⟨x,H1,I1,r1,q1⟩=>⟨σ,H1,I1,q1⟩) I.quiet hs
def aI (te:TE):TS:=fun D σ H=>te σ H D.rt
def Bi (he:PE X e te):PS X (.Return (some e) pos) (aI te):=by
 intro pins s σ H D I h
 exact SJ (thn (he pins s σ H _ I h) fun v s1 ⟨x,H1,I1,r1,q1⟩=>⟨x,σ,H1,I1,r1,q1⟩)
def eJ:TS:=fun _ _ _=>False
def vL:PS X st eJ:=fun _ _ _ _ _ _ h=>h.elim
end
abbrev TG:=V->St->Hp->(St->Hp->Prop)->Prop
abbrev TGs:=List V->St->Hp->(St->Hp->Prop)->Prop
def PG (X:Cx)(target:Expr)(t:TG):Prop:=
 ∀(pins:List (Addr×Obj))(s:IQ)(σ:St)(H:Hp)(v:V)(u:Gt)(Q:St->Hp->Prop),Inv X pins σ H s->aY v u->t v σ H Q->
  wpAny (model X.prog X.w) X.A (assign target X.env u) (fun _ s'=>∃σ' H',Inv X pins σ' H' s'/\Q σ' H') X.xe s
def PGs (X:Cx)(ts:List Expr)(t:TGs):Prop:=
 ∀(pins:List (Addr×Obj))(s:IQ)(σ:St)(H:Hp)(vs:List V)(us:List Gt)(Q:St->Hp->Prop),Inv X pins σ H s->aX vs us->t vs σ H Q->
  wpAny (model X.prog X.w) X.A (assignInOrder ((assignEach ts X.env).map (·.2)) us) (fun _ s'=>∃σ' H',Inv X pins σ' H' s'/\Q σ' H') X.xe s
section
variable {X:Cx}{pos:Pos}
def au (i:Nat):TG:=fun v σ H Q=>Q (σ.set i (some v)) H
def cV {i:Nat}{x:Str}(hN:X.N.Nodup)(hi:X.N[i]?=some x)(hx:Loc X.env.scope x)(hf:X.fn x=true\/X.env.scope.names.lookup x=some .local:=by first|exact .inl rfl|exact .inr rfl|assumption):PG X (.Name x pos) (au i):=by
 intro pins s σ H v u Q I r h
 exact SI (iq I hN hi hx r (fun s' I'=>⟨_,H,I',h⟩) hf)
def gD:TGs:=fun vs σ H Q=>vs=[]/\Q σ H
def bN (t:TG)(u:TGs):TGs:=fun vs σ H Q=>∃v r,vs=v::r/\t v σ H fun σ' H'=>u r σ' H' Q
def jB:PGs X [] gD:=by
 intro pins s σ H vs us Q I r h
 obtain⟨e,h⟩:=h
 subst e
 cases r
 exact assignInOrder_nil ⟨σ,H,I,h⟩
def cK {e:Expr}{es:List Expr}{t:TG}{u:TGs}(h1:PG X e t)(h2:PGs X es u)
  (hs:(assignEach (e::es) X.env).map (·.2)=assign e X.env::(assignEach es X.env).map (·.2):=by rfl):PGs X (e::es) (bN t u):=by
 intro pins s σ H vs us Q I r h
 obtain⟨v,vr,e1,h⟩:=h
 subst e1
 cases r with
 |cons r rr=>
  rw[hs]
  refine assignInOrder_cons (thn (h1 pins s σ H _ _ _ I r h) fun _ s1 ⟨σ1,H1,I1,q1⟩=>?_)
  exact h2 pins s1 σ1 H1 _ _ Q I1 rr q1
def iR (K:If)(n:Nat)(t:TGs):TG:=fun v σ H Q=>∃a xs,v=.ref a/\SqT K H a xs/\xs.length=n/\t xs σ H Q
def pP {es:List Expr}{k:Nat}{t:TGs}{n:Nat}(hc:X.calm=true)(h:PGs X es t)
  (hn:(assignEach es X.env).length=n:=by rfl)(hst:(assignEach es X.env).findIdx? (·.1)=none:=by rfl):PG X (.Tuple es k pos) (iR X.K n t):=by
 intro pins s σ H v u Q I r hw
 obtain⟨a,xs,e1,hq,hl,hw⟩:=hw
 subst e1
 cases r
 obtain⟨its,rv,ht,hz⟩:=I.tuple hq
 refine assign_Tuple_tuple (I.ok.hd hc) ht (by simp[hn,<-hl,rv.length]) hst fun h' hx=>?_
 have I1:Inv X pins σ H {s with heap:=h'}:=I.kept (t':=s.toks) fun b o e=>hx b o (Jb (IS e)) e
 exact h pins _ σ H xs _ Q I1 (by simpa using rv) hw
def aE (te:TE)(g:TG):TS:=fun D σ H=>te σ H fun x H1=>g x σ H1 D.nx
def uU {tg e:Expr}{te:TE}{g:TG}(he:PE X e te)(hg:PG X tg g)(hs:swapsWithSole [tg] e pos.line X.env=pure false:=by rfl)(hw:swappedStores [tg] e X.env=pure none:=by rfl)
  (h1:(assignEach [tg] X.env).map (·.2)=[assign tg X.env]:=by rfl):PS X (.Assign [tg] e pos) (aE te g):=by
 intro pins s σ H D I h
 refine wpAny_Assign_stores (thn (he pins s σ H _ I h) fun v s1 ⟨x,H1,I1,r1,q1⟩=>?_) hs hw
 rw[h1]
 exact thn (hg pins s1 σ H1 x v _ I1 r1 q1) fun _ s2 q=>q
def CW {i:Nat}{x:Str}{e:Expr}{te:TE}{pos':Pos}(hN:X.N.Nodup)(hi:X.N[i]?=some x)(hx:Loc X.env.scope x)(he:PE X e te)(hs:swapsWith e (some (.Name x pos')) pos.line X.env=pure false:=by rfl)(hf:X.fn x=true\/X.env.scope.names.lookup x=some .local:=by first|exact .inl rfl|exact .inr rfl|assumption):
  PS X (.Assign [.Name x pos'] e pos) (aE te (au i)):=by
 intro pins s σ H D I h
 refine wpAny_Assign_Name (thn (he pins s σ H _ I h) fun v s1 ⟨y,H1,I1,r1,q1⟩=>?_) hs
 exact iq I1 hN hi hx r1 (fun s2 I2=>⟨_,H1,I2,q1⟩) hf
end
section
variable {X:Cx}{pos:Pos}
def jd (c:TT)(tb:TS):TS:=fun D σ H=>∃W:Nat->St->Hp->Prop,(∃m,W m σ H)/\∀m σ H,W m σ H->
 c σ H fun b H1=>if b=true then ∃N:St->Hp->Prop,(∀σ' H',N σ' H'->∃m',m'<m/\W m' σ' H')/\tb {D with nx:=N,ct:=N,bk:=D.nx} σ H1 else D.nx σ H1
def xI {c:Expr}{body:List Stmt}{tc:TT}{tb:TS}(hp:Qb (model X.prog X.w) X.A X.env X.xe)(hc:PT X c tc)(hb:PSs X body tb):PS X (.While c body [] pos) (jd tc tb):=by
 intro pins s σ H D I h
 obtain⟨W,⟨m0,w0⟩,turn⟩:=h
 refine wpAny_While (codeAny_whileLoop (fun n s'=>∃σ' H',Inv X pins σ' H' s'/\W n σ' H') ?_ m0 ⟨σ,H,I,w0⟩)
 rintro n s1 ⟨σ1,H1,I1,w1⟩
 refine Mg hp (thn (hc pins s1 σ1 H1 _ I1 (turn n σ1 H1 w1)) fun b s2 ⟨H2,I2,q2⟩=>?_)
 cases b with
 |true=>
  obtain⟨N,hN,q2⟩:=q2
  rw[if_pos rfl]
  refine Mg hp (thn (hb pins s2 σ1 H2 _ I2 q2) fun f s3 q3=>?_)
  cases f with
  |next=>
   obtain⟨σ3,H3,I3,n3⟩:=q3
   obtain⟨m',hm,w3⟩:=hN σ3 H3 n3
   exact⟨m',hm,σ3,H3,I3,w3⟩
  |cont=>
   obtain⟨σ3,H3,I3,n3⟩:=q3
   obtain⟨m',hm,w3⟩:=hN σ3 H3 n3
   exact⟨m',hm,σ3,H3,I3,w3⟩
  |brk=>exact q3
  |ret v=>exact q3
 |false=>
  rw[if_neg Jc]
  exact MC ⟨σ1,H2,I2,q2⟩
end
structure It where
 go:Nat->Hp->Prop
 yld:Nat->Hp->V->Hp->Prop
 stop:Nat->Hp->Prop
def fA (X:Cx)(pins:List (Addr×Obj))(H:Hp)(b:Addr):Prop:=
 H b=none/\b≠X.env.locals/\b∉X.fs/\(b∈X.ex\/X.s₀.heap.objs.size<=b)/\(∀x c,X.env.cells.lookup x=some c->c≠b)/\∀p∈X.pn++pins,p.1≠b
def Inv.fpOk {X:Cx}{pins:List (Addr×Obj)}{σ:St}{H H':Hp}{s:IQ}{b:Addr}(I:Inv X pins σ H s)(hb:s.heap.objs.size<=b)(hn:H' b=none):fA X pins H' b:=by
 refine⟨hn,Kc (Jm I.lt hb),I.nofs hb,.inr (JQ I.sz hb),fun x c e z=>?_,fun p hp z=>?_⟩
 ·obtain⟨v,q⟩:=I.cell x c e
  exact absurd (Jm q.lt (by rw[z];exact hb)) (KG _)
 ·exact absurd (Jm (IS (I.pin p hp).1) (by rw[z];exact hb)) (KG _)
structure fW (P:Jd)(w:JL)(K:If)(tg:Expr)(J:It)(fp:List Addr)(it:Addr)(tn:Nat->Heap->Prop):Prop where
 mem:it∈fp
 obj:∀i h,tn i h->∀b∈fp,∃o,h.get? b=some o/\∀v,o.data≠.cell v
 keep:∀i h h',tn i h->(∀b∈fp,∀o,h.get? b=some o->h'.get? b=some o)->tn i h'
 item:∀(X:Cx),X.prog=P->X.w=w->X.K=K->X.calm=true->∀(i:Nat)(pins:List (Addr×Obj))(s:IQ)(σ:St)(H:Hp)(E:Gt->IQ->Prop),Inv X pins σ H s->(∀b∈fp,fA X pins H b)->tn i s.heap->J.go i H->
  wpAny (model P w) X.A (pyNext (.ref it)) (fun r s1=>∃u,r=some u/\
   wpAny (model P w) X.A (letOwnedTupleGo tg (.ref it) u) (fun _ s2=>∃x H',Inv X pins σ H' s2/\aY x u/\J.yld i H x H'/\tn (i+1) s2.heap/\∀b∈fp,H' b=none) E s1) E s
 done:∀(X:Cx),X.prog=P->X.w=w->X.K=K->X.calm=true->∀(i:Nat)(pins:List (Addr×Obj))(s:IQ)(σ:St)(H:Hp)(E:Gt->IQ->Prop),Inv X pins σ H s->(∀b∈fp,fA X pins H b)->tn i s.heap->J.stop i H->
  wpAny (model P w) X.A (pyNext (.ref it)) (fun r s1=>r=none/\Inv X pins σ H s1) E s
 self:∀(A:JK)(i:Nat)(s:IQ)(Q:Gt->IQ->Prop)(E:Gt->IQ->Prop),tn i s.heap->Q (.ref it) s->wpAny (model P w) A (pyIter (.ref it)) Q E s
abbrev TI:=St->Hp->(It->Hp->Prop)->Prop
def PIE (X:Cx)(pins:List (Addr×Obj))(σ:St)(tg:Expr)(R:It->Hp->Prop)(itv:Gt)(s2:IQ):Prop:=
 ∃(it:Addr)(fp:List Addr)(tn:Nat->Heap->Prop)(J:It)(H':Hp),itv=.ref it/\Inv X pins σ H' s2/\fW X.prog X.w X.K tg J fp it tn/\tn 0 s2.heap/\(∀b∈fp,fA X pins H' b)/\R J H'
def PI (X:Cx)(tg iter:Expr)(wi:TI):Prop:=
 ∀(pins:List (Addr×Obj))(s:IQ)(σ:St)(H:Hp)(R:It->Hp->Prop),Inv X pins σ H s->wi σ H R->
  wpAny (model X.prog X.w) X.A (eval iter X.env) (fun v s1=>wpAny (model X.prog X.w) X.A (pyIter v) (PIE X pins σ tg R) X.xe s1) X.xe s
def jP {M:RY}{A:JK}{E:Gt->IQ->Prop}{s:IQ}{tg:Expr}{it:Addr}{u:Gt}{o:Obj}{n:String}{vs:Array Gt}{Q:Unit->IQ->Prop}(ho:s.heap.get? it=some o)(hc:o.cls=.type n)(hd:o.data=.fields vs)
  (hn:["enumerate","zip","dict_itemiterator","dict_reverseitemiterator","odict_iterator","itertools.zip_longest","itertools.pairwise"].contains n=false)(hQ:Q () s):wpAny M A (letOwnedTupleGo tg (.ref it) u) Q E s:=by
 unfold letOwnedTupleGo
 cases tg<;>first
  |exact tx hQ
  |(cases u<;>first
   |exact tx hQ
   |(refine cW (wpAny_load ho ?_)
     rw[hc,hd]
     show wpAny M A (if (["enumerate","zip","dict_itemiterator","dict_reverseitemiterator","odict_iterator","itertools.zip_longest","itertools.pairwise"].contains n&&vs[0]? ==some (rawInt _))=true then _ else _) Q E s
     rw[if_neg (by intro h;rw[hn,Si]at h;cases h)]
     exact tx hQ))
def Itl (K:If)(a:Addr):It:=
 ⟨fun i H=>∃xs x,SqL K H a xs/\xs[i]?=some x,fun i H x H'=>H'=H/\∀xs,SqL K H a xs->xs[i]?=some x,fun i H=>∃xs,SqL K H a xs/\xs.length<=i⟩
def Itt (K:If)(a:Addr):It:=
 ⟨fun i H=>∃xs x,SqT K H a xs/\xs[i]?=some x,fun i H x H'=>H'=H/\∀xs,SqT K H a xs->xs[i]?=some x,fun i H=>∃xs,SqT K H a xs/\xs.length<=i⟩
def Itr (lo:Int)(n:Nat):It:=⟨fun i _=>i<n,fun i H x H'=>H'=H/\x=.int (lo+i),fun i _=>n<=i⟩
def uQ {P:Jd}{w:JL}{K:If}{tg:Expr}(a it:Addr):fW P w K tg (Itl K a) [it] it (fun i h=>h.IsListIter it a i)where
 mem:=by simp
 obj:=fun i h st b hb=>by
  have e:b=it:=by simpa using hb
  subst e
  obtain⟨o,e,c,d⟩:=st
  exact⟨o,e,fun v z=>by rw[d]at z;cases z⟩
 keep:=fun i h h' st k=>st.at fun o e=>k it (by simp) o e
 item:=by
  intro X hP hw hK hc i pins s σ H E I hf st hg
  subst hP hw hK
  obtain⟨xs,x,hq,hx⟩:=hg
  obtain⟨its,rv,p,hz⟩:=I.list hq
  obtain⟨u,hu,ru⟩:=rv.get hx
  obtain⟨f0,f1,f2,f3,f4,f5⟩:=hf it (by simp)
  refine wpAny_pyNext_list_item st p.isList (x:=u) (by simpa using hu) fun h' st' sb=>?_
  have I1:Inv X pins σ H {s with heap:=h'}:=I.turned (t':=s.toks) (fun b o hb e=>(sb.2 b hb).trans e) f0 f1 f3 f4 f5
  obtain⟨o,e,c,d⟩:=id st'
  exact⟨u,rfl,jP (s:={s with heap:=h'}) e c d (by decide) ⟨x,H,I1,ru,⟨rfl,fun ys hy=>by rw[I.list_inj hy hq];exact hx⟩,st',fun b hb=>(hf b hb).1⟩⟩
 done:=by
  intro X hP hw hK hc i pins s σ H E I hf st hg
  subst hP hw hK
  obtain⟨xs,hq,hx⟩:=hg
  obtain⟨its,rv,p,hz⟩:=I.list hq
  obtain⟨f0,f1,f2,f3,f4,f5⟩:=hf it (by simp)
  have hl:=rv.length
  exact wpAny_pyNext_list_end (I.ok.hd hc) st p.isList (by simp;omega) fun h' eb=>⟨rfl,I.turned (t':=s.toks) (fun b o hb e=>eb b o hb e) f0 f1 f3 f4 f5⟩
 self:=fun _ _ _ _ _ st h=>wpAny_pyIter_listiter st h
def rD {P:Jd}{w:JL}{K:If}{tg:Expr}(a it:Addr):fW P w K tg (Itt K a) [it] it (fun i h=>h.IsTupleIter it a i)where
 mem:=by simp
 obj:=fun i h st b hb=>by
  have e:b=it:=by simpa using hb
  subst e
  obtain⟨o,e,c,d⟩:=st
  exact⟨o,e,fun v z=>by rw[d]at z;cases z⟩
 keep:=fun i h h' st k=>st.at fun o e=>k it (by simp) o e
 item:=by
  intro X hP hw hK hc i pins s σ H E I hf st hg
  subst hP hw hK
  obtain⟨xs,x,hq,hx⟩:=hg
  obtain⟨its,rv,p,hz⟩:=I.tuple hq
  obtain⟨u,hu,ru⟩:=rv.get hx
  obtain⟨f0,f1,f2,f3,f4,f5⟩:=hf it (by simp)
  refine wpAny_pyNext_tuple_item st (show s.heap.IsTuple a its.toArray from p) (x:=u) (by simpa using hu) fun h' st' sb=>?_
  have I1:Inv X pins σ H {s with heap:=h'}:=I.turned (t':=s.toks) (fun b o hb e=>(sb.2 b hb).trans e) f0 f1 f3 f4 f5
  obtain⟨o,e,c,d⟩:=id st'
  exact⟨u,rfl,jP (s:={s with heap:=h'}) e c d (by decide) ⟨x,H,I1,ru,⟨rfl,fun ys hy=>by rw[I.tuple_inj hy hq];exact hx⟩,st',fun b hb=>(hf b hb).1⟩⟩
 done:=by
  intro X hP hw hK hc i pins s σ H E I hf st hg
  subst hP hw hK
  obtain⟨xs,hq,hx⟩:=hg
  obtain⟨its,rv,p,hz⟩:=I.tuple hq
  obtain⟨f0,f1,f2,f3,f4,f5⟩:=hf it (by simp)
  have hl:=rv.length
  exact wpAny_pyNext_tuple_end (I.ok.hd hc) st (show s.heap.IsTuple a its.toArray from p) (by simp;omega) fun h' eb=>⟨rfl,I.turned (t':=s.toks) (fun b o hb e=>eb b o hb e) f0 f1 f3 f4 f5⟩
 self:=fun _ _ _ _ _ st h=>wpAny_pyIter_tupleiter st h
def sE {P:Jd}{w:JL}{K:If}{tg:Expr}(it:Addr)(lo:Int)(n:Nat):fW P w K tg (Itr lo n) [it] it (fun i h=>IsRangeIter h it (lo+(i:Nat)*1) ((n:Int)- (i:Nat)) 1)where
 mem:=by simp
 obj:=fun i h st b hb=>by
  have e:b=it:=by simpa using hb
  subst e
  exact⟨_,st,fun v z=>by
   have z':Data.fields _=Data.cell v:=z
   cases z'⟩
 keep:=fun i h h' st k=>k it (by simp) _ st
 item:=by
  intro X hP hw hK hc i pins s σ H E I hf st hg
  subst hP hw hK
  obtain⟨f0,f1,f2,f3,f4,f5⟩:=hf it (by simp)
  have W:=Walks.range (prog:=X.prog) (w:=X.w) (I.ok.hd hc) it lo 1 n
  refine W.item i s _ _ hg st fun v h' tk hv st' kk=>?_
  obtain⟨t,rfl⟩:=hv
  have I1:Inv X pins σ H {s with heap:=h',toks:=tk}:=I.turned (fun b o hb e=>kk b o (by simpa using hb) e) f0 f1 f3 f4 f5
  refine⟨_,rfl,jP (s:={s with heap:=h',toks:=tk}) (n:="range_iterator") st' rfl rfl (by decide) ⟨.int (lo+i),H,I1,⟨t,?_⟩,⟨rfl,rfl⟩,st',fun b hb=>(hf b hb).1⟩⟩
  rw[Int.mul_one]
 done:=by
  intro X hP hw hK hc i pins s σ H E I hf st hg
  subst hP hw hK
  obtain⟨f0,f1,f2,f3,f4,f5⟩:=hf it (by simp)
  exact wpAny_pyNext_range_end (I.ok.hd hc) st (by have:n<=i:=hg;omega) fun h' eb=>⟨rfl,I.turned (t':=s.toks) (fun b o hb e=>eb b o hb e) f0 f1 f3 f4 f5⟩
 self:=fun _ _ _ _ _ st h=>wpAny_pyIter_rangeiter st h
section
variable {X:Cx}{tg:Expr}
def vC {pins:List (Addr×Obj)}{σ:St}{H:Hp}{s:IQ}{R:It->Hp->Prop}{E:Gt->IQ->Prop}{lo hi:Int}{t u v:Tok}{tk:Nat}(I:Inv X pins σ H s)(h1: -(2^62)<=lo)(h2:lo<2^62)(h3: -(2^62)<=hi)(h4:hi<2^62)
  (q:R (Itr lo (hi- lo).toNat) H):wpAny (model X.prog X.w) X.A (pyIter (.ref s.heap.objs.size)) (PIE X pins σ tg R) E {s with heap:=s.heap.push {cls:=.type "range",data:=.fields #[.int lo t,.int hi u,.int 1 v]},toks:=tk}:=by
 refine wpAny_pyIter_range (IsRange.new ..) (small_one h1 h2 h3 h4) ?_
 have I1:Inv X pins σ H {s with heap:=s.heap.push {cls:=.type "range",data:=.fields #[.int lo t,.int hi u,.int 1 v]},toks:=tk}:=I.kept fun b o e=>gV _ e
 refine⟨(s.heap.push {cls:=.type "range",data:=.fields #[.int lo t,.int hi u,.int 1 v]}).objs.size,[(s.heap.push {cls:=.type "range",data:=.fields #[.int lo t,.int hi u,.int 1 v]}).objs.size],_,_,H,rfl,
  I1.kept (t':=tk) fun b o e=>gV _ e,sE _ lo (hi- lo).toNat,?_,fun b hb=>?_,q⟩
 ·have e1:lo+((0:Nat):Int)*1=lo:=by simp
  have e2:(((hi- lo).toNat:Nat):Int)- ((0:Nat):Int)=Th lo hi 1:=by rw[rangeSize_one];split<;>omega
  show IsRangeIter _ _ (lo+((0:Nat):Int)*1) ((((hi- lo).toNat:Nat):Int)- ((0:Nat):Int)) 1
  rw[e1,e2]
  exact IT _ rfl
 ·have e:b=(s.heap.push {cls:=.type "range",data:=.fields #[.int lo t,.int hi u,.int 1 v]}).objs.size:=by simpa using hb
  subst e
  exact I1.fpOk (IV _) (I1.hok.fresh (IV _))
def nA (ta:TA):TI:=fun σ H R=>ta σ H fun vs H1=>∃j:Int,vs=[.int j]/\ -(2^62)<=j/\j<2^62/\R (Itr 0 j.toNat) H1
def tp {a:Expr}{ta:TA}{p pos:Pos}(hg:Gl X "range")(hm:X.mg "range"=none)(ha:PA X [a] ta)(hs:starEach [a] X.env=[(false,eval a X.env)]:=by rfl):PI X tg (.Call (.Name "range" p) [a] [] pos) (nA ta):=by
 intro pins s σ H R I h
 refine Call_ (eA I hg hm boot_range (JP (thn (ha pos pins s σ H _ I h) fun us s1 ⟨vs,H1,I1,r1,q1⟩=>?_) hs rfl))
 obtain⟨j,e,q1,q2,q⟩:=q1
 subst e
 cases r1 with
 |cons r rr=>
  cases rr
  obtain⟨t,rfl⟩:=r
  exact call_range_1 (vC I1 (by omega) (by omega) q1 q2 (by simpa using q))
def fU (wi:TI)(g:TG)(tb:TS):TS:=fun D σ H=>wi σ H fun J H1=>∃W:Nat->Nat->St->Hp->Prop,(∃m,W 0 m σ H1)/\∀i m σ H,W i m σ H->
 (J.stop i H/\D.nx σ H)\/(J.go i H/\∃N:St->Hp->Prop,(∀σ' H',N σ' H'->∃m',m'<m/\W (i+1) m' σ' H')/\∀x H',J.yld i H x H'->g x σ H' fun σ2 H2=>tb {D with nx:=N,ct:=N,bk:=D.nx} σ2 H2)
def hU (fp:List Addr)(h:Heap):List (Addr×Obj):=fp.filterMap fun b=>(h.get? b).map fun o=>(b,o)
def dF {fp:List Addr}{h:Heap}{b:Addr}{o:Obj}(hb:b∈fp)(e:h.get? b=some o):(b,o)∈hU fp h:=Oc.mpr ⟨b,hb,by rw[e];rfl⟩
def uh {fp:List Addr}{h:Heap}{p:Addr×Obj}(hp:p∈hU fp h):p.1∈fp/\h.get? p.1=some p.2:=by
 obtain⟨b,hb,e⟩:=Oc.mp hp
 cases q:h.get? b with
 |none=>rw[q]at e;cases e
 |some o=>
  rw[q]at e
  have e':(b,o)=p:=Js e
  subst e'
  exact⟨hb,q⟩
def Inv.pinned {pins:List (Addr×Obj)}{σ:St}{H:Hp}{s:IQ}{fp:List Addr}(I:Inv X pins σ H s)(hf:∀b∈fp,fA X pins H b)(ho:∀b∈fp,∃o,s.heap.get? b=some o/\∀v,o.data≠.cell v):Inv X (pins++hU fp s.heap) σ H s:=
 I.pins_of fun p hp=>(Ka.mp hp).elim (fun z=>I.pin p (Jv _ z)) fun z=>by
  obtain⟨hb,e⟩:=uh z
  obtain⟨f0,f1,f2,_⟩:=hf p.1 hb
  obtain⟨o,e',d⟩:=ho p.1 hb
  rw[e]at e';cases e'
  exact⟨e,f0,f1,f2,d⟩
def Inv.unpinned {pins pl:List (Addr×Obj)}{σ:St}{H:Hp}{s:IQ}(I:Inv X (pins++pl) σ H s):Inv X pins σ H s:=I.pins_of fun p hp=>I.pin p (Jv _ (Lf _ hp))
def sV {iter:Expr}{body:List Stmt}{wi:TI}{g:TG}{tb:TS}{pos:Pos}(hp:Qb (model X.prog X.w) X.A X.env X.xe)(hc:X.calm=true)(hi:PI X tg iter wi)(hg:PG X tg g)(hb:PSs X body tb)
  (hs:∀x,foldedSetIterable iter X.env x=pure x:=by intro _;rfl):PS X (.For tg iter body [] pos) (fU wi g tb):=by
 intro pins s σ H D I h
 refine wpAny_For (thn (hi pins s σ H _ I h) fun v s1 h1=>thn h1 fun itv s2 h2=>?_) hs
 obtain⟨it,fp,tn,J,H2,e,I2,T,st2,f2,W,⟨m0,w0⟩,turn⟩:=h2
 subst e
 have stat:∀{H':Hp},(∀b∈fp,H' b=none)->∀b∈fp,fA X pins H' b:=fun hn b hb=>⟨hn b hb,(f2 b hb).2⟩
 refine codeAny_forLoop_any (fun n s'=>∃i σ' H',Inv X pins σ' H' s'/\tn i s'.heap/\(∀b∈fp,H' b=none)/\W i n σ' H') ?_ m0 ⟨0,σ,H2,I2,st2,fun b hb=>(f2 b hb).1,w0⟩
 rintro n s3 ⟨i,σ3,H3,I3,st3,fr3,w3⟩
 rcases turn i n σ3 H3 w3 with⟨stop,qn⟩|⟨go,N,hN,step⟩
 ·refine Mg hp (thn (T.done X rfl rfl rfl hc i pins s3 σ3 H3 X.xe I3 (stat fr3) st3 stop) fun r s4 ⟨hr,I4⟩=>?_)
  subst hr
  exact MC ⟨σ3,H3,I4,qn⟩
 ·refine Mg hp (thn (T.item X rfl rfl rfl hc i pins s3 σ3 H3 X.xe I3 (stat fr3) st3 go) fun r s4 ⟨u,hr,h4⟩=>?_)
  subst hr
  refine Mg hp (thn h4 fun _ s5 ⟨x,H5,I5,r5,y5,st5,fr5⟩=>?_)
  have I5':=I5.pinned (stat fr5) (T.obj _ _ st5)
  refine Mg hp (thn (hg _ s5 σ3 H5 x u _ I5' r5 (step x H5 y5)) fun _ s6 ⟨σ6,H6,I6,q6⟩=>?_)
  refine Mg hp (thn (hb _ s6 σ6 H6 _ I6 q6) fun f s7 q7=>?_)
  have again:∀{σ7:St}{H7:Hp},Inv X (pins++hU fp s5.heap) σ7 H7 s7->N σ7 H7->∃m,m<n/\∃i σ' H',Inv X pins σ' H' s7/\tn i s7.heap/\(∀b∈fp,H' b=none)/\W i m σ' H':=fun{σ7 H7} I7 n7=>by
   obtain⟨m',hm,w7⟩:=hN σ7 H7 n7
   refine⟨m',hm,i+1,σ7,H7,I7.unpinned,T.keep _ _ _ st5 fun b hb o e=>(I7.pin (b,o) (Jv _ (Jv _ (dF hb e)))).1,fun b hb=>?_,w7⟩
   obtain⟨o,e,d⟩:=T.obj _ _ st5 b hb
   exact(I7.pin (b,o) (Jv _ (Jv _ (dF hb e)))).2.1
  cases f with
  |next=>obtain⟨σ7,H7,I7,n7⟩:=q7;exact again I7 n7
  |cont=>obtain⟨σ7,H7,I7,n7⟩:=q7;exact again I7 n7
  |brk=>obtain⟨σ7,H7,I7,q7⟩:=q7;exact⟨σ7,H7,I7.unpinned,q7⟩
  |ret v=>obtain⟨x7,σ7,H7,I7,r7,q7⟩:=q7;exact⟨x7,σ7,H7,I7.unpinned,r7,q7⟩
end
def xW {K:If}{a:Addr}{xs:List V}{g:TG}{tb:TS}{D:eO}{σ:St}{H:Hp}(Pv:Nat->St->Hp->Prop)(h0:Pv 0 σ H)(hl:∀i σ H,i<=xs.length->Pv i σ H->SqL K H a xs)
  (hs:∀i x σ H,xs[i]?=some x->Pv i σ H->g x σ H fun σ2 H2=>tb {D with nx:=Pv (i+1),ct:=Pv (i+1),bk:=D.nx} σ2 H2)(hd:∀σ H,Pv xs.length σ H->D.nx σ H):
  ∃W:Nat->Nat->St->Hp->Prop,(∃m,W 0 m σ H)/\∀i m σ H,W i m σ H->
   ((Itl K a).stop i H/\D.nx σ H)\/((Itl K a).go i H/\∃N:St->Hp->Prop,(∀σ' H',N σ' H'->∃m',m'<m/\W (i+1) m' σ' H')/\∀x H',(Itl K a).yld i H x H'->g x σ H' fun σ2 H2=>tb {D with nx:=N,ct:=N,bk:=D.nx} σ2 H2):=by
 refine⟨fun i m σ H=>m=xs.length- i/\i<=xs.length/\Pv i σ H,⟨xs.length,by simp,Kf _,h0⟩,?_⟩
 rintro i m σ H ⟨rfl,hi,p⟩
 have q:=hl i σ H hi p
 by_cases hlt:i<xs.length
 ·refine .inr ⟨⟨xs,xs[i],q,by simp[hlt]⟩,Pv (i+1),fun σ' H' p'=>⟨xs.length- (i+1),by omega,rfl,hlt,p'⟩,fun x H' y=>?_⟩
  obtain⟨e,y⟩:=y
  subst e
  exact hs i x σ _ (y xs q) p
 ·have e:i=xs.length:=by omega
  subst e
  exact .inl ⟨⟨xs,q,IV _⟩,hd σ H p⟩
def qw {K:If}{a:Addr}{xs:List V}{g:TG}{tb:TS}{D:eO}{σ:St}{H:Hp}(Pv:Nat->St->Hp->Prop)(h0:Pv 0 σ H)(hl:∀i σ H,i<=xs.length->Pv i σ H->SqT K H a xs)
  (hs:∀i x σ H,xs[i]?=some x->Pv i σ H->g x σ H fun σ2 H2=>tb {D with nx:=Pv (i+1),ct:=Pv (i+1),bk:=D.nx} σ2 H2)(hd:∀σ H,Pv xs.length σ H->D.nx σ H):
  ∃W:Nat->Nat->St->Hp->Prop,(∃m,W 0 m σ H)/\∀i m σ H,W i m σ H->
   ((Itt K a).stop i H/\D.nx σ H)\/((Itt K a).go i H/\∃N:St->Hp->Prop,(∀σ' H',N σ' H'->∃m',m'<m/\W (i+1) m' σ' H')/\∀x H',(Itt K a).yld i H x H'->g x σ H' fun σ2 H2=>tb {D with nx:=N,ct:=N,bk:=D.nx} σ2 H2):=by
 refine⟨fun i m σ H=>m=xs.length- i/\i<=xs.length/\Pv i σ H,⟨xs.length,by simp,Kf _,h0⟩,?_⟩
 rintro i m σ H ⟨rfl,hi,p⟩
 have q:=hl i σ H hi p
 by_cases hlt:i<xs.length
 ·refine .inr ⟨⟨xs,xs[i],q,by simp[hlt]⟩,Pv (i+1),fun σ' H' p'=>⟨xs.length- (i+1),by omega,rfl,hlt,p'⟩,fun x H' y=>?_⟩
  obtain⟨e,y⟩:=y
  subst e
  exact hs i x σ _ (y xs q) p
 ·have e:i=xs.length:=by omega
  subst e
  exact .inl ⟨⟨xs,q,IV _⟩,hd σ H p⟩
def ux {lo:Int}{n:Nat}{g:TG}{tb:TS}{D:eO}{σ:St}{H:Hp}(Pv:Nat->St->Hp->Prop)(h0:Pv 0 σ H)
  (hs:∀i σ H,i<n->Pv i σ H->g (.int (lo+i)) σ H fun σ2 H2=>tb {D with nx:=Pv (i+1),ct:=Pv (i+1),bk:=D.nx} σ2 H2)(hd:∀σ H,Pv n σ H->D.nx σ H):
  ∃W:Nat->Nat->St->Hp->Prop,(∃m,W 0 m σ H)/\∀i m σ H,W i m σ H->
   ((Itr lo n).stop i H/\D.nx σ H)\/((Itr lo n).go i H/\∃N:St->Hp->Prop,(∀σ' H',N σ' H'->∃m',m'<m/\W (i+1) m' σ' H')/\∀x H',(Itr lo n).yld i H x H'->g x σ H' fun σ2 H2=>tb {D with nx:=N,ct:=N,bk:=D.nx} σ2 H2):=by
 refine⟨fun i m σ H=>m=n- i/\i<=n/\Pv i σ H,⟨n,by simp,Kf _,h0⟩,?_⟩
 rintro i m σ H ⟨rfl,hi,p⟩
 by_cases hlt:i<n
 ·refine .inr ⟨hlt,Pv (i+1),fun σ' H' p'=>⟨n- (i+1),by omega,rfl,hlt,p'⟩,fun x H' y=>?_⟩
  obtain⟨e,y⟩:=y
  subst e y
  exact hs i σ _ hlt p
 ·have e:i=n:=by omega
  subst e
  exact .inl ⟨IV _,hd σ H p⟩
abbrev R2:=V->V->Hp->VK->Prop
def OpR (X:Cx)(f:Gt->Gt->Sem Gt)(r:R2):Prop:=
 ∀(pins:List (Addr×Obj))(s:IQ)(σ:St)(H:Hp)(x y:V)(v u:Gt)(Q:VK),Inv X pins σ H s->aY x v->aY y u->r x y H Q->
  wpAny (model X.prog X.w) X.A (f v u) (EP X pins σ Q) X.xe s
def UnR (X:Cx)(f:Gt->Sem Gt)(r:V->Hp->VK->Prop):Prop:=
 ∀(pins:List (Addr×Obj))(s:IQ)(σ:St)(H:Hp)(x:V)(v:Gt)(Q:VK),Inv X pins σ H s->aY x v->r x H Q->
  wpAny (model X.prog X.w) X.A (f v) (EP X pins σ Q) X.xe s
def bI (X:Cx)(f:Gt)(r:List V->Hp->VK->Prop):Prop:=
 ∀(pins:List (Addr×Obj))(s:IQ)(σ:St)(H:Hp)(xs:List V)(us:List Gt)(Q:VK),Inv X pins σ H s->aX xs us->r xs H Q->
  wpAny (model X.prog X.w) X.A (call f us) (EP X pins σ Q) X.xe s
def HR (X:Cx)(r:V->Hp->(Bool->Hp->Prop)->Prop):Prop:=
 ∀(pins:List (Addr×Obj))(s:IQ)(σ:St)(H:Hp)(x:V)(v:Gt)(Q:Bool->Hp->Prop),Inv X pins σ H s->aY x v->r x H Q->
  wpAny (model X.prog X.w) X.A (truthy v) (TP X pins σ Q) X.xe s
def tOp (r:R2)(ta tb:TE):TE:=fun σ H Q=>ta σ H fun x H1=>tb σ H1 fun y H2=>r x y H2 Q
def tUn (r:V->Hp->VK->Prop)(ta:TE):TE:=fun σ H Q=>ta σ H fun x H1=>r x H1 Q
def rI (C:Int->Int->Prop)(g:Int->Int->V):R2:=fun x y H Q=>∃i j,x=.int i/\y=.int j/\C i j/\Q (g i j) H
def rI0 (g:Int->Int->V):R2:=fun x y H Q=>∃i j,x=.int i/\y=.int j/\Q (g i j) H
def rU (g:Int->V):V->Hp->VK->Prop:=fun x H Q=>∃i,x=.int i/\Q (g i) H
section
variable {X:Cx}{a b c:Expr}{ta tb tc:TE}{pos:Pos}
def vF (ha:PE X a ta)(hb:PE X b tb){pins:List (Addr×Obj)}{s:IQ}{σ:St}{H:Hp}{R:V->V->Hp->Prop}(I:Inv X pins σ H s)
  (h:ta σ H fun x H1=>tb σ H1 fun y H2=>R x y H2){Q:Gt->IQ->Prop}{f:Gt->Gt->Sem Gt}
  (hf:∀v u s2 x y H2,Inv X pins σ H2 s2->aY x v->aY y u->R x y H2->wpAny (model X.prog X.w) X.A (f v u) Q X.xe s2):
  wpAny (model X.prog X.w) X.A (eval a X.env) (fun v s₁=>wpAny (model X.prog X.w) X.A (eval b X.env) (fun u s₂=>wpAny (model X.prog X.w) X.A (f v u) Q X.xe s₂) X.xe s₁) X.xe s:=by
 refine thn (ha pins s σ H _ I h) fun v s1 ⟨x,H1,I1,r1,q1⟩=>?_
 refine thn (hb pins s1 σ H1 _ I1 q1) fun u s2 ⟨y,H2,I2,r2,q2⟩=>?_
 exact hf v u s2 x y H2 I2 r1 r2 q2
def Ee {op:Operator}{r:R2}(ho:OpR X (binaryOp op) r)(ha:PE X a ta)(hb:PE X b tb):PE X (.BinOp a op b pos) (tOp r ta tb):=by
 intro pins s σ H Q I h
 exact wpAny_BinOp (vF ha hb I h fun v u s2 x y H2 I2 rx ry q=>ho pins s2 σ H2 x y v u Q I2 rx ry q)
def DR {op:UnaryOp}{r:V->Hp->VK->Prop}(ho:UnR X (unaryOp op) r)(ha:PE X a ta):PE X (.UnaryOp op a pos) (tUn r ta):=by
 intro pins s σ H Q I h
 exact UnaryOp_ (thn (ha pins s σ H _ I h) fun v s1 ⟨x,H1,I1,r1,q1⟩=>ho pins s1 σ H1 x v Q I1 r1 q1)
def opI {f:Gt->Gt->Sem Gt}{C:Int->Int->Prop}{g:Int->Int->Int}
  (rule:∀(i j:Int)(t u:Tok)(s:IQ)(Q:Gt->IQ->Prop)(E:Gt->IQ->Prop),C i j->Q (.int (g i j) s.toks) {s with toks:=s.toks+1}->wpAny (model X.prog X.w) X.A (f (.int i t) (.int j u)) Q E s):
  OpR X f (rI C fun i j=>.int (g i j)):=by
 intro pins s σ H x y v u Q I rx ry h
 obtain⟨i,j,rfl,rfl,hc,q⟩:=h
 obtain⟨t,rfl⟩:=rx
 obtain⟨t',rfl⟩:=ry
 exact rule i j t t' s _ _ hc ⟨.int (g i j),H,I.tok _,⟨_,rfl⟩,q⟩
def rk {f:Gt->Gt->Sem Gt}{g:Int->Int->Int}
  (rule:∀(i j:Int)(t u:Tok)(s:IQ)(Q:Gt->IQ->Prop)(E:Gt->IQ->Prop),Q (.int (g i j) s.toks) {s with toks:=s.toks+1}->wpAny (model X.prog X.w) X.A (f (.int i t) (.int j u)) Q E s):
  OpR X f (rI0 fun i j=>.int (g i j)):=by
 intro pins s σ H x y v u Q I rx ry h
 obtain⟨i,j,rfl,rfl,q⟩:=h
 obtain⟨t,rfl⟩:=rx
 obtain⟨t',rfl⟩:=ry
 exact rule i j t t' s _ _ ⟨.int (g i j),H,I.tok _,⟨_,rfl⟩,q⟩
def xX {f:Gt->Gt->Sem Gt}{g:Int->Int->Bool}
  (rule:∀(i j:Int)(t u:Tok)(s:IQ)(Q:Gt->IQ->Prop)(E:Gt->IQ->Prop),Q (.bool (g i j)) s->wpAny (model X.prog X.w) X.A (f (.int i t) (.int j u)) Q E s):
  OpR X f (rI0 fun i j=>.bl (g i j)):=by
 intro pins s σ H x y v u Q I rx ry h
 obtain⟨i,j,rfl,rfl,q⟩:=h
 obtain⟨t,rfl⟩:=rx
 obtain⟨t',rfl⟩:=ry
 exact rule i j t t' s _ _ ⟨.bl (g i j),H,I,rfl,q⟩
def CJ (i j:Int):Prop:=0<=j/\j<=1000000/\i.natAbs<2^64
def sH (k:Nat):(0:Int)<=2^k:=by
 rw[two_pow_cast]
 exact Int.natCast_nonneg _
def Df:OpR X (binaryOp .Add) (rI0 fun i j=>.int (i+j)):=rk fun _ _ _ _ _ _ _ q=>add_int q
def BE:OpR X (binaryOp .Sub) (rI0 fun i j=>.int (i- j)):=rk fun _ _ _ _ _ _ _ q=>sub_int q
def CZ:OpR X (binaryOp .Mod) (rI (fun _ j=>0<j) fun i j=>.int (i%j)):=opI fun i j _ _ _ _ _ hc q=>by
 have h1:(0:Int)<j:=hc
 exact mod_int' (by omega) (by rw[Int.fmod_eq_emod_of_nonneg i (by omega)];exact q)
def Dp:OpR X (binaryOp .Pow) (rI CJ fun i j=>.int (i^j.toNat)):=opI fun _ _ _ _ _ _ _ hc q=>pow_int_small hc.1 hc.2.1 hc.2.2 q
def Ca:OpR X (binaryOp .LShift) (rI CJ fun i j=>.int (i*2^j.toNat)):=opI fun _ _ _ _ _ _ _ hc q=>lshift_int_small hc.1 hc.2.1 hc.2.2 q
def AJ:OpR X (binaryOp .RShift) (rI (fun _ j=>0<=j) fun i j=>.int (i/2^j.toNat)):=opI fun i j _ _ _ _ _ hc q=>
 rshift_int hc (by rw[Pw i (sH _)];exact q)
def Dz:OpR X (binaryOp .BitAnd) (rI0 fun i j=>.int (Lu i j)):=rk fun _ _ _ _ _ _ _ q=>and_int q
def BH:OpR X (binaryOp .BitXor) (rI0 fun i j=>.int (Mf i j)):=rk fun _ _ _ _ _ _ _ q=>xor_int q
def unI {f:Gt->Sem Gt}{g:Int->Int}
  (rule:∀(i:Int)(t:Tok)(s:IQ)(Q:Gt->IQ->Prop)(E:Gt->IQ->Prop),Q (.int (g i) s.toks) {s with toks:=s.toks+1}->wpAny (model X.prog X.w) X.A (f (.int i t)) Q E s):
  UnR X f (rU fun i=>.int (g i)):=by
 intro pins s σ H x v Q I rx h
 obtain⟨i,rfl,q⟩:=h
 obtain⟨t,rfl⟩:=rx
 exact rule i t s _ _ ⟨.int (g i),H,I.tok _,⟨_,rfl⟩,q⟩
def Bc:UnR X (unaryOp .USub) (rU fun i=>.int (-i)):=unI fun _ _ _ _ _ q=>neg_int q
end
def AW:V->V->Bool
 |.non,.non=>true|.non,.int _=>true|.int _,.non=>true|.non,.bl _=>true|.bl _,.non=>true|.non,.str _=>true|.str _,.non=>true
 |.int _,.int _=>true|.bl _,.bl _=>true|.str _,.str _=>true|.byt _,.byt _=>true
 |.int _,.str _=>true|.str _,.int _=>true|.bl _,.str _=>true|.str _,.bl _=>true
 |_,_=>false
def rEq:R2:=fun x y H Q=>AW x y=true/\Q (.bl (decide (x=y))) H
def rNe:R2:=fun x y H Q=>AW x y=true/\Q (.bl (!decide (x=y))) H
def qN {i j:Int}:decide (V.int i=V.int j)=(i==j):=by
 rw[MQ]
 simp
def ug {i j:Bool}:decide (V.bl i=V.bl j)=(i==j):=by
 rw[MQ]
 simp
def qP {i j:Str}:decide (V.str i=V.str j)=(i==j):=by
 rw[MQ]
 simp
def qI {i j:Array UInt8}:decide (V.byt i=V.byt j)=(i.toList==j.toList):=by
 rw[MQ]
 cases i
 cases j
 simp
section
variable {X:Cx}{a b c:Expr}{ta tb tc:TE}{pos:Pos}
def bn {pins:List (Addr×Obj)}{σ:St}{H:Hp}{s:IQ}{Q:VK}{k k':Bool}(I:Inv X pins σ H s)(q:Q (.bl k) H)(e:k=k'):EP X pins σ Q (.bool k') s:=by
 subst e
 exact⟨.bl k,H,I,rfl,q⟩
def Ex:OpR X (compareOp .Eq) rEq:=by
 intro pins s σ H x y v u Q I rx ry h
 obtain⟨hs,q⟩:=h
 cases x with
 |non=>
  cases rx
  cases y with
  |non=>cases ry;exact PySem.EqNone.eq_none_none (bn I q (by simp))
  |bl j=>cases ry;exact PySem.EqNone.eq_none_bool (bn I q (by simp))
  |int j=>obtain⟨t',rfl⟩:=ry;exact PySem.EqNone.eq_none_int (bn I q (by simp))
  |str j=>obtain⟨t',rfl⟩:=ry;exact PySem.EqNone.eq_none_str (bn I q (by simp))
  |_=>exact absurd (show false=true from hs) Jc
 |bl i=>
  cases rx
  cases y with
  |non=>cases ry;exact PySem.EqNone.eq_bool_none (bn I q (by simp))
  |bl j=>cases ry;exact eq_bool (bn I q ug)
  |str j=>obtain⟨t',rfl⟩:=ry;exact Tc (bn I q (by simp))
  |_=>exact absurd (show false=true from hs) Jc
 |int i=>
  obtain⟨t,rfl⟩:=rx
  cases y with
  |non=>cases ry;exact PySem.EqNone.eq_int_none (bn I q (by simp))
  |int j=>obtain⟨t',rfl⟩:=ry;exact eq_int (bn I q qN)
  |str j=>obtain⟨t',rfl⟩:=ry;exact Tb (bn I q (by simp))
  |_=>exact absurd (show false=true from hs) Jc
 |str i=>
  obtain⟨t,rfl⟩:=rx
  cases y with
  |non=>cases ry;exact PySem.EqNone.eq_str_none (bn I q (by simp))
  |bl j=>cases ry;exact Ta (bn I q (by simp))
  |int j=>obtain⟨t',rfl⟩:=ry;exact SZ (bn I q (by simp))
  |str j=>obtain⟨t',rfl⟩:=ry;exact eq_str (bn I q qP)
  |_=>exact absurd (show false=true from hs) Jc
 |byt i=>
  obtain⟨t,rfl⟩:=rx
  cases y with
  |byt j=>obtain⟨t',rfl⟩:=ry;exact W.eq_bytes (bn I q qI)
  |_=>exact absurd (show false=true from hs) Jc
 |_=>cases y<;>exact absurd (show false=true from hs) Jc
def FK:OpR X (compareOp .NotEq) rNe:=by
 intro pins s σ H x y v u Q I rx ry h
 obtain⟨hs,q⟩:=h
 cases x with
 |non=>
  cases rx
  cases y with
  |non=>cases ry;exact PySem.EqNone.ne_none_none (bn I q (by simp))
  |bl j=>cases ry;exact PySem.EqNone.ne_none_bool (bn I q (by simp))
  |int j=>obtain⟨t',rfl⟩:=ry;exact PySem.EqNone.ne_none_int (bn I q (by simp))
  |str j=>obtain⟨t',rfl⟩:=ry;exact PySem.EqNone.ne_none_str (bn I q (by simp))
  |_=>exact absurd (show false=true from hs) Jc
 |bl i=>
  cases rx
  cases y with
  |non=>cases ry;exact PySem.EqNone.ne_bool_none (bn I q (by simp))
  |bl j=>cases ry;exact ne_bool (bn I q (congrArg not ug))
  |str j=>obtain⟨t',rfl⟩:=ry;exact SY (bn I q (by simp))
  |_=>exact absurd (show false=true from hs) Jc
 |int i=>
  obtain⟨t,rfl⟩:=rx
  cases y with
  |non=>cases ry;exact PySem.EqNone.ne_int_none (bn I q (by simp))
  |int j=>obtain⟨t',rfl⟩:=ry;exact ne_int (bn I q (congrArg not qN))
  |str j=>obtain⟨t',rfl⟩:=ry;exact SX (bn I q (by simp))
  |_=>exact absurd (show false=true from hs) Jc
 |str i=>
  obtain⟨t,rfl⟩:=rx
  cases y with
  |non=>cases ry;exact PySem.EqNone.ne_str_none (bn I q (by simp))
  |bl j=>cases ry;exact SW (bn I q (by simp))
  |int j=>obtain⟨t',rfl⟩:=ry;exact SV (bn I q (by simp))
  |str j=>obtain⟨t',rfl⟩:=ry;exact ne_str (bn I q (congrArg not qP))
  |_=>exact absurd (show false=true from hs) Jc
 |byt i=>
  obtain⟨t,rfl⟩:=rx
  cases y with
  |byt j=>obtain⟨t',rfl⟩:=ry;exact W.ne_bytes (bn I q (congrArg not qI))
  |_=>exact absurd (show false=true from hs) Jc
 |_=>cases y<;>exact absurd (show false=true from hs) Jc
def Eh:OpR X (compareOp .Lt) (rI0 fun i j=>.bl (decide (i<j))):=xX fun _ _ _ _ _ _ _ q=>lt_int q
def EF:OpR X (compareOp .LtE) (rI0 fun i j=>.bl (decide (i<=j))):=xX fun _ _ _ _ _ _ _ q=>le_int q
def DO:OpR X (compareOp .Gt) (rI0 fun i j=>.bl (decide (j<i))):=xX fun _ _ _ _ _ _ _ q=>gt_int q
def tO:OpR X (compareOp .In) (fun x y H Q=>∃i j,x=.str i/\y=.str j/\Q (.bl (!(Oy j i 0 j.length 1).isEmpty)) H):=by
 intro pins s σ H x y v u Q I rx ry h
 obtain⟨i,j,rfl,rfl,q⟩:=h
 obtain⟨t,rfl⟩:=rx
 obtain⟨t',rfl⟩:=ry
 exact in_str (bn I q rfl)
def AX:OpR X (compareOp .Is) (fun x y H Q=>y=.non/\Q (.bl (decide (x=.non))) H):=by
 intro pins s σ H x y v u Q I rx ry h
 obtain⟨rfl,q⟩:=h
 cases ry
 refine is_none_gen (bn I q ?_)
 cases x<;>first
  |(cases rx;rfl)
  |(obtain⟨t,rfl⟩:=rx;rfl)
def OpR.or {f:Gt->Gt->Sem Gt}{r r':R2}(h:OpR X f r)(h':OpR X f r'):OpR X f (fun x y H Q=>r x y H Q\/r' x y H Q):=by
 intro pins s σ H x y v u Q I rx ry q
 rcases q with q|q
 ·exact h pins s σ H x y v u Q I rx ry q
 ·exact h' pins s σ H x y v u Q I rx ry q
def kT (b:Expr){op:Rw}(h:op≠.In:=by decide)(h2:op≠.NotIn:=by decide):behindInMarks op b=false:=by
 have e1:(op==CmpOp.In)=false:=by cases op<;>first|rfl|exact absurd rfl h
 have e2:(op==CmpOp.NotIn)=false:=by cases op<;>first|rfl|exact absurd rfl h2
 cases b<;>simp[behindInMarks,e1,e2]
def yZ {op:Rw}{r:R2}(ho:OpR X (compareOp op) r)(ha:PE X a ta)(hb:PE X b tb)(hm:behindInMarks op b=false):PE X (.Compare a [op] [b] pos) (tOp r ta tb):=by
 intro pins s σ H Q I h
 exact wpAny_Compare1 (vF ha hb I h fun v u s2 x y H2 I2 rx ry q=>ho pins s2 σ H2 x y v u Q I2 rx ry q) hm
def AM (K:If)(x:V)(H:Hp)(k:Bool):Prop:=
 match x with
 |.non=>k=false
 |.bl b=>k=b
 |.int i=>k=(i !=0)
 |.str y=>y.length<=sizeLine/\k=((y.length:Int) !=0)
 |.byt y=>y.size<=sizeLine/\k=((y.size:Int) !=0)
 |.ref p=>(∃xs,SqL K H p xs/\k= !xs.isEmpty)\/(∃xs,SqT K H p xs/\k= !xs.isEmpty)\/∃kvs,H p=some (.dK kvs)/\k= !kvs.isEmpty
 |_=>False
def rK {κ:Type}{kvs:List (κ×V)}{vs:List (κ×Gt)}(r:KV kvs vs):(!vs.isEmpty)= !kvs.isEmpty:=by
 cases r<;>rfl
def kZ {xs:List V}{its:List Gt}(r:aX xs its):(!its.toArray.isEmpty)= !xs.isEmpty:=by
 cases r<;>simp
def jp:(sizeLine:Nat)<2^63:=by rw[KB];decide
def Di:HR X (fun x H Q=>∃k,AM X.K x H k/\Q k H):=by
 intro pins s σ H x v Q I rx h
 obtain⟨k,e,q⟩:=h
 have hl:=jp
 have hs:sizeLine=16777216:=KB
 cases x with
 |non=>
  cases rx
  have e':k=false:=e
  subst e'
  exact truthy_none ⟨H,I,q⟩
 |bl b=>
  cases rx
  have e':k=b:=e
  subst e'
  exact Lp ⟨H,I,q⟩
 |int i=>
  obtain⟨t,rfl⟩:=rx
  have e':k=(i !=0):=e
  subst e'
  exact PySem.P.truthy_int ⟨H,I,q⟩
 |str y=>
  obtain⟨t,rfl⟩:=rx
  obtain⟨hy,e'⟩:y.length<=sizeLine/\k=((y.length:Int) !=0):=e
  subst e'
  exact PySem.P.truthy_str (by omega) ⟨H,I.tok _,q⟩
 |byt y=>
  obtain⟨t,rfl⟩:=rx
  obtain⟨hy,e'⟩:y.size<=sizeLine/\k=((y.size:Int) !=0):=e
  subst e'
  exact W.truthy_bytes (by omega) ⟨H,I.tok _,q⟩
 |ref p=>
  cases rx
  have e':(∃xs,SqL X.K H p xs/\k= !xs.isEmpty)\/(∃xs,SqT X.K H p xs/\k= !xs.isEmpty)\/∃kvs,H p=some (.dK kvs)/\k= !kvs.isEmpty:=e
  rcases e' with⟨xs,hx,e'⟩|⟨xs,hx,e'⟩|⟨kvs,hx,e'⟩
  ·subst e'
   obtain⟨its,r,pl,hz⟩:=I.list hx
   have hlen:=r.length
   exact wpAny_truthy_list pl.isList (by simp only[IX];omega) ⟨H,I.tok _,by rw[kZ r];exact q⟩
  ·subst e'
   obtain⟨its,r,pl,hz⟩:=I.tuple hx
   have hlen:=r.length
   exact truthy_tuple pl (by simp only[IX];omega) ⟨H,I.tok _,by rw[kZ r];exact q⟩
  ·subst e'
   obtain⟨hz,hS,vs,r,m⟩:kvs.length<=sizeLine/\(p==sysModules)=false/\∃vs,KV kvs vs/\s.heap.DictOf (bY X.prog X.w) p vs:=I.hok p _ hx
   have hlen:kvs.length=vs.length:=Paired.length r
   exact wpAny_truthy_dict hS m (by omega) ⟨H,I.tok _,by rw[rK r];exact q⟩
 |_=>exact(show False from e).elim
def rz:OpR X (binaryOp .Add) (fun x y H Q=>∃i j,x=.str i/\y=.str j/\i.length+j.length<=sizeLine/\Q (.str (i++j)) H):=by
 intro pins s σ H x y v u Q I rx ry h
 obtain⟨i,j,rfl,rfl,hz,q⟩:=h
 obtain⟨t,rfl⟩:=rx
 obtain⟨t',rfl⟩:=ry
 exact add_str (fun t' tk=>⟨.str (i++j),H,I.tok _,⟨_,rfl⟩,q⟩) hz
def dU {x:V}{us:List Gt}(r:aX [x] us):∃u,us=[u]/\aY x u:=by
 cases r with
 |cons r1 r2=>cases r2;exact⟨_,rfl,r1⟩
def kS {x y:V}{us:List Gt}(r:aX [x,y] us):∃u w',us=[u,w']/\aY x u/\aY y w':=by
 cases r with
 |cons r1 r2=>
  cases r2 with
  |cons r3 r4=>cases r4;exact⟨_,_,rfl,r1,r3⟩
def qb:bI X (.type "str") (fun xs H Q=>∃i,xs=[.int i]/\i.natAbs.log2<1920/\Q (.str (toString i)) H):=by
 intro pins s σ H xs us Q I r h
 obtain⟨i,rfl,hz,q⟩:=h
 obtain⟨u,rfl,t,rfl⟩:=dU r
 exact PySem.P.str_of_int hz ⟨.str _,H,I.tok _,⟨_,rfl⟩,q⟩
def xc:bI X (.builtin "ord") (fun xs H Q=>∃x,xs=[.str x]/\x.length=1/\Q (.int (x.cps.getD 0 0:Nat)) H):=by
 intro pins s σ H xs us Q I r h
 obtain⟨x,rfl,hz,q⟩:=h
 obtain⟨u,rfl,t,rfl⟩:=dU r
 exact ord_of_one hz ⟨.int _,H,I.tok _,⟨_,rfl⟩,q⟩
def HF (K:If)(x:V)(H:Hp)(n:Nat):Prop:=
 match x with
 |.str y=>y.length<=sizeLine/\n=y.length
 |.byt y=>y.size<=sizeLine/\n=y.size
 |.ref p=>(∃xs,SqL K H p xs/\n=xs.length)\/∃xs,SqT K H p xs/\n=xs.length
 |_=>False
def kh:bI X (.builtin "len") (fun xs H Q=>∃x n,xs=[x]/\HF X.K x H n/\Q (.int n) H):=by
 intro pins s σ H xs us Q I r h
 obtain⟨x,n,rfl,e,q⟩:=h
 obtain⟨u,rfl,rx⟩:=dU r
 have hl:=jp
 have hs:sizeLine=16777216:=KB
 cases x with
 |str y=>
  obtain⟨t,rfl⟩:=rx
  obtain⟨hy,e'⟩:y.length<=sizeLine/\n=y.length:=e
  subst e'
  exact len_str (by omega) ⟨.int _,H,I.tok _,⟨_,rfl⟩,q⟩
 |byt y=>
  obtain⟨t,rfl⟩:=rx
  obtain⟨hy,e'⟩:y.size<=sizeLine/\n=y.size:=e
  subst e'
  exact W.len_bytes (by omega) ⟨.int _,H,I.tok _,⟨_,rfl⟩,q⟩
 |ref p=>
  cases rx
  have e':(∃xs,SqL X.K H p xs/\n=xs.length)\/∃xs,SqT X.K H p xs/\n=xs.length:=e
  rcases e' with⟨xs,hx,e'⟩|⟨xs,hx,e'⟩
  ·subst e'
   obtain⟨its,r',pl,hz⟩:=I.list hx
   have hlen:=r'.length
   exact Calls.call_len_list pl.isList (by simp only[IX];omega) ⟨.int xs.length,H,I.tok _,⟨_,by simp only[IX];rw[hlen]⟩,q⟩
  ·subst e'
   obtain⟨its,r',pl,hz⟩:=I.tuple hx
   have hlen:=r'.length
   exact len_tuple pl (by simp only[IX];omega) ⟨.int xs.length,H,I.tok _,⟨_,by simp only[IX];rw[hlen]⟩,q⟩
 |_=>exact(show False from e).elim
end
structure vw (h:Heap)(x dx C:Addr)(mA:Str->Option Gt):Prop where
 obj:h.get? x=some (SN C dx)
 ns:h.Ns1 dx mA
 ne:dx≠x
def ms {h:Heap}{dx:Addr}{mA:Str->Option Gt}(n:h.Ns1 dx mA):∃od,h.get? dx=some od/\∀name,W.lookIn name od=some (mA name):=by
 obtain⟨o,es,ep,ho,hd,hk,_,hm⟩:=n
 refine⟨o,ho,fun name=>?_⟩
 have e:=hm name
 unfold nsFind findBy at e
 rw[<-Array.find?_toList]at e
 unfold W.lookIn
 rw[hd]
 dsimp only
 split
 ·rename_i y q
  rw[q]at e
  exact congrArg some e
 ·rename_i q
  rw[q]at e
  have a:es.toList.any (·.refKey)=false:=by
   rw[List.any_eq_false]
   intro y hy
   obtain⟨z,t,hkey⟩:=hk y (Array.mem_toList_iff.mp hy)
   simp[DictEntry.refKey,hkey]
  have a':¬es.toList.any (·.refKey)=true:=by rw[a];exact Jc
  rw[if_neg a']
  exact congrArg some e
def vw.look {h:Heap}{x dx C:Addr}{mA:Str->Option Gt}(I:vw h x dx C mA):∃od,W.InstAt h x (SN C dx) C (some od)/\∀name,W.lookIn name od=some (mA name):=
 let ⟨od,ho,hl⟩:=ms I.ns
 ⟨od,⟨I.obj,rfl,rfl,ho⟩,hl⟩
def iK (f:Str)(v:V):List (Str×V)->List (Str×V)
 |[]=>[(f,v)]
 |(g,x)::r=>if g=f then(g,v)::r else(g,x)::iK f v r
theorem jY (f g:Str)(v:V):∀fs:List (Str×V),(iK f v fs).lookup g=if g=f then some v else fs.lookup g
 |[]=>by
  show KO g [(f,v)]=_
  by_cases h:g=f
  ·have hb:(g==f)=true:=beq_iff_eq.mpr h
   simp only[KO,hb,if_pos h]
  ·have hb:(g==f)=false:=beq_eq_false_iff_ne.mpr h
   simp only[KO,hb,if_neg h]
 |(k,x)::r=>by
  have ih:=jY f g v r
  rw[show iK f v ((k,x)::r)=(if k=f then(k,v)::r else(k,x)::iK f v r)from rfl]
  by_cases hk:k=f
  ·rw[if_pos hk]
   by_cases h:g=k
   ·have hb:(g==k)=true:=beq_iff_eq.mpr h
    simp only[KO,hb,if_pos (h.trans hk)]
   ·have hb:(g==k)=false:=beq_eq_false_iff_ne.mpr h
    simp only[KO,hb,if_neg (fun e:g=f=>h (e.trans hk.symm))]
  ·rw[if_neg hk]
   by_cases h:g=k
   ·have hb:(g==k)=true:=beq_iff_eq.mpr h
    simp only[KO,hb,if_neg (fun e:g=f=>hk (h.symm.trans e))]
   ·have hb:(g==k)=false:=beq_eq_false_iff_ne.mpr h
    simp only[KO,hb]
    exact ih
def cM.some_of {v:V}{o:Option Gt}(r:cM (some v) o):∃u,o=some u/\aY v u:=by
 cases o with
 |none=>exact(show False from r).elim
 |some u=>exact⟨u,rfl,r⟩
def cM.none_of {o:Option Gt}(r:cM none o):o=none:=by
 cases o with
 |none=>rfl
 |some u=>exact(show False from r).elim
def tH {v:V}{u:Gt}(r:aY v u):W.handedIn u=true:=by
 cases v with
 |non=>cases (show u=Kk from r);rfl
 |bl b=>cases (show u=Lh b from r);rfl
 |int i=>obtain⟨t,e⟩:=(show ∃t,u=Na i t from r);cases e;rfl
 |str x=>obtain⟨t,e⟩:=(show ∃t,u=MZ x t from r);cases e;rfl
 |byt b=>obtain⟨t,e⟩:=(show ∃t,u=SO b t from r);cases e;rfl
 |flt b=>obtain⟨t,e⟩:=(show ∃t,u=Qq b t from r);cases e;rfl
 |ref a=>cases (show u=Ji a from r);rfl
 |ty n=>cases (show u=LP n from r);rfl
section
variable {P:Jd}{w:JL}{H H':Hp}{h h':Heap}{a C dx:Addr}{fs fs':List (Str×V)}
def zW (hok:HOk P w H h)(e:H a=some (.ins C dx fs)):∃mA,vw h a dx C mA/\(∀f,cM (fs.lookup f) (mA f))/\Qa mA (fs.map (·.1))/\fs.length<=1000/\H dx=some (.own a):=by
 obtain⟨d,z,ne,ob,mA,n,r,q⟩:=(show aU P w H h a (.ins C dx fs)from hok a _ e)
 exact⟨mA,⟨ob,n,ne⟩,r,q,z,d⟩
end
structure Cls (K:If)(C:Addr):Prop where
 pg:W.plainGet K C NH=true
 hd:W.hasDictIn K C=true
 po:W.plainOver K C=true
 sa:Mp K (.ref C) "__setattr__"=some (some (.builtin "object.__setattr__"))
def Cls.get {K:If}{C:Addr}(c:Cls K C)(f:Str):W.plainGet K C f=true:=c.pg
section
variable {X:Cx}{pins:List (Addr×Obj)}{σ:St}{H:Hp}{s:IQ}{a C dx:Addr}{fs:List (Str×V)}{f:Str}{v:V}{A:JK}{E:Gt->IQ->Prop}
def Al {prog:Jd}{w:JL}{env:Env}{e:Expr}{f:Str}{pos:Pos}{s:IQ}{Q:Gt->IQ->Prop}(hb:attributeBase e f env (eval e env)=eval e env)
  (h:wpAny (model prog w) A (eval e env) (fun o s₁=>wpAny (model prog w) A (getAttr o f true) Q E s₁) E s):wpAny (model prog w) A (eval (.Attribute e f pos) env) Q E s:=
 Attribute_any_ h (by rw[arm_eval_Attribute,hb])
end
section
variable {X:Cx}{pins:List (Addr×Obj)}{σ:St}{H:Hp}{s:IQ}{A:JK}{E:Gt->IQ->Prop}{Q:Gt->IQ->Prop}{c:Gt}{b:Bool}
inductive fv (K:If)(H:Hp):V->Gt->Prop where
 |non:fv K H .non (.type "NoneType")
 |bl (x:Bool):fv K H (.bl x) (.type "bool")
 |int (i:Int):fv K H (.int i) (.type "int")
 |str (x:Str):fv K H (.str x) (.type "str")
 |flt (x:UInt64):fv K H (.flt x) (.type "float")
 |lst {a:Addr} {xs:List V} (e:H a=some (.lst xs)):fv K H (.ref a) (.type "list")
 |frz {a:Addr} {o:Obj} {xs:List V} (e:H a=some (.frz o (.lst xs))):fv K H (.ref a) (.type "list")
 |tup {a:Addr} {xs:List V} (e:H a=some (.tup xs)):fv K H (.ref a) (.type "tuple")
 |dK {a:Addr} {kvs:List (Key×V)} (e:H a=some (.dK kvs)):fv K H (.ref a) (.type "dict")
 |dT {a:Addr} {kvs:List (List Key×V)} (e:H a=some (.dT kvs)):fv K H (.ref a) (.type "dict")
 |ins {a C dx:Addr} {fs:List (Str×V)} (e:H a=some (.ins C dx fs)) (cl:Cls K C) (ha:Mp K (.ref C) "__class__"=some (some (.builtin "object.__class__")))
  (hn:W.specialIn K (.builtin "object.__class__") "__get__"=some (some (.builtin "getset_descriptor.__get__"))) (htk:W.takesIn K (.builtin "object.__class__")=some true)
  (hm:OJ K C (.type "object")=some true):fv K H (.ref a) (.ref C)
def tT {x:V}{u t:Gt}(I:Inv X pins σ H s)(rx:aY x u)(ty:fv X.K H x t)(e:W.kitOne X.K t c=some b)(h:∀tk,Q (.bool b) {s with toks:=tk}):
  wpAny (model X.prog X.w) A (call (.builtin "isinstance") [u,c]) Q E s:=by
 cases ty with
 |non=>cases (show u=Kk from rx);exact MA W.kitx_none I.kIn LQ e (fun z=>nomatch z) h
 |bl y=>cases (show u=Lh y from rx);exact MA W.kitx_bool I.kIn LQ e (fun z=>nomatch z) h
 |int i=>obtain⟨t,q⟩:=(show ∃t,u=Na i t from rx);cases q;exact MA W.kitx_int I.kIn LQ e (fun z=>nomatch z) h
 |str y=>obtain⟨t,q⟩:=(show ∃t,u=MZ y t from rx);cases q;exact MA W.kitx_str I.kIn LQ e (fun z=>nomatch z) h
 |flt y=>obtain⟨t,q⟩:=(show ∃t,u=Qq y t from rx);cases q;exact MA W.kitx_float I.kIn LQ e (fun z=>nomatch z) h
 | @lst a xs ea=>
   cases (show u=Ji a from rx)
   obtain⟨_,_,n,_,h1⟩:=(show aU X.prog X.w H s.heap a (.lst xs)from I.hok a _ ea)
   exact MA W.kitx_list I.kIn ⟨_,h1,rfl⟩ e (fun z=>nomatch z) h
 | @frz a ob xs ea=>
   cases (show u=Ji a from rx)
   obtain⟨_,_,_,n,_,h1⟩:=(show aU X.prog X.w H s.heap a (.frz ob (.lst xs))from I.hok a _ ea)
   exact MA W.kitx_list I.kIn ⟨_,h1,rfl⟩ e (fun z=>nomatch z) h
 | @tup a xs ea=>
   cases (show u=Ji a from rx)
   obtain⟨_,_,_,p⟩:=(show aU X.prog X.w H s.heap a (.tup xs)from I.hok a _ ea)
   obtain⟨o,h1,h2,_⟩:=p
   exact MA W.kitx_tuple I.kIn ⟨o,h1,h2⟩ e (fun z=>nomatch z) h
 | @dK a kvs ea=>
   cases (show u=Ji a from rx)
   obtain⟨_,_,vs,_,p⟩:=(show aU X.prog X.w H s.heap a (.dK kvs)from I.hok a _ ea)
   obtain⟨o,es,ep,h1,h2,_⟩:=p
   exact MA W.kitx_dict I.kIn ⟨o,h1,h2.1⟩ e (fun z=>nomatch z) h
 | @dT a kvs ea=>
   cases (show u=Ji a from rx)
   obtain⟨_,_,xs,_,o,es,ep,h1,h2,_⟩:=(show aU X.prog X.w H s.heap a (.dT kvs)from I.hok a _ ea)
   exact MA W.kitx_dict I.kIn ⟨o,h1,h2.1⟩ e (fun z=>nomatch z) h
 | @ins a C dx fs ea cl ha hn htk hm=>
   cases (show u=Ji a from rx)
   obtain⟨mA,O,_⟩:=zW I.hok ea
   obtain⟨od,J,_⟩:=O.look
   exact MA (W.kitx_own (cl.get _) cl.hd ha hn htk hm) I.kIn J e (fun z=>nomatch z) h
end
structure bC (k:Nat)(A:JK):Prop where
 hd:A.handled=none
 dp:A.depth+3*k+5<recursionLimit
 un:A.units+16*k+200<cLine
def bC.mono {j k:Nat}{A:JK}(r:bC k A)(h:j<=k):bC j A:=⟨r.hd,by have:=r.dp;omega,by have:=r.un;omega⟩
def bC.deeper {k:Nat}{A:JK}(r:bC (k+1) A)(env:Env):bC k (A.deeper env):=
 ⟨r.hd,by have:=r.dp;show A.depth+1+3*k+5<_;omega,by have:=r.un;show A.units+3+16*k+200<_;omega⟩
def rW {A:JK}{C:Addr}{us:List Gt}{kw:List (Str×Gt)}:(A.under (.builtin "type.__call__" ⟨.ref C::us,kw⟩)).depth=A.depth+1:=by
 first|rfl|simp[PM,Code.weight,Code.isCreation,Code.isGuard,Code.isCaller,Code.frames,Qh,guardIds]
def rQ {A:JK}{C:Addr}{us:List Gt}{kw:List (Str×Gt)}:(A.under (.builtin "type.__call__" ⟨.ref C::us,kw⟩)).units=A.units+1:=by
 first|rfl|simp[PM,Code.cUnits,Code.frames,Qh]
def bC.make {k:Nat}{A:JK}(r:bC (k+1) A)(C:Addr)(us:List Gt)(kw:List (Str×Gt)):bC k (A.under (.builtin "type.__call__" ⟨.ref C::us,kw⟩)):=
 ⟨r.hd,by have:=r.dp;rw[rW];omega,by have:=r.un;rw[rQ];omega⟩
def bC.depth {k:Nat}{A:JK}(r:bC k A):A.depth<recursionLimit:=by have:=r.dp;omega
def ak:TA:=fun _ H Q=>Q [] H
def af (ta:TE)(tr:TA):TA:=fun σ H Q=>ta σ H fun x H1=>tr σ H1 fun xs H2=>Q (x::xs) H2
section
variable {X:Cx}{e:Expr}{es:List Expr}{te:TE}{t:TA}{pos:Pos}
def CO:PA X [] ak:=fun _ _ _ _ H Q I h=>Oj ⟨[],H,I,.nil,h⟩
def zU (ha:PE X e te)(hr:PA X es t)(hs:starEach (e::es) X.env=(false,eval e X.env)::starEach es X.env:=by rfl):PA X (e::es) (af te t):=by
 intro pos pins s σ H Q I h
 rw[hs]
 show wpAny _ _ (spliced ((false,eval e X.env)::backTo pos (starEach es X.env))) _ _ s
 refine MT (thn (ha pins s σ H _ I h) fun u s1 ⟨x,H1,I1,r1,q1⟩=>?_)
 exact thn (hr pos pins s1 σ H1 _ I1 q1) fun us s2 ⟨xs,H2,I2,r2,q2⟩=>⟨x::xs,H2,I2,.cons r1 r2,q2⟩
def bx (t:TA):TE:=fun σ H Q=>t σ H fun xs H1=>xs.length<=sizeLine/\∀p,H1 p=none->Q (.ref p) (upd H1 p (.tup xs))
def fH (t:TA):TE:=fun σ H Q=>t σ H fun xs H1=>xs.length<=sizeLine/\∀p,H1 p=none->Q (.ref p) (upd H1 p (.lst xs))
def CM {x1}(h:PA X es t):PE X (.Tuple es x1 pos) (bx t):=by
 intro pins s σ H Q I hq
 refine wpAny_Tuple_spliced (thn (h pos pins s σ H _ I hq) fun us s1 ⟨xs,H1,I1,r,z,q⟩=>⟨by rw[<-r.length];exact z,?_⟩)
 have hf:H1 s1.heap.objs.size=none:=I1.hok.fresh (IV _)
 refine⟨.ref s1.heap.objs.size,upd H1 s1.heap.objs.size (.tup xs),I1.laid (t':=s1.toks) (fun b u e=>gV _ e) (IV _) ?_,rfl,q _ hf⟩
 exact⟨z,us,r,⟨_,IT _ rfl,rfl,_,rfl⟩⟩
def Ck (h:PA X es t):PE X (.List es pos) (fH t):=by
 intro pins s σ H Q I hq
 refine wpAny_List_spliced (thn (h pos pins s σ H _ I hq) fun us s1 ⟨xs,H1,I1,r,z,q⟩=>⟨by rw[<-r.length];exact z,?_⟩)
 have hf:H1 s1.heap.objs.size=none:=I1.hok.fresh (IV _)
 refine⟨.ref s1.heap.objs.size,upd H1 s1.heap.objs.size (.lst xs),I1.laid (t':=s1.toks) (fun b u e=>gV _ e) (IV _) ?_,rfl,q _ hf⟩
 exact⟨z,us,0,r,IT _ rfl⟩
end
abbrev Sp:=List V->Hp->VK->XK->Prop
abbrev CXT:=List Env->Hp->IQ->XK->Gt->IQ->Prop
structure iF (P:Jd)(w:JL)(K:If)(mg:Str->Option Gt)(base:Heap)(A:JK)(outer:List Env)(s:IQ)(H:Hp):Prop where
 frames:A.frames=some outer
 mod:Mod K mg base
 bs:∀b o,base.get? b=some o->s.heap.get? b=some o/\H b=none
 bsz:base.objs.size<=s.heap.objs.size
 funs:s.heap.FunFrames base outer
 frf:∀b∈frs outer,H b=none
 hok:HOk P w H s.heap
 bare:NJ s.gens
def CE (outer:List Env)(P:Jd)(w:JL)(H:Hp)(s:IQ)(Q:VK)(u:Gt)(s':IQ):Prop:=
 ∃v H',s'.os=s.os/\NJ s'.gens/\Un (frs outer) [] H H' s.heap s'.heap/\HOk P w H' s'.heap/\aY v u/\Q v H'
def CR (CX:CXT)(outer:List Env)(P:Jd)(w:JL)(H:Hp)(s:IQ)(Q:VK)(E:XK)(r:Ou)(s':IQ):Prop:=
 match r with
 |.ok (.ret u)=>CE outer P w H s Q u s'
 |.ok _=>False
 |.error e=>CX outer H s E e s'
structure aV (P:Jd)(w:JL)(K:If)(mg:Str->Option Gt)(base:Heap)(CX:CXT)(k:Nat)(f:Addr)(fd:Jn)(ps:List Str)(sp:Sp):Prop where
 len:∀vs H Q E,sp vs H Q E->vs.length=ps.length
 run:∀(A:JK)(outer:List Env)(s:IQ)(H:Hp)(args:Args)(us:List Gt)(vs:List V)(Q:VK)(E:XK),bC k A->iF P w K mg base A outer s H->QU s fd args (ps.zip us)->aX vs us->sp vs H Q E->
  codeAny (model P w) A (.call (.ref f) args) (CR CX outer P w H s Q E) s
def iF.make {P:Jd}{w:JL}{K:If}{mg:Str->Option Gt}{base:Heap}{A:JK}{outer:List Env}{s:IQ}{H:Hp}(e:iF P w K mg base A outer s H)(C:Addr)(us:List Gt)(kw:List (Str×Gt)):
 iF P w K mg base (A.under (.builtin "type.__call__" ⟨.ref C::us,kw⟩)) outer s H:=⟨by first|exact e.frames|(simpa[PM,Code.envs,Qh,pushEnvs]using e.frames),e.mod,e.bs,e.bsz,e.funs,e.frf,e.hok,e.bare⟩
section
variable {X:Cx}{pins:List (Addr×Obj)}{σ:St}{H:Hp}{s s':IQ}
def Inv.env0 (I:Inv X pins σ H s):iF X.prog X.w X.K X.mg X.base X.A X.stack s H:=
 ⟨I.ok.frames,I.ok.mod,I.bs,JQ I.ok.bsz I.sz,I.stack,I.stkFree,I.hok,I.bare⟩
def Inv.after {Q:VK}{u:Gt}(I:Inv X pins σ H s)(h:CE X.stack X.prog X.w H s Q u s'):EP X pins σ Q u s':=by
 obtain⟨v,H',os,bare,un,hok,r,q⟩:=h
 obtain⟨hh,g,d,t,os'⟩:=s'
 obtain rfl:os'=s.os:=os
 exact⟨v,H',I.call (h':=hh) (g':=g) (d':=d) (t':=t) (ch:=[]) un hok bare (fun b z=>absurd z (by simp)),r,q⟩
end
def dG (K:If)(fd:Jn)(ps:List Str)(ds:List Gt):Prop:=
 ∀(s:IQ)(us:List Gt),K.In s.heap->(us++ds).length=ps.length->QU s fd ⟨us,[]⟩ (ps.zip (us++ds))
def dG.all {K:If}{fd:Jn}{ps:List Str}(h:∀us:List Gt,us.length=ps.length->bindArgs fd ⟨us,[]⟩=pure (ps.zip us)):dG K fd ps []:=fun s us _ hl=>by
 rw[KW]at hl⊢
 exact .of_eq (h us hl)
def PK (X:Cx)(kws:List Keyword)(t:TA):Prop:=
 ∀(pos:Pos)(pins:List (Addr×Obj))(s:IQ)(σ:St)(H:Hp)(Q:List V->Hp->Prop),Inv X pins σ H s->t σ H Q->wpAny (model X.prog X.w) X.A (evalAll ((backToKw pos (keywordEach kws X.env)).map (·.2))) (AP X pins σ Q) X.xe s
structure aC (N P:List Str)(sc:Scope):Prop where
 kind:sc.kind=.function
 co:sc.isCoroutine=false
 gen:sc.isGenerator=false
 nd:N.Nodup
 pre:N.take P.length=P
 par:∀x∈P,sc.names.lookup x=some .local\/sc.names.lookup x=some .cell
 nofree:∀y∈sc.names,y.2≠.free
theorem mB {kindOf:Str->Option LJ}{x:Str}:∀{binds:List (Str×Gt)}{m:Str->Option Gt},(∀v,(x,v)∉binds)->bindL kindOf binds m x=m x
 |[],_,_=>rfl
 |(n,v)::r,m,h=>by
  unfold bindL
  rw[mB fun w hw=>h w (Je _ hw)]
  split
  ·have:x≠n:=by rintro rfl;exact h v Jw
   simp[this]
  ·rfl
theorem lS {kindOf:Str->Option LJ}{x:Str}:∀{binds:List (Str×Gt)}{m:Str->Option Gt},(∀v,(x,v)∉binds)->bindC kindOf binds m x=m x
 |[],_,_=>rfl
 |(n,v)::r,m,h=>by
  unfold bindC
  rw[lS fun w hw=>h w (Je _ hw)]
  split
  ·rfl
  ·have:x≠n:=by rintro rfl;exact h v Jw
   simp[this]
theorem mz {kindOf:Str->Option LJ}{x:Str}{v:Gt}:∀{P:List Str}{vs:List Gt}{i:Nat}{m:Str->Option Gt},P.Nodup->P[i]? =some x->vs[i]? =some v->kindOf x=some .local->
  bindL kindOf (P.zip vs) m x=some v
 |[],_,_,_,_,h,_,_=>by simp at h
 |_::_,[],_,_,_,_,h,_=>by simp at h
 |p::P,w::vs,0,m,nd,h1,h2,hk=>by
  simp at h1 h2;subst h1;subst h2
  show bindL kindOf ((p,w)::P.zip vs) m p=_
  unfold bindL
  rw[mB fun v hv=>(Ks.mp nd).1 (Mv hv).1,if_pos hk]
  simp
 |p::P,w::vs,i+1,m,nd,h1,h2,hk=>by
  show bindL kindOf ((p,w)::P.zip vs) m x=_
  unfold bindL
  exact mz (i:=i) (Ks.mp nd).2 (by simpa using h1) (by simpa using h2) hk
theorem mx {kindOf:Str->Option LJ}{x:Str}{v:Gt}:∀{P:List Str}{vs:List Gt}{i:Nat}{m:Str->Option Gt},P.Nodup->P[i]? =some x->vs[i]? =some v->kindOf x≠some .local->
  bindC kindOf (P.zip vs) m x=some v
 |[],_,_,_,_,h,_,_=>by simp at h
 |_::_,[],_,_,_,_,h,_=>by simp at h
 |p::P,w::vs,0,m,nd,h1,h2,hk=>by
  simp at h1 h2;subst h1;subst h2
  show bindC kindOf ((p,w)::P.zip vs) m p=_
  unfold bindC
  rw[lS fun v hv=>(Ks.mp nd).1 (Mv hv).1,if_neg hk]
  simp
 |p::P,w::vs,i+1,m,nd,h1,h2,hk=>by
  show bindC kindOf ((p,w)::P.zip vs) m x=_
  unfold bindC
  exact mx (i:=i) (Ks.mp nd).2 (by simpa using h1) (by simpa using h2) hk
def start (N:List Str)(vs:List V):St:=vs.map some++Ps (N.length- vs.length) none
def dR (CX:CXT)(P:Jd)(w:JL)(K:If)(mg:Str->Option Gt)(base:Heap)(N:List Str)(qual:Str)(scope:Scope)(f:Addr)(cd:Gt)(A:JK)(outer:List Env)(s:IQ)(H:Hp)(E:XK):Cx where
 prog:=P
 w:=w
 K:=K
 mg:=mg
 base:=base
 A:=A.deeper (envOfC qual scope s.heap.objs.size f cd)
 N:=N
 s₀:=s
 H₀:=H
 env:=envOfC qual scope s.heap.objs.size f cd
 outer:=outer
 stack:=envOfC qual scope s.heap.objs.size f cd::outer
 ex:=[]
 calm:=true
 fn:=fun _=>true
 pn:=[]
 xe:=fun e s'=>wpAny (model P w) (A.deeper (envOfC qual scope s.heap.objs.size f cd)) (leaving (envOfC qual scope s.heap.objs.size f cd) e) (fun _ s''=>CX outer H s E e s'') (fun e' s''=>CX outer H s E e' s'') s'
def pX {sc:Scope}{n:Nat}{x:Str}(h:sc.names.lookup x=some .cell):∃c,(cellsFrom n sc.names []).lookup x=some c:=by
 have q:=OY sc.names n [] (.inl h)
 exact JR.mp q
def lT {CX:CXT}{P:Jd}{w:JL}{K:If}{mg:Str->Option Gt}{base:Heap}{N ps:List Str}{qual:Str}{scope:Scope}{f:Addr}{cd:Gt}{A:JK}{outer:List Env}{s s1:IQ}{H:Hp}{E:XK}{us:List Gt}{vs:List V}
  (S:aC N ps scope)(hd:A.handled=none)(e0:iF P w K mg base A outer s H)(hl:vs.length=ps.length)(r:aX vs us)
  (x:InCallC s s.heap.objs.size (bindL (envOfC qual scope s.heap.objs.size f cd).kindOf (ps.zip us) fun _=>none) (cellsFrom (s.heap.objs.size+1) scope.names []) (bindC (envOfC qual scope s.heap.objs.size f cd).kindOf (ps.zip us) fun _=>none) s1):
  Inv (dR CX P w K mg base N qual scope f cd A outer s H E) [] (start N vs) H s1:=by
 have hpl:ps.length<=N.length:=by have:=congrArg OW S.pre;rw[Jz]at this;omega
 obtain⟨h1,tk,rfl,hk⟩:=x.done
 have noA:∀b:Addr,b∉(dR CX P w K mg base N qual scope f cd A outer s H E).ex:=fun b z=>absurd (show b∈([]:List Addr)from z) (by simp)
 refine⟨⟨e0.mod,S.kind,rfl,rfl,IV _,fun y z c h1 h2=>?_,fun y hy=>?_,fun y c _ h=>?_,fun _=>hd,Qc e0.frames,.inr ⟨rfl,rfl⟩,fun b z=>absurd z (noA b),e0.bs,e0.bsz,fun b _ _=>noA b,fun b z=>absurd z (noA b),e0.funs,e0.frf⟩,
  rfl,e0.bare,Un.kept hk,⟨_,x.toInCall.ns,fun i y v h1 h2 h3=>?_⟩,fun y c h=>⟨_,x.cell y c h⟩,e0.hok.fresh (IV _),fun y c h=>?_,fun p hp=>absurd (show p∈([]:List (Addr×Obj))from hp) (by simp),e0.hok.kept hk,?_⟩
 ·exact name_of_addr x.apart (KM h1) (KM h2)
 ·have hy:scope.names.lookup y=some .cell\/scope.names.lookup y=some .free:=hy
  rcases hy with hy|hy
  ·exact pX hy
  ·exact absurd rfl (S.nofree _ (KM hy))
 ·exact Lz (x.above y c (KM h))
 ·have hi:i<vs.length:=by
   unfold start at h2
   by_cases hi:i<vs.length
   ·exact hi
   ·rw[Kq (by simpa using hi)]at h2
    rw[PQ]at h2
    split at h2<;>cases h2
  have ha:vs[i]?=some v:=by
   unfold start at h2
   rw[Kt (by simpa using hi),Jr]at h2
   cases e:vs[i]? with
   |none=>rw[e]at h2;cases h2
   |some a=>rw[e]at h2;cases h2;rfl
  obtain⟨u,hu,rv⟩:=r.get ha
  have hp:ps[i]?=some y:=by
   rw[<-S.pre,PJ (by omega)];exact h1
  have ndP:ps.Nodup:=by rw[<-S.pre];exact S.nd.sublist (Nf _ _)
  refine⟨u,rv,?_⟩
  rcases S.par y (Jq hp)with k|k
  ·exact .inl ⟨k,mz ndP hp hu k⟩
  ·obtain⟨c,e⟩:=pX (n:=s.heap.objs.size+1) k
   refine .inr ⟨.inl k,c,e,?_⟩
   have q:=x.cell y c e
   rw[mx ndP hp hu (by show scope.names.lookup y≠_;rw[k];decide)]at q
   exact q
 ·exact e0.hok.fresh (Lz (x.above y c (KM h)))
 ·unfold start
  show _=N.length
  rw[Jg,IU,NE]
  omega
def yN {CX:CXT}{P:Jd}{w:JL}{K:If}{mg:Str->Option Gt}{base:Heap}{k:Nat}{f:Addr}{name qual:Str}{params:Arguments}{body:List Stmt}{scope:Scope}{dV kV doc pm cdv ct oc:Gt}{an od:Option Addr}
  {osl:Array (Option Gt)}{N ps:List Str}{sp:Sp}(lk:K.lookup f=some ⟨oc,od,.func (Mo name qual params body scope dV kV doc pm an cdv ct),osl⟩)(hcd:RM K cdv qual=true)(S:aC N ps scope)
  (len:∀vs H Q E,sp vs H Q E->vs.length=ps.length)
  (hbody:∀(A:JK)(outer:List Env)(s:IQ)(H:Hp)(vs:List V)(Q:VK)(E:XK),bC k (A.deeper (envOfC qual scope s.heap.objs.size f cdv))->sp vs H Q E->
   ∃t,PSs (dR CX P w K mg base N qual scope f cdv A outer s H E) body t/\t {nx:=fun _ H'=>Q .non H',rt:=Q} (start N vs) H):
  aV P w K mg base CX (k+1) f (Mo name qual params body scope dV kV doc pm an cdv ct) ps sp:=by
 refine⟨len,fun A outer s H args us vs Q E hr e0 hb r hsp=>?_⟩
 have hl:=len _ _ _ _ hsp
 have KX:K.In s.heap:=e0.mod.kin.keeps fun b o e=>(e0.bs b o e).1
 have lim:s.heap.NoLimit:=e0.mod.nolimit.keeps fun b o e=>(e0.bs b o e).1
 have hkind:∀y∈ps.zip us,scope.names.lookup y.1=some .local\/(scope.names.lookup y.1=some .cell/\((cellsFrom (s.heap.objs.size+1) scope.names []).lookup y.1).isSome=true):=fun⟨n,v⟩ hy=>by
  rcases S.par n (Mv hy).1 with q|q
  ·exact .inl q
  ·exact .inr ⟨q,OY _ _ _ (.inl q)⟩
 refine Rt hr.depth (KX _ _ lk) rfl S.co S.gen rfl (W.codeRec_of KX hcd) (hb _ _ _ _ ?_)
 refine Qf S.kind hkind fun env he s1 x=>?_
 subst he
 refine⟨lim.keeps x.toInCall.keep,codeAny_func ?_⟩
 obtain⟨t,ht,hq⟩:=hbody A outer s H vs Q E (hr.deeper _) hsp
 have I:Inv (dR CX P w K mg base N qual scope f cdv A outer s H E) [] (start N vs) H s1:=lT S hr.hd e0 hl r x
 refine Ju (ht [] s1 (start N vs) H _ I hq) (fun fl s' hs=>?_) fun e s' hs=>hs
 have fin:∀{σ':St}{H':Hp}{v:V}{u:Gt},Inv (dR CX P w K mg base N qual scope f cdv A outer s H E) [] σ' H' s'->aY v u->Q v H'->CE outer P w H s Q u s':=
  fun{σ' H' v u} J rv q=>⟨v,H',J.os,J.bare,J.base,J.hok,rv,q⟩
 cases fl with
 |ret u=>
  obtain⟨v,σ',H',J,rv,q⟩:=hs
  exact fin J rv q
 |next=>
  obtain⟨σ',H',J,q⟩:=hs
  exact fin (v:=V.non) (u:=Kk) J rfl q
 |brk=>
  obtain⟨_,_,_,q⟩:=hs
  exact Kg q
 |cont=>
  obtain⟨_,_,_,q⟩:=hs
  exact Kg q
section
variable {X:Cx}{x:Str}{p pos:Pos}{e:Expr}{es:List Expr}{t:TA}{id T:String}{r:List V->Hp->VK->Prop}
def tCB (r:List V->Hp->VK->Prop)(t:TA):TE:=fun σ H Q=>t σ H fun vs H1=>r vs H1 Q
def wq (hc:bI X (.builtin id) r)(hg:Gl X x)(hm:X.mg x=none)(hv:bootBuiltins x=some (.builtin id))(ha:PA X (e::es) t)(hn:x≠"__name__":=by decide)(hdb:(x==("__debug__":Str))=false:=by decide)
  (he:starEach (e::es) X.env=(false,eval e X.env)::starEach es X.env:=by rfl)(hpl:(backTo pos (starEach es X.env)).any (·.1)=false:=by rfl):PE X (.Call (.Name x p) (e::es) [] pos) (tCB r t):=by
 intro pins s σ H Q I h
 refine Ke (eA I hg hm hv ?_ hn hdb)
 exact PyProof.Rows.callWith_builtin1 (thn (ha pos pins s σ H _ I h) fun us s1 ⟨vs,H1,I1,r1,q1⟩=>hc pins s1 σ H1 vs us Q I1 r1 q1) he hpl
def uw (hc:bI X (.type T) r)(hg:Gl X x)(hm:X.mg x=none)(hv:bootBuiltins x=some (.type T))(ha:PA X (e::es) t)(hn:x≠"__name__":=by decide)(hdb:(x==("__debug__":Str))=false:=by decide)
  (he:starEach (e::es) X.env=(false,eval e X.env)::starEach es X.env:=by rfl)(hpl:(backTo pos (starEach es X.env)).any (·.1)=false:=by rfl):PE X (.Call (.Name x p) (e::es) [] pos) (tCB r t):=by
 intro pins s σ H Q I h
 refine Ke (eA I hg hm hv ?_ hn hdb)
 exact JP (thn (ha pos pins s σ H _ I h) fun us s1 ⟨vs,H1,I1,r1,q1⟩=>hc pins s1 σ H1 vs us Q I1 r1 q1) he hpl
end
end L2
namespace HT
open PySem PyProof.Rows
section
open PySem.SeqAt
open PySem.AutoSeq1 (wpAny_loadPart')
open PySem.MeetsSeq PySem.MeetsSeq2 PySem.MeetsSeq3
end
section
variable {prog:Jd}{w:JL}{A:JK}{E:Gt->IQ->Prop}{s:IQ}
def yX {t b:Addr}{vs ws:List Gt}{Q:Gt->IQ->Prop}(ht:NP s.heap t vs.toArray)(hb:NP s.heap b ws.toArray)(hv:vs≠[])
  (h1:ws=[]->Q (.ref t) s)(h2:ws≠[]->Q (.ref s.heap.objs.size) {s with heap:=s.heap.push {cls:=.type "tuple",data:=.seq (vs++ws).toArray}})
  (hsz:vs.length+ws.length<=sizeLine):wpAny (model prog w) A (binaryOp .Add (.ref t) (.ref b)) Q E s:=by
 obtain⟨⟨cls,dd,data,sl⟩,ho,hc,n,hd⟩:=id ht
 obtain⟨⟨cls2,dd2,data2,sl2⟩,ho2,hc2,n2,hd2⟩:=id hb
 simp only at hc hd hc2 hd2
 subst hc hd hc2 hd2
 have e:vs.toArray++ws.toArray=(vs++ws).toArray:=by simp
 by_cases hw:ws=[]
 ·exact Rr ⟨_,ho,rfl⟩ ⟨_,ho2,rfl⟩ Py QN Nj Nc (MV _ _)
   (tuple_addW1 t b vs.toArray ws.toArray n n2 dd dd2 sl sl2 (by simpa using hv) (by simp[hw])) ⟨ho,ho2,h1 hw⟩
 ·refine Rr ⟨_,ho,rfl⟩ ⟨_,ho2,rfl⟩ Py QN Nj Nc (MV _ _)
   (tuple_addW2 t b vs.toArray ws.toArray n n2 dd dd2 sl sl2 (by simpa using hv) (by simpa using hw) (by rw[IX,IX];exact hsz)) ⟨ho,ho2,?_⟩
  rw[e]
  exact h2 hw
def sIx (n d:Nat):Option Int->Nat
 |none=>d
 |some v=>if v<0 then(v+(n:Int)).toNat else min v.toNat n
def pN (n d:Nat):sIx n d none=d:=rfl
def jH (n d k:Nat):sIx n d (some (k:Int))=min k n:=by
 show(if (k:Int)<0 then((k:Int)+(n:Int)).toNat else min (k:Int).toNat n)=min k n
 rw[if_neg (by omega),Kb]
def BZ (n d:Nat)(hd:d<=n)(o:Option Int):sIx n d o<=n:=by
 cases o with
 |none=>exact hd
 |some v=>
  show(if v<0 then(v+(n:Int)).toNat else min v.toNat n)<=n
  by_cases hv:v<0
  ·rw[if_pos hv];omega
  ·rw[if_neg hv];exact RP _ _
def qB (v:Int)(n d:Nat):(if v<0 then max (v+(n:Int)) 0 else min v (n:Int))=((sIx n d (some v):Nat):Int):=by
 show(if v<0 then max (v+(n:Int)) 0 else min v (n:Int))=(((if v<0 then(v+(n:Int)).toNat else min v.toNat n):Nat):Int)
 by_cases hv:v<0
 ·simp only[if_pos hv];omega
 ·simp only[if_neg hv];omega
def sj (lo hi:Option Int)(n:Nat):MG lo hi 1 (n:Int)=(((sIx n 0 lo:Nat):Int),((sIx n n hi:Nat):Int)):=by
 have h1:¬((1:Int)<0):=by omega
 unfold MG
 simp only[h1,if_false]
 refine Prod.ext ?_ ?_
 ·cases lo with
  |none=>rfl
  |some v=>exact qB v n 0
 ·cases hi with
  |none=>rfl
  |some v=>exact qB v n n
def rA (i j:Nat):LW (i:Int) (j:Int) 1=j- i:=by
 unfold LW
 have h1:(1:Int)>0:=by omega
 simp only[h1,if_true,Int.ediv_one]
 split<;>omega
def lg {v:Gt}{o:Option Int}{Q:Option Int->IQ->Prop}(p:Pm v o)(h:Q o s):wpAny (model prog w) A (Tf v) Q E s:=by
 cases p with
 |none=>exact slicePart_none h
 |int i t=>exact slicePart_int h
def gE {sl:Addr}{vl vu:Gt}{lo hi:Option Int}{n:Nat}{Q:Int×Int×Nat->IQ->Prop}(hs:s.heap.IsSliceOf sl vl vu .none)(pl:Pm vl lo)(pu:Pm vu hi)
  (h:Q (((sIx n 0 lo:Nat):Int),1,sIx n n hi- sIx n 0 lo) s):wpAny (model prog w) A (NT (.ref sl) (pure (n:Int))) Q E s:=by
 obtain⟨os,hos,hcs,hds⟩:=id hs
 unfold NT Tg
 refine cW (cW (Jh hos hds (x:=vl) rfl (cW (Jh hos hds (x:=vu) rfl (cW (Jh hos hds (x:=.none) rfl (tx ?_)))))))
 refine cW (slicePart_none ?_)
 show wpAny _ _ (if ((1:Int)==0)=true then _ else _) _ _ s
 rw[if_neg (by decide)]
 refine cW (lg pl (cW (lg pu (cW (tx ?_)))))
 show wpAny _ _ (match MG lo hi 1 (n:Int)with|(lo,hi)=>pure (lo,(1:Int),LW lo hi 1)) _ _ s
 rw[sj lo hi n]
 show wpAny _ _ (pure (((sIx n 0 lo:Nat):Int),(1:Int),LW ((sIx n 0 lo:Nat):Int) ((sIx n n hi:Nat):Int) 1)) _ _ s
 rw[rA]
 exact tx h
def uX (xs:Array Gt)(i k:Nat):((MN k).filterMap fun(m:Nat)=>xs[((i:Int)+(m:Int)*1).toNat]?).toArray=((xs.toList.drop i).take k).toArray:=by
 have e:(fun(m:Nat)=>xs[((i:Int)+(m:Int)*1).toNat]?)=fun m=>xs[i+m]?:=by
  funext m
  have:((i:Int)+(m:Int)*1).toNat=i+m:=by omega
  rw[this]
 rw[e]
 have:=pick_run xs i k
 rw[List.filterMap_map]at this
 have e2:((fun x=>xs[x]?)∘fun x=>i+x)=fun m=>xs[i+m]?:=rfl
 rw[e2]at this
 rw[this]
def jX {t sl:Addr}{items:Array Gt}{vl vu:Gt}{lo hi:Option Int}{Q:Gt->IQ->Prop}(ht:NP s.heap t items)(hs:s.heap.IsSliceOf sl vl vu .none)(pl:Pm vl lo)(pu:Pm vu hi)
  (hw:¬(sIx items.size 0 lo=0/\sIx items.size items.size hi=items.size))
  (h:Q (.ref s.heap.objs.size) {s with heap:=s.heap.push {cls:=.type "tuple",data:=.seq ((items.toList.drop (sIx items.size 0 lo)).take (sIx items.size items.size hi- sIx items.size 0 lo)).toArray}})
  (hsz:items.size<=sizeLine):wpAny (model prog w) A (getItem (.ref t) (.ref sl)) Q E s:=by
 have htake:sizeOk (.seq ((items.toList.drop (sIx items.size 0 lo)).take (sIx items.size items.size hi- sIx items.size 0 lo)).toArray):=by
  show((items.toList.drop (sIx items.size 0 lo)).take (sIx items.size items.size hi- sIx items.size 0 lo)).toArray.size<=sizeLine
  rw[IX,Jz,Ku,Ko]
  omega
 have hj:sIx items.size items.size hi<=items.size:=BZ _ _ (IV _) hi
 obtain⟨os,hos,hcs,hds⟩:=id hs
 have hTs:s.TypeIs (.ref sl) "slice":=⟨os,hos,hcs⟩
 unfold getItem
 try with_reducible refine Km ?_
 first|refine cW (tx ?_)|skip
 refine cW (SE ht.typeIs (by decide) ?_)
 refine cW (Jj (name:=JM "__getitem__") ht.typeIs Kl
  (Jo Kl ht.typeIs Sd ?_ (Sq _ _)))
 show wpAny _ _ (NS (.ref t)>>=_) _ _ s
 refine cW (tupleItemsOf_ ht ?_)
 refine cW (Nm hTs ?_)
 rw[if_pos (by decide)]
 refine cW (gE hs pl pu ?_)
 have hno:¬((((sIx items.size 0 lo:Nat):Int)==0&&(1:Int)==1&&(sIx items.size items.size hi- sIx items.size 0 lo)==items.size)=true):=by
  intro q
  rw[Jt,Jt]at q
  have q1:((sIx items.size 0 lo:Nat):Int)=0:=RJ q.1.1
  have q2:sIx items.size items.size hi- sIx items.size 0 lo=items.size:=RJ q.2
  exact hw ⟨by omega,by omega⟩
 show wpAny _ _ (if (((sIx items.size 0 lo:Nat):Int)==0&&(1:Int)==1&&(sIx items.size items.size hi- sIx items.size 0 lo)==items.size)=true then _ else _) _ _ s
 rw[if_neg hno,uX]
 first
  |exact cW (m:=Ma _) (JF (tx ⟨_,rfl,tx h⟩) htake)
  |exact cW (m:=Ma _) (JF (cW (tx (tx ⟨_,rfl,tx h⟩))) htake)
  |exact cW (cW (m:=Ma _) (JF (tx (tx ⟨_,rfl,tx h⟩)) htake))
  |exact cW (cW (m:=Ma _) (JF (tx ⟨_,rfl,tx h⟩) htake))
end
end HT
namespace L2
open PySem PySem.Spec PyProof.Rows
abbrev TO:=St->Hp->(Option Int->Hp->Prop)->Prop
def PO (X:Cx)(e:Option Expr)(t:TO):Prop:=
 ∀(pins:List (Addr×Obj))(s:IQ)(σ:St)(H:Hp)(Q:Option Int->Hp->Prop),Inv X pins σ H s->t σ H Q->
  wpAny (model X.prog X.w) X.A (evalPart e X.env) (fun u s'=>∃o H',Inv X pins σ H' s'/\Pm u o/\Q o H') X.xe s
def dA:TO:=fun _ H Q=>Q none H
def eG (t:TE):TO:=fun σ H Q=>t σ H fun x H1=>∃i,x=.int i/\Q (some i) H1
section
variable {X:Cx}{e:Expr}{te:TE}{lo hi:Option Expr}{tl th:TO}{pos p2:Pos}
def Am:PO X none dA:=by
 intro pins s σ H Q I h
 rw[evalPart_none]
 exact tx ⟨none,H,I,.none,h⟩
def zS (h:PE X e te):PO X (some e) (eG te):=by
 intro pins s σ H Q I hw
 rw[evalPart_some]
 refine thn (h pins s σ H _ I hw) fun u s1 ⟨x,H1,I1,r1,q1⟩=>?_
 obtain⟨i,rfl,q⟩:=q1
 obtain⟨t,rfl⟩:=r1
 exact⟨some i,H1,I1,.int i t,q⟩
def SlR (X:Cx)(r:V->Option Int->Option Int->Hp->VK->Prop):Prop:=
 ∀(pins:List (Addr×Obj))(s:IQ)(σ:St)(H:Hp)(x:V)(v vl vu:Gt)(lo hi:Option Int)(sl:Addr)(Q:VK),Inv X pins σ H s->aY x v->s.heap.IsSliceOf sl vl vu .none->Pm vl lo->Pm vu hi->r x lo hi H Q->
  ∃T id,typeLookup (.type T) "__getitem__"=pure (some (.builtin id))/\s.TypeIs v T/\wpAny (model X.prog X.w) X.A (getItem v (.ref sl)) (EP X pins σ Q) X.xe s
def SlR.or {r r':V->Option Int->Option Int->Hp->VK->Prop}(h:SlR X r)(h':SlR X r'):SlR X (fun x lo hi H Q=>r x lo hi H Q\/r' x lo hi H Q):=by
 intro pins s σ H x v vl vu lo hi sl Q I rx hs pl pu q
 rcases q with q|q
 ·exact h pins s σ H x v vl vu lo hi sl Q I rx hs pl pu q
 ·exact h' pins s σ H x v vl vu lo hi sl Q I rx hs pl pu q
def tSl (r:V->Option Int->Option Int->Hp->VK->Prop)(te:TE)(tl th:TO):TE:=fun σ H Q=>te σ H fun x H1=>tl σ H1 fun l H2=>th σ H2 fun u H3=>r x l u H3 Q
def xS {r:V->Option Int->Option Int->Hp->VK->Prop}(hr:SlR X r)(he:PE X e te)(hl:PO X lo tl)(hu:PO X hi th):PE X (.Subscript e (.Slice lo hi none p2) pos) (tSl r te tl th):=by
 intro pins s σ H Q I h
 refine Subscript_ (thn (he pins s σ H _ I h) fun v s1 ⟨x,H1,I1,r1,q1⟩=>?_)
 refine wpAny_Slice (thn (hl pins s1 σ H1 _ I1 q1) fun vl s2 ⟨l,H2,I2,pl,q2⟩=>thn (hu pins s2 σ H2 _ I2 q2) fun vu s3 ⟨u,H3,I3,pu,q3⟩=>?_)
 rw[evalPart_none]
 refine tx ?_
 have I4:Inv X pins σ H3 {s3 with heap:=s3.heap.push {cls:=.type "slice",data:=.fields #[vl,vu,.none]}}:=I3.kept (t':=s3.toks) fun b ob q=>gV _ q
 obtain⟨T,id,hT,ht,hg⟩:=hr pins {s3 with heap:=s3.heap.push {cls:=.type "slice",data:=.fields #[vl,vu,.none]}} σ H3 x v vl vu l u s3.heap.objs.size Q I4 r1 (Sm ..) pl pu q3
 show wpAny (model X.prog X.w) X.A (subscriptTail e (.Slice lo hi none p2) v (.ref s3.heap.objs.size)) (EP X pins σ Q) X.xe {s3 with heap:=s3.heap.push {cls:=.type "slice",data:=.fields #[vl,vu,.none]}}
 exact tail_any (ops:=[.ref s3.heap.objs.size,v]) ht hT hg (by with_unfolding_all rfl)
def eu (xs:List V)(lo hi:Option Int):List V:=(xs.drop (HT.sIx xs.length 0 lo)).take (HT.sIx xs.length xs.length hi- HT.sIx xs.length 0 lo)
def jZ (xs:List V)(lo hi:Option Int):(eu xs lo hi).length<=xs.length:=by
 unfold eu
 rw[Jz,Ku]
 omega
def Ia (K:If):V->Option Int->Option Int->Hp->VK->Prop:=fun x lo hi H Q=>∃a xs,x=.ref a/\SqT K H a xs/\
 ¬(HT.sIx xs.length 0 lo=0/\HT.sIx xs.length xs.length hi=xs.length)/\∀p,H p=none->Q (.ref p) (upd H p (.tup (eu xs lo hi)))
def BP:SlR X (Ia X.K):=by
 intro pins s σ H x v vl vu lo hi sl Q I rx hs pl pu h
 obtain⟨a,xs,rfl,hx,hw,q⟩:=h
 cases rx
 obtain⟨its,r,ht,hz⟩:=I.tuple hx
 have hlen:its.toArray.size=xs.length:=by rw[IX];exact r.length.symm
 refine⟨"tuple",_,Kl.lookup,ht.typeIs,?_⟩
 refine HT.jX ht hs pl pu (by rw[hlen];exact hw) ?_ (by rw[hlen];exact hz)
 rw[hlen]
 refine⟨.ref s.heap.objs.size,_,I.laid (t':=s.toks) (o:=.tup (eu xs lo hi)) (fun b ob q=>gV _ q) (IV _) ?_,rfl,q _ (I.hok.fresh (IV _))⟩
 exact⟨JQ (jZ xs lo hi) hz,_,(r.drop (HT.sIx xs.length 0 lo)).take (HT.sIx xs.length xs.length hi- HT.sIx xs.length 0 lo),RD _ _⟩
def DZ (K:If):R2:=fun x y H Q=>∃a b xs ys,x=.ref a/\y=.ref b/\SqT K H a xs/\SqT K H b ys/\xs≠[]/\xs.length+ys.length<=sizeLine/\
 (ys=[]->Q (.ref a) H)/\(ys≠[]->∀p,H p=none->Q (.ref p) (upd H p (.tup (xs++ys))))
def aX.nil_iff {xs:List V}{us:List Gt}(r:aX xs us):us=[]↔xs=[]:=by
 cases r with
 |nil=>simp
 |cons _ _=>simp
def zA:OpR X (binaryOp .Add) (DZ X.K):=by
 intro pins s σ H x y v u Q I rx ry h
 obtain⟨a,b,xs,ys,rfl,rfl,ha,hb,hx,hz,q1,q2⟩:=h
 cases rx
 cases ry
 obtain⟨its,r1,p1,_⟩:=I.tuple ha
 obtain⟨its2,r2,p2,_⟩:=I.tuple hb
 refine HT.yX p1 p2 (fun z=>hx (r1.nil_iff.mp z)) (fun z=>⟨.ref a,H,I,rfl,q1 (r2.nil_iff.mp z)⟩) (fun z=>?_) (by rw[<-r1.length,<-r2.length];exact hz)
 refine⟨.ref s.heap.objs.size,_,I.laid (t':=s.toks) (o:=.tup (xs++ys)) (fun b ob q=>gV _ q) (IV _) ?_,rfl,q2 (fun w=>z (r2.nil_iff.mpr w)) _ (I.hok.fresh (IV _))⟩
 exact⟨by rw[Jg];exact hz,_,r1.append r2,RD _ _⟩
end
def ixN (n:Nat)(i:Int):Option Nat:=if 0<=i then(if i<n then some i.toNat else none)else if-(n:Int)<=i then some (i+n).toNat else none
def atI {α:Type}(xs:List α)(i:Int):Option α:=(ixN xs.length i).bind fun j=>xs[j]?
def zi {n:Nat}{i:Int}{j:Nat}(h:ixN n i=some j):seqIndex? i n=some j/\j<n/\ -(n:Int)<=i/\i<n:=by
 unfold ixN at h
 by_cases h0:0<=i
 ·rw[if_pos h0]at h
  by_cases h1:i<n
  ·rw[if_pos h1]at h
   have e:i.toNat=j:=Js h
   exact⟨by rw[seqIndex_of h0 h1,e],by omega,by omega,h1⟩
  ·rw[if_neg h1]at h;cases h
 ·rw[if_neg h0]at h
  by_cases h1: -(n:Int)<=i
  ·rw[if_pos h1]at h
   have e:(i+n).toNat=j:=Js h
   exact⟨by rw[seqIndex_neg (by omega) h1,e],by omega,h1,by omega⟩
  ·rw[if_neg h1]at h;cases h
def gZ {α:Type}{xs:List α}{i:Int}{v:α}(h:atI xs i=some v):∃j,seqIndex? i xs.length=some j/\xs[j]? =some v/\j<xs.length/\ -(xs.length:Int)<=i/\i<xs.length:=by
 unfold atI at h
 cases e:ixN xs.length i with
 |none=>rw[e]at h;cases h
 |some j=>
  rw[e]at h
  obtain⟨h1,h2,h3,h4⟩:=zi e
  exact⟨j,h1,h,h2,h3,h4⟩
def oh {α:Type}(xs:List α)(v:α):atI (xs++[v]) (-1)=some v:=by
 have hl:(xs++[v]).length=xs.length+1:=by simp
 have e:ixN (xs++[v]).length (-1)=some xs.length:=by
  unfold ixN
  rw[hl,if_neg (by decide),if_pos (by omega)]
  congr 1
  omega
 unfold atI
 rw[e]
 show(xs++[v])[xs.length]?=some v
 simp
def qJ (b:Expr):Prop:=∀o i,subscripted b false o i=operate [o,i] (getItem o i)
def IxR (X:Cx)(r:R2):Prop:=
 ∀(value slice:Expr)(pins:List (Addr×Obj))(s:IQ)(σ:St)(H:Hp)(x y:V)(v u:Gt)(Q:VK),Inv X pins σ H s->aY x v->aY y u->r x y H Q->
  subscripted slice false v u=operate [v,u] (getItem v u)->wpAny (model X.prog X.w) X.A (subscriptTail value slice v u) (EP X pins σ Q) X.xe s
def MtR (X:Cx)(id:String)(r:V->List V->Hp->VK->Prop):Prop:=
 ∀(pins:List (Addr×Obj))(s:IQ)(σ:St)(H:Hp)(x:V)(xs:List V)(v:Gt)(us:List Gt)(Q:VK),Inv X pins σ H s->aY x v->aX xs us->r x xs H Q->
  wpAny (model X.prog X.w) X.A (call (.builtin id) (v::us)) (EP X pins σ Q) X.xe s
section
variable {X:Cx}{a b:Expr}{ta tb:TE}{pos:Pos}
def IxR.or {r r':R2}(h:IxR X r)(h':IxR X r'):IxR X (fun x y H Q=>r x y H Q\/r' x y H Q):=by
 intro value slice pins s σ H x y v u Q I rx ry q hs
 rcases q with q|q
 ·exact h value slice pins s σ H x y v u Q I rx ry q hs
 ·exact h' value slice pins s σ H x y v u Q I rx ry q hs
def Fw {r:R2}(hr:IxR X r)(ha:PE X a ta)(hb:PE X b tb)(hs:qJ b):PE X (.Subscript a b pos) (tOp r ta tb):=by
 intro pins s σ H Q I h
 exact Subscript_ (vF ha hb I h fun v u s2 x y H2 I2 rx ry q=>hr a b pins s2 σ H2 x y v u Q I2 rx ry q (hs _ _))
def AI (K:If):R2:=fun x y H Q=>∃p xs i v,x=.ref p/\y=.int i/\SqL K H p xs/\atI xs i=some v/\Q v H
def Bq (K:If):R2:=fun x y H Q=>∃p xs i v,x=.ref p/\y=.int i/\SqT K H p xs/\atI xs i=some v/\Q v H
def Ay:R2:=fun x y H Q=>∃z i c,x=.str z/\y=.int i/\z.length<=sizeLine/\atI z.cps.toList i=some c/\Q (.str ⟨#[c]⟩) H
def zx:IxR X (AI X.K):=by
 intro value slice pins s σ H x y v u Q I rx ry h hs
 obtain⟨p,xs,i,z,rfl,rfl,hq,he,q⟩:=h
 cases rx
 obtain⟨t,rfl⟩:=ry
 obtain⟨its,r,pl,hz⟩:=I.list hq
 obtain⟨j,h1,h2,h3,h4,h5⟩:=gZ he
 obtain⟨w,ew,rw'⟩:=r.get h2
 have hl:=r.length
 have hn:=jp
 have fin:EP X pins σ Q w s:=⟨z,H,I,rw',q⟩
 by_cases h0:0<=i
 ·have hj:i.toNat=j:=by
   rw[seqIndex_of h0 h5]at h1
   exact Js h1
  exact item_listR pl.isList h0 (by omega) (by rw[hj];simpa using ew) fin hs
 ·have hj:(i+(its.toArray.size:Int)).toNat=j:=by
   rw[seqIndex_neg (by omega) h4]at h1
   rw[IX,<-hl]
   exact Js h1
  exact Ri (x:=w) pl.isList.typeIs slot_list_getitem.lookup
   (wpAny_getItem_list_neg (Q:=fun r s'=>r=w/\EP X pins σ Q r s') pl.isList (by omega) (by rw[IX]<;>omega) (by omega) (by rw[hj];simpa using ew) ⟨rfl,fin⟩) hs
def AL:IxR X (Bq X.K):=by
 intro value slice pins s σ H x y v u Q I rx ry h hs
 obtain⟨p,xs,i,z,rfl,rfl,hq,he,q⟩:=h
 cases rx
 obtain⟨t,rfl⟩:=ry
 obtain⟨its,r,pl,hz⟩:=I.tuple hq
 obtain⟨j,h1,h2,h3,h4,h5⟩:=gZ he
 obtain⟨w,ew,rw'⟩:=r.get h2
 have hl:=r.length
 have hn:=jp
 have fin:EP X pins σ Q w s:=⟨z,H,I,rw',q⟩
 exact Ri (x:=w) pl.typeIs slot_tuple_getitem.lookup
  (QV (j:=j) (Q:=fun r s'=>r=w/\EP X pins σ Q r s') pl (by omega) (by omega) (by rw[IX,<-hl];exact h1) (by simpa using ew) ⟨rfl,fin⟩) hs
def BU:IxR X Ay:=by
 intro value slice pins s σ H x y v u Q I rx ry h hs
 obtain⟨z,i,c,rfl,rfl,hz,he,q⟩:=h
 obtain⟨t,rfl⟩:=rx
 obtain⟨t',rfl⟩:=ry
 obtain⟨j,h1,h2,h3,h4,h5⟩:=gZ he
 have hl:z.cps.toList.length=z.length:=by simp[Str.length]
 rw[hl]at h1 h4 h5
 have hn:=jp
 exact tail_any (SL s z t) slot_str_getitem.lookup (getItem_str (c:=c) (by
  have e1:decide (i< -(2^63:Int))=false:=decide_eq_false (by omega)
  have e2:decide (i>=2^63)=false:=decide_eq_false (by omega)
  rw[e1,e2,PV]) (by rw[h1];simpa using h2) ⟨.str ⟨#[c]⟩,H,I.tok _,⟨_,rfl⟩,q⟩) hs
def rIx (K:If):R2:=fun x y H Q=>AI K x y H Q\/Bq K x y H Q\/Ay x y H Q
def By:IxR X (rIx X.K):=zx.or (AL.or BU)
def pF (lo hi:Option Int)(n:Nat):(sliceBounds lo hi none n).1=((HT.sIx n 0 lo:Nat):Int)/\(sliceBounds lo hi none n).2.1=((HT.sIx n n hi:Nat):Int)/\(sliceBounds lo hi none n).2.2=1:=by
 refine⟨?_,?_,rfl⟩
 ·cases lo with
  |none=>simp[sliceBounds,HT.sIx]
  |some i=>
   simp only[sliceBounds,HT.sIx,QZ,show(1:Int)>0 by decide,if_true]
   by_cases h:i<0
   ·simp only[h,if_true]<;>omega
   ·simp only[h,if_false]<;>omega
 ·cases hi with
  |none=>simp[sliceBounds,HT.sIx]
  |some i=>
   simp only[sliceBounds,HT.sIx,QZ,show(1:Int)>0 by decide,if_true]
   by_cases h:i<0
   ·simp only[h,if_true]<;>omega
   ·simp only[h,if_false]<;>omega
def mI (its:List Gt)(lo hi:Option Int):slicePick its.toArray lo hi none=((its.drop (HT.sIx its.length 0 lo)).take (HT.sIx its.length its.length hi- HT.sIx its.length 0 lo)).toArray:=by
 obtain⟨h1,h2,h3⟩:=pF lo hi its.toArray.size
 unfold slicePick
 rw[h1,h2,h3]
 simp only[sliceRange_one,pick_run,IX]<;>rfl
def Bb (K:If):V->Option Int->Option Int->Hp->VK->Prop:=fun x lo hi H Q=>∃a xs,x=.ref a/\SqL K H a xs/\∀p,H p=none->Q (.ref p) (upd H p (.lst (eu xs lo hi)))
def zn:SlR X (Bb X.K):=by
 intro pins s σ H x v vl vu lo hi sl Q I rx hs pl pu h
 obtain⟨a,xs,rfl,hx,q⟩:=h
 cases rx
 obtain⟨its,r,ht,hz⟩:=I.list hx
 have hlen:=r.length
 refine⟨"list",_,slot_list_getitem.lookup,ht.isList.typeIs,?_⟩
 refine wpAny_getItem_list_slice ht.isList hs pl pu .none (by simp) ?_ (by rw[IX]<;>omega)
 rw[mI,<-hlen]
 refine⟨.ref s.heap.objs.size,_,I.laid (t':=s.toks) (o:=.lst (eu xs lo hi)) (fun b ob q=>gV _ q) (IV _) ?_,rfl,q _ (I.hok.fresh (IV _))⟩
 exact⟨JQ (jZ xs lo hi) hz,_,0,(r.drop (HT.sIx xs.length 0 lo)).take (HT.sIx xs.length xs.length hi- HT.sIx xs.length 0 lo),IT _ rfl⟩
def bI.or {f:Gt}{r r':List V->Hp->VK->Prop}(h:bI X f r)(h':bI X f r'):bI X f (fun xs H Q=>r xs H Q\/r' xs H Q):=by
 intro pins s σ H xs us Q I rs q
 rcases q with q|q
 ·exact h pins s σ H xs us Q I rs q
 ·exact h' pins s σ H xs us Q I rs q
def mF:bI X (.type "tuple") (fun xs H Q=>∃p ys,xs=[.ref p]/\((SqL X.K H p ys/\∀l,H l=none->Q (.ref l) (upd H l (.tup ys)))\/(SqT X.K H p ys/\Q (.ref p) H))):=by
 intro pins s σ H xs us Q I r h
 obtain⟨p,ys,rfl,h⟩:=h
 obtain⟨u,rfl,rx⟩:=dU r
 cases rx
 rcases h with⟨hq,q⟩|⟨hq,q⟩
 ·obtain⟨its,r',pl,hz⟩:=I.list hq
  have hlen:=r'.length
  refine call_tuple_list pl.isList (fun h' kp=>?_) (by simp only[IX]<;>omega)
  have I1:Inv X pins σ H {s with heap:=h'}:=I.kept (t':=s.toks) kp
  have I2:Inv X pins σ (upd H h'.objs.size (.tup ys)) {s with heap:=h'.push {cls:=.type "tuple",data:=.seq its.toArray}}:=
   I1.laid (t':=s.toks) (fun b o e=>gV _ e) (IV _) (show aU X.prog X.w _ _ _ (.tup ys)from⟨hz,its,r',RD _ _⟩)
  exact⟨.ref h'.objs.size,_,I2,rfl,q _ (I1.hok.fresh (IV _))⟩
 ·obtain⟨its,r',pl,hz⟩:=I.tuple hq
  exact call_tuple_same pl ⟨.ref p,H,I,rfl,q⟩
def tyV (K:If)(T:String)(x:V)(H:Hp):Prop:=match x with
 |.str _=>T="str"
 |.int _=>T="int"
 |.ref p=>(T="list"/\∃xs,SqL K H p xs)\/(T="tuple"/\∃o,K.lookup p=some o/\o.cls=.type "tuple"/\o.dict=none)\/
  (T="dict"/\((∃kvs,H p=some (.dK kvs))\/∃kvs,H p=some (.dT kvs)))\/(T="set"/\∃S n,H p=some (.set S n))
 |_=>False
def tu {pins:List (Addr×Obj)}{σ:St}{H:Hp}{s:IQ}{T:String}{x:V}{v:Gt}(I:Inv X pins σ H s)(r:aY x v)(ty:tyV X.K T x H):
  s.TypeIs v T/\∀a,v=.ref a->∃ob,s.heap.get? a=some ob/\ob.dict=none:=by
 cases x with
 |str z=>
  obtain⟨t,rfl⟩:=r
  cases (show T="str" from ty)
  exact⟨SL s z t,fun _ e=>nomatch e⟩
 |int i=>
  obtain⟨t,rfl⟩:=r
  cases (show T="int" from ty)
  exact⟨typeIs_int s i t,fun _ e=>nomatch e⟩
 |ref p=>
  cases r
  rcases ty with⟨rfl,xs,hq⟩|⟨rfl,o,hk,hc,hd⟩|⟨rfl,hk⟩|⟨rfl,S,n,hk⟩
  ·obtain⟨its,_,pl,_⟩:=I.list hq
   refine⟨pl.isList.typeIs,fun a e=>?_⟩
   cases e
   obtain⟨o,n,e,c,hd,_⟩:=pl
   exact⟨o,e,hd⟩
  ·refine⟨⟨o,I.kIn p o hk,hc⟩,fun a e=>?_⟩
   cases e
   exact⟨o,I.kIn _ o hk,hd⟩
  ·have z:∃o,s.heap.get? p=some o/\o.ExactDict:=by
    rcases hk with⟨kvs,hk⟩|⟨kvs,hk⟩
    ·obtain⟨_,_,_,_,o,_,_,e,ex,_⟩:=I.hok p _ hk
     exact⟨o,e,ex⟩
    ·obtain⟨_,_,_,_,o,_,_,e,ex,_⟩:=I.hok p _ hk
     exact⟨o,e,ex⟩
   obtain⟨o,e,ex⟩:=z
   refine⟨⟨o,e,ex.1⟩,fun a e2=>?_⟩
   cases e2
   exact⟨o,e,ex.2.1⟩
  ·obtain⟨o,_,_,_,e,ex,_⟩:=I.hok p _ hk
   refine⟨⟨o,e,ex.1⟩,fun a e2=>?_⟩
   cases e2
   exact⟨o,e,ex.2.1⟩
 |_=>exact Kg ty
def xR (K:If)(T:String)(r:V->List V->Hp->VK->Prop)(to:TE):TE:=fun σ H Q=>to σ H fun x H1=>tyV K T x H1/\r x [] H1 Q
def tBM (K:If)(T:String)(r:V->List V->Hp->VK->Prop)(to:TE)(t:TA):TE:=fun σ H Q=>to σ H fun x H1=>tyV K T x H1/\t σ H1 fun xs H2=>r x xs H2 Q
variable {o e:Expr}{es:List Expr}{to:TE}{t:TA}{name:Str}{apos cpos:Pos}{T id:String}{r:V->List V->Hp->VK->Prop}
def AA (pa:OZ T)(slot:Slot T name id)(hty:typeOf (.builtin id)=pure (.type "method_descriptor"))(hm:MtR X id r)(ho:PE X o to)
  (hbase:attributeBase o name X.env (eval o X.env)=eval o X.env:=by rfl)(hline:(apos.endLine==cpos.line)=true:=by rfl):PE X (.Call (.Attribute o name apos) [] [] cpos) (xR X.K T r to):=by
 intro pins s σ H Q I h
 refine wpAny_Call_method0_late hbase hline (thn (ho pins s σ H _ I h) fun v s1 ⟨x,H1,I1,r1,ty,q1⟩=>?_)
 obtain⟨h1,h2⟩:=tu I1 r1 ty
 exact⟨T,id,pa,slot,hty,h1,h2,PL rfl (PySem.evalArgs_none (hm pins s1 σ H1 x [] v [] Q I1 r1 .nil q1))⟩
def GI (pa:OZ T)(slot:Slot T name id)(hty:typeOf (.builtin id)=pure (.type "method_descriptor"))(hm:MtR X id r)(ho:PE X o to)(ha:PA X (e::es) t)
  (hbase:attributeBase o name X.env (eval o X.env)=eval o X.env:=by rfl)
  (hfew:((backTo cpos (starEach (e::es) X.env)).all (fun x=> !x.1)&&(backToKw cpos (keywordEach [] X.env)).all (fun x=>x.1.isSome)
   &&decide ((e::es).length+([]:List Keyword).length+(if ([]:List Keyword).isEmpty then 0 else 1)<30))=true:=by rfl)
  (hline:(apos.endLine==cpos.line)=true:=by rfl)(hs:starEach (e::es) X.env=(false,eval e X.env)::starEach es X.env:=by rfl)(hplain:(backTo cpos (starEach es X.env)).any (·.1)=false:=by rfl):
  PE X (.Call (.Attribute o name apos) (e::es) [] cpos) (tBM X.K T r to t):=by
 intro pins s σ H Q I h
 refine wpAny_Call_method_late hbase hfew hline rfl (thn (ho pins s σ H _ I h) fun v s1 ⟨x,H1,I1,r1,ty,q1⟩=>?_)
 obtain⟨h1,h2⟩:=tu I1 r1 ty
 refine⟨T,id,pa,slot,hty,h1,h2,?_⟩
 have hA:=ha cpos pins s1 σ H1 _ I1 q1
 rw[hs]at hA⊢
 refine PL (by show(false||(backTo cpos (starEach es X.env)).any (·.1))=false;rw[hplain]<;>rfl) (Calls.evalArgs_plain ?_)
 exact thn hA fun us s2 ⟨vs,H2,I2,r2,q2⟩=>hm pins s2 σ H2 x vs v us Q I2 r1 r2 q2
end
def MtM (X:Cx)(id:String)(r:V->List V->Hp->VK->Prop):Prop:=
 ∀(pins:List (Addr×Obj))(s:IQ)(σ:St)(H:Hp)(x:V)(xs:List V)(v:Gt)(us:List Gt)(Q:VK),Inv X pins σ H s->aY x v->aX xs us->r x xs H Q->
  wpAny (model X.prog X.w) X.A (call (.builtin id) (v::us)) (EP X pins σ Q) X.xe s
theorem aX.one:∀{x:V}{us:List Gt},aX [x] us->∃u,us=[u]/\aY x u
 |_,_,.cons r .nil=>⟨_,rfl,r⟩
section
variable {X:Cx}{pins:List (Addr×Obj)}{σ:St}{H:Hp}{s:IQ}{l b:Addr}{xs ys zs:List V}
def Inv.lset {its its':List Gt}{n:Nat}{f:Array Gt->Array Gt}{t':Nat}(I:Inv X pins σ H s)(hH:H l=some (.lst xs))
  (e:s.heap.get? l=some {cls:=.type "list",data:=.seq its.toArray n})(hf:f its.toArray=its'.toArray)(hv:aX ys its')(hz:ys.length<=sizeLine):
  Inv X pins σ (upd H l (.lst ys)) {s with heap:=s.heap.update l (Lb f),toks:=t'}:=by
 have q:=PySem.IsL.update e f
 rw[hf]at q
 refine I.write (x:=l) (e:=l) (by rw[hH];exact trivial) (.inl rfl) (fun b' u hb hu=>(JX s.heap (Lb f) (KQ hb)).trans hu) ⟨_,q⟩ ?_
 exact⟨hz,its',_,hv,q⟩
def Inv.lnew {its:List Gt}{t':Nat}(I:Inv X pins σ H s)(hv:aX ys its)(hz:ys.length<=sizeLine):
  Inv X pins σ (upd H s.heap.objs.size (.lst ys)) {s with heap:=s.heap.push {cls:=.type "list",data:=.seq its.toArray},toks:=t'}:=
 I.laid (fun _ _ q=>gV _ q) (IV _) ⟨hz,its,0,hv,IT _ rfl⟩
def Inv.fresh (I:Inv X pins σ H s):H s.heap.objs.size=none:=I.hok.fresh (IV _)
def Inv.lstM (I:Inv X pins σ H s)(hH:H l=some (.lst xs)):xs.length<=sizeLine/\∃(its:List Gt)(n:Nat),aX xs its/\xs.length=its.length/\s.heap.get? l=some {cls:=.type "list",data:=.seq its.toArray n}:=by
 obtain⟨z,its,n,r,e⟩:=I.hok l _ hH
 exact⟨z,its,n,r,r.length,e⟩
end
section
variable {X:Cx}
def cn:V->List V->Hp->VK->Prop:=fun x vs H Q=>∃l xs y,x=.ref l/\vs=[y]/\H l=some (.lst xs)/\xs.length<sizeLine/\Q .non (upd H l (.lst (xs++[y])))
def bG:MtM X "list.append" cn:=by
 intro pins s σ H x vs v us Q I rx rv h
 obtain⟨l,xs,y,rfl,rfl,hH,hz,q⟩:=h
 cases rx
 obtain⟨u,rfl,ru⟩:=rv.one
 obtain⟨z,its,n,r,hl,e⟩:=I.lstM hH
 refine SM Jy ⟨_,e,rfl⟩ F.entry_list_append (F.args_list_append_2 _ _) (PySem.list_append l its.toArray n u (by rw[IX];omega)) ⟨e,?_⟩
 refine⟨.non,_,I.lset (its':=its++[u]) hH e (by simp) (r.append (.cons ru .nil)) ?_,rfl,q⟩
 rw[Jg,Qj]
 omega
def Bo:R2:=fun x y H Q=>∃l b xs zs,x=.ref l/\y=.ref b/\H l=some (.lst xs)/\H b=some (.lst zs)/\xs.length+zs.length<=sizeLine/\∀p,H p=none->Q (.ref p) (upd H p (.lst (xs++zs)))
def Bv:OpR X (binaryOp .Add) Bo:=by
 intro pins s σ H x y v u Q I rx ry h
 obtain⟨l,b,xs,zs,rfl,rfl,hH,hB,hz,q⟩:=h
 cases rx
 cases ry
 obtain⟨z,its,n,r,hl,e⟩:=I.lstM hH
 obtain⟨z2,its2,n2,r2,hl2,e2⟩:=I.lstM hB
 refine PySem.P.add_list e e2 ?_ (by rw[IX,IX];omega)
 have ea:its.toArray++its2.toArray=(its++its2).toArray:=by simp
 rw[ea]
 exact⟨.ref _,_,I.lnew (t':=s.toks) (r.append r2) (by rw[Jg];omega),rfl,q _ I.fresh⟩
end
section
variable {prog:Jd}{w:JL}{A:JK}{E:Gt->IQ->Prop}{s:IQ}
set_option maxRecDepth 100000 in
end
section
variable {κ:Type}[DecidableEq κ]
def bM (kvs:List (κ×V))(k:κ):Option V:=(kvs.find? fun kv=>decide (kv.1=k)).map (·.2)
def dw (kvs:List (κ×V))(k:κ)(v:V):List (κ×V):=
 if (kvs.any fun kv=>decide (kv.1=k))=true then kvs.map (fun kv=>if kv.1=k then(kv.1,v)else kv)else kvs++[(k,v)]
def cO {p:κ×V}{r:List (κ×V)}{k:κ}(e:p.1=k):bM (p::r) k=some p.2:=by simp[bM,Mx,e]
def cL {p:κ×V}{r:List (κ×V)}{k:κ}(e:¬p.1=k):bM (p::r) k=bM r k:=by simp[bM,Mx,e]
theorem gq (k:κ):∀kvs:List (κ×V),(kvs.any fun kv=>decide (kv.1=k))=(bM kvs k).isSome
 |[]=>rfl
 |p::r=>by
  rw[PR]
  by_cases e:p.1=k
  ·simp only[cO e,decide_eq_true e,Tq,Option.isSome_some]
  ·rw[cL e,decide_eq_false e,Ss];exact gq k r
theorem oU (k j:κ)(y:V):∀kvs:List (κ×V),bM (kvs.map fun kv=>if kv.1=k then(kv.1,y)else kv) j=(bM kvs j).map fun x=>if j=k then y else x
 |[]=>rfl
 |p::r=>by
  have ih:=oU k j y r
  rw[JY]
  by_cases h:p.1=k
  ·rw[if_pos h]
   by_cases e:p.1=j
   ·rw[cO (p:=(p.1,y)) e,cO e,Mq,if_pos (e.symm.trans h)]
   ·rw[cL (p:=(p.1,y)) e,cL e,ih]
  ·rw[if_neg h]
   by_cases e:p.1=j
   ·rw[cO (p:=p) e,cO e,Mq,if_neg (fun z=>h (e.trans z))]
   ·rw[cL (p:=p) e,cL e,ih]
theorem ma (k j:κ)(y:V):∀kvs:List (κ×V),bM kvs k=none->bM (kvs++[(k,y)]) j=if j=k then some y else bM kvs j
 |[],_=>by
  by_cases e:k=j
  ·rw[if_pos e.symm];exact cO (p:=(k,y)) e
  ·rw[if_neg (fun z=>e z.symm)];exact cL (p:=(k,y)) e
 |p::r,hn=>by
  rw[RH]
  have hk:¬p.1=k:=fun z=>by rw[cO z]at hn;cases hn
  rw[cL hk]at hn
  have ih:=ma k j y r hn
  by_cases e:p.1=j
  ·rw[cO e,cO e,if_neg (fun z=>hk (e.trans z))]
  ·rw[cL e,cL e,ih]
def kn (kvs:List (κ×V))(k j:κ)(y:V):bM (dw kvs k y) j=if j=k then some y else bM kvs j:=by
 unfold dw
 by_cases a:(kvs.any fun kv=>decide (kv.1=k))=true
 ·rw[if_pos a,oU]
  rw[gq]at a
  by_cases e:j=k
  ·obtain⟨x,hx⟩:=JR.mp a
   rw[if_pos e,e,hx,Mq,if_pos rfl]
  ·rw[if_neg e]
   cases bM kvs j with
   |none=>rfl
   |some x=>rw[Mq,if_neg e]
 ·rw[if_neg a]
  refine ma k j y kvs ?_
  rw[gq]at a
  cases q:bM kvs k with
  |none=>rfl
  |some x=>rw[q]at a;exact(a rfl).elim
def gT (kvs:List (κ×V))(k:κ)(v:V):(dw kvs k v).length<=kvs.length+1:=by
 unfold dw
 split
 ·rw[IU];omega
 ·rw[Jg,JU,OV];omega
def wf {kvs:List (κ×V)}{k:κ}(v:V)(h:bM kvs k=none):dw kvs k v=kvs++[(k,v)]:=by
 unfold dw
 rw[gq,h]
 exact if_neg (by decide)
def cM.isSome_eq {o:Option V}{u:Option Gt}(r:cM o u):o.isSome=u.isSome:=by
 cases o with
 |none=>cases u with
  |none=>rfl
  |some _=>exact(show False from r).elim
 |some _=>cases u with
  |none=>exact(show False from r).elim
  |some _=>rfl
def KV.val {kvs:List (κ×V)}{vs:List (κ×Gt)}(r:KV kvs vs)(k:κ):cM (bM kvs k) (valueAt vs k):=by
 unfold KV at r
 induction r with
 |nil=>exact LQ
 | @cons p q ps qs h t ih=>
   obtain⟨h1,h2⟩:=h
   by_cases e:p.1=k
   ·have e':q.1=k:=h1.symm.trans e
    have b:valueAt (q::qs) k=some q.2:=by simp[valueAt,Mx,e']
    rw[cO e,b];exact h2
   ·have e':¬q.1=k:=fun z=>e (h1.trans z)
    have b:valueAt (q::qs) k=valueAt qs k:=by simp[valueAt,Mx,e']
    rw[cL e,b];exact ih
def KV.any {kvs:List (κ×V)}{vs:List (κ×Gt)}(r:KV kvs vs)(k:κ):(kvs.any fun kv=>decide (kv.1=k))=vs.any fun kv=>decide (kv.1=k):=by
 unfold KV at r
 induction r with
 |nil=>rfl
 |cons h t ih=>rw[PR,PR,ih,h.1]
def KV.repl {kvs:List (κ×V)}{vs:List (κ×Gt)}(r:KV kvs vs)(k:κ){y:V}{u:Gt}(ry:aY y u):
  KV (kvs.map fun kv=>if kv.1=k then(kv.1,y)else kv) (vs.map fun kv=>if kv.1=k then(kv.1,u)else kv):=by
 unfold KV at r⊢
 induction r with
 |nil=>exact .nil
 | @cons p q ps qs h t ih=>
   rw[JY,JY]
   refine .cons ?_ ih
   obtain⟨h1,h2⟩:=h
   by_cases e:p.1=k
   ·rw[if_pos e,if_pos (h1.symm.trans e)];exact⟨h1,ry⟩
   ·rw[if_neg e,if_neg (fun z=>e (h1.trans z))];exact⟨h1,h2⟩
def KV.put {kvs:List (κ×V)}{vs:List (κ×Gt)}(r:KV kvs vs)(k:κ){y:V}{u:Gt}(ry:aY y u):KV (dw kvs k y) (stored vs k u):=by
 unfold dw stored
 rw[r.any k]
 by_cases e:(vs.any fun kv=>decide (kv.1=k))=true
 ·rw[if_pos e,if_pos e];exact r.repl k ry
 ·rw[if_neg e,if_neg e];exact Paired.snoc r ⟨rfl,ry⟩
def KV.length {kvs:List (κ×V)}{vs:List (κ×Gt)}(r:KV kvs vs):kvs.length=vs.length:=Paired.length r
end
def kQ {P:Jd}{w:JL}{k:Key}{u:Gt}(r:aY (kV k) u):(bY P w).is k u=true:=by
 cases k with
 |inl i=>obtain⟨t,e⟩:=(show ∃t,u=Na i t from r);subst e;exact qh P w i t
 |inr x=>obtain⟨t,e⟩:=(show ∃t,u=MZ x t from r);subst e;exact qg P w x t
def Cd {a b:Key}(e:kV a=kV b):a=b:=by
 cases a with
 |inl i=>cases b with
  |inl j=>have e':V.int i=V.int j:=e;injection e' with e';rw[e']
  |inr y=>exact nomatch (show V.int i=V.str y from e)
 |inr x=>cases b with
  |inl j=>exact nomatch (show V.str x=V.int j from e)
  |inr y=>have e':V.str x=V.str y:=e;injection e' with e';rw[e']
theorem ib:∀{a b:List Key},a.map kV=b.map kV->a=b
 |[],[],_=>rfl
 |[],_::_,e=>by simp at e
 |_::_,[],e=>by simp at e
 |x::xs,y::ys,e=>by
  rw[JY,JY]at e
  injection e with e1 e2
  rw[Cd e1,ib e2]
theorem lU {P:Jd}{w:JL}:∀{ks:List Key}{us:List Gt},aX (ks.map kV) us->ItemsAre (bY P w) ks us
 |[],_,r=>by rw[OB]at r;cases r;exact .nil
 |k::ks,_,r=>by
  rw[JY]at r
  cases r with
  |cons h t=>exact .cons (kQ h) (lU t)
abbrev KT (H:Hp):List (List Key×V)->List (List Key×Addr×Gt)->Prop:=Paired fun p q=>p.1=q.1/\H q.2.1=some (.tup (p.1.map kV))/\aY p.2 q.2.2
def KT.val {H:Hp}{kvs:List (List Key×V)}{xs:List (List Key×Addr×Gt)}(r:KT H kvs xs)(k:List Key):cM (bM kvs k) ((atKey xs k).map (·.2)):=by
 induction r with
 |nil=>exact LQ
 | @cons p q ps qs h t ih=>
   obtain⟨h1,_,h2⟩:=h
   by_cases e:p.1=k
   ·have e':q.1=k:=h1.symm.trans e
    have b:atKey (q::qs) k=some q.2:=by simp[atKey,Mx,e']
    rw[cO e,b];exact h2
   ·have e':¬q.1=k:=fun z=>e (h1.trans z)
    have b:atKey (q::qs) k=atKey qs k:=by simp[atKey,Mx,e']
    rw[cL e,b];exact ih
def KT.repl {H:Hp}{kvs:List (List Key×V)}{xs:List (List Key×Addr×Gt)}(r:KT H kvs xs)(k:List Key){y:V}{u:Gt}(ry:aY y u):
  KT H (kvs.map fun kv=>if kv.1=k then(kv.1,y)else kv) (xs.map (putAt k u)):=by
 induction r with
 |nil=>exact .nil
 | @cons p q ps qs h t ih=>
   rw[JY,JY]
   refine .cons ?_ ih
   obtain⟨h1,h2,h3⟩:=h
   unfold putAt
   by_cases e:p.1=k
   ·rw[if_pos e,if_pos (h1.symm.trans e)];exact⟨h1,h2,ry⟩
   ·rw[if_neg e,if_neg (fun z=>e (h1.trans z))];exact⟨h1,h2,h3⟩
def KT.put {H:Hp}{kvs:List (List Key×V)}{xs:List (List Key×Addr×Gt)}(r:KT H kvs xs)(k:List Key){b:Addr}{y:V}{u:Gt}(hb:H b=some (.tup (k.map kV)))(ry:aY y u):
  KT H (dw kvs k y) (storedH xs k b u):=by
 have e:(kvs.any fun kv=>decide (kv.1=k))=(atKey xs k).isSome:=by
  rw[gq,(r.val k).isSome_eq,QG]
 unfold dw storedH
 rw[e]
 by_cases q:(atKey xs k).isSome=true
 ·rw[if_pos q,if_pos q];exact r.repl k ry
 ·rw[if_neg q,if_neg q];exact Paired.snoc r ⟨rfl,hb,ry⟩
def KT.keeps {H H':Hp}{kvs:List (List Key×V)}{xs:List (List Key×Addr×Gt)}(r:KT H kvs xs)(ht:∀b ys,H b=some (.tup ys)->H' b=some (.tup ys)):KT H' kvs xs:=
 Paired.mapP r fun _ _ z=>⟨z.1,ht _ _ z.2.1,z.2.2⟩
section
variable {P:Jd}{w:JL}{H:Hp}{h:Heap}{a:Addr}
def yx {u:HO}(ok:HOk P w H h)(e:Rd H a u):aU P w H h a u:=e.ok ok
def jM {kvs:List (Key×V)}(ok:HOk P w H h)(e:Rd H a (.dK kvs)):kvs.length<=sizeLine/\(a==sysModules)=false/\∃vs,KV kvs vs/\h.DictOf (bY P w) a vs:=
 show aU P w H h a (.dK kvs)from yx ok e
def EL {kvs:List (Key×V)}(ok:HOk P w H h)(e:H a=some (.dK kvs)):kvs.length<=sizeLine/\(a==sysModules)=false/\∃vs,KV kvs vs/\h.DictOf (bY P w) a vs:=jM ok (.inl e)
def jg {ks:List Key}(ok:HOk P w H h)(e:H a=some (.tup (ks.map kV))):(tupleKind (bY P w)).is h ks a:=by
 obtain⟨_,its,r,o,h1,h2,n,h3⟩:=(show aU P w H h a (.tup (ks.map kV))from ok a _ e)
 exact⟨o,its.toArray,n,h1,h2,h3,by simpa using lU r⟩
def lq {kvs:List (List Key×V)}(ok:HOk P w H h)(e:Rd H a (.dT kvs)):kvs.length<=sizeLine/\(a==sysModules)=false/\
  ∃xs,KT H kvs xs/\h.DictOfH (tupleKind (bY P w)) a xs:=by
 obtain⟨z,y,xs,r,o,es,ep,h1,h2,h3,h4,h5⟩:=(show aU P w H h a (.dT kvs)from yx ok e)
 refine⟨z,y,xs,r,o,es,ep,h1,h2,h3,h4,fun x hx=>?_,h5⟩
 have all:∀{l:List (List Key×V)}{m:List (List Key×Addr×Gt)},KT H l m->∀x∈m,(tupleKind (bY P w)).is h x.1 x.2.1:=by
  intro l m q
  induction q with
  |nil=>intro x hx;exact nomatch hx
  | @cons p q ps qs hq t ih=>
    intro x hx
    rcases IY.mp hx with e|hx
    ·subst e
     exact jg ok (by rw[<-hq.1];exact hq.2.1)
    ·exact ih x hx
 exact all r x hx
def yF {kvs:List (List Key×V)}(ok:HOk P w H h)(e:H a=some (.dT kvs)):kvs.length<=sizeLine/\(a==sysModules)=false/\
 ∃xs,KT H kvs xs/\h.DictOfH (tupleKind (bY P w)) a xs:=lq ok (.inl e)
end
def fz (H:Hp)(a:Addr)(y:V)(r:Option V):Prop:=
 (∃kvs k,Rd H a (.dK kvs)/\y=kV k/\r=bM kvs k)\/∃kvs k b,Rd H a (.dT kvs)/\y=.ref b/\H b=some (.tup (k.map kV))/\r=bM kvs k
def se (H:Hp)(a:Addr)(y v:V)(H':Hp):Prop:=
 (∃kvs k,H a=some (.dK kvs)/\y=kV k/\kvs.length<sizeLine/\H'=upd H a (.dK (dw kvs k v)))\/
 ∃kvs k b,H a=some (.dT kvs)/\y=.ref b/\H b=some (.tup (k.map kV))/\kvs.length<sizeLine/\H'=upd H a (.dT (dw kvs k v))
def fz.k {H:Hp}{a:Addr}{kvs:List (Key×V)}{k:Key}(e:H a=some (.dK kvs)):fz H a (kV k) (bM kvs k):=.inl ⟨kvs,k,.inl e,rfl,rfl⟩
def fz.t {H:Hp}{a b:Addr}{kvs:List (List Key×V)}{k:List Key}(e:H a=some (.dT kvs))(eb:H b=some (.tup (k.map kV))):fz H a (.ref b) (bM kvs k):=.inr ⟨kvs,k,b,.inl e,rfl,eb,rfl⟩
def se.k {H:Hp}{a:Addr}{kvs:List (Key×V)}{k:Key}{v:V}(e:H a=some (.dK kvs))(hl:kvs.length<sizeLine):se H a (kV k) v (upd H a (.dK (dw kvs k v))):=.inl ⟨kvs,k,e,rfl,hl,rfl⟩
section
variable {X:Cx}{pins:List (Addr×Obj)}{σ:St}{H:Hp}{s:IQ}{a:Addr}{y v:V}{u r:Gt}{o:Option V}{A:JK}{E:Gt->IQ->Prop}
def Inv.big (I:Inv X pins σ H s):sysModules<s.heap.objs.size:=by
 have h:mainGlobals<s.heap.objs.size:=(I.mod.glob.keeps I.bk).lt
 exact Qu (by decide) h
def ut {Q:Gt->IQ->Prop}(hu:A.units+1<cLine)(I:Inv X pins σ H s)(g:fz H a y (some v))(ry:aY y u)(h:∀w' s',Inv X pins σ H s'->aY v w'->Q w' s'):
  wpAny (model X.prog X.w) A (getItem (.ref a) u) Q E s:=by
 rcases g with⟨kvs,k,e,ey,l⟩|⟨kvs,k,b,e,ey,eb,l⟩
 ·subst ey
  obtain⟨z,hd,vs,rel,dd⟩:=jM I.hok e
  obtain⟨w',hw,rw'⟩:=cM.some_of (v:=v) (o:=valueAt vs k) (by rw[l];exact rel.val k)
  exact wpAny_getItem_of (kQ ry) dd.mapOf hw (h w' _ (I.tok _) rw')
 ·subst ey
  cases (show u=Ji b from ry)
  obtain⟨z,hd,xs,rel,dd⟩:=lq I.hok e
  obtain⟨w',hw,rw'⟩:=cM.some_of (v:=v) (o:=(atKey xs k).map (·.2)) (by rw[l];exact rel.val k)
  obtain⟨p,hp,hp2⟩:=PF.mp hw
  refine wpAny_getItem_heap (Np hu) (jg I.hok eb) dd hp ?_
  rw[hp2]
  exact h w' _ (I.tok _) rw'
def ID {Q:Gt->IQ->Prop}(hu:A.units+1<cLine)(I:Inv X pins σ H s)(g:fz H a y o)(ry:aY y u)(h:∀s',Inv X pins σ H s'->Q (.bool o.isSome) s'):
  wpAny (model X.prog X.w) A (compareOp .In u (.ref a)) Q E s:=by
 rcases g with⟨kvs,k,e,ey,l⟩|⟨kvs,k,b,e,ey,eb,l⟩
 ·subst ey
  obtain⟨z,hd,vs,rel,dd⟩:=jM I.hok e
  refine wpAny_in_of (kQ ry) hd dd.mapOf ?_
  rw[<-(rel.val k).isSome_eq,<-l]
  exact h _ (I.tok _)
 ·subst ey
  cases (show u=Ji b from ry)
  obtain⟨z,hd,xs,rel,dd⟩:=lq I.hok e
  refine wpAny_in_heap (Np hu) (jg I.hok eb) hd dd ?_
  have q:=(rel.val k).isSome_eq
  rw[QG]at q
  rw[<-q,<-l]
  exact h _ (I.tok _)
def qR {h':Heap}{t':Nat}{ob:HO}(I:Inv X pins σ H s)(mu:Mut (H a))(hs:Kh a s.heap h')(he:∃q,h'.get? a=some q)(new:aU X.prog X.w (upd H a ob) h' a ob):
  Inv X pins σ (upd H a ob) {s with heap:=h',toks:=t'}:=
 I.write (x:=a) (e:=a) mu (.inl rfl) (fun b q hb z=>(hs.2 b hb).trans z) he new
def BD {P:Jd}{w:JL}{H':Hp}{h':Heap}{kvs:List (Key×V)}{vs:List (Key×Gt)}(z:kvs.length<=sizeLine)(hd:(a==sysModules)=false)(rel:KV kvs vs)(dd:h'.DictOf (bY P w) a vs):
 aU P w H' h' a (.dK kvs):=⟨z,hd,vs,rel,dd⟩
end
section
variable {X:Cx}{pins:List (Addr×Obj)}{σ:St}{H:Hp}{s:IQ}{a:Addr}{kvs:List (Key×V)}{k:Key}{u:Gt}{A:JK}{E:Gt->IQ->Prop}
def DV {Q:Gt->IQ->Prop}(I:Inv X pins σ H s)(e:Rd H a (.dK kvs))(h:∀t s',Inv X pins σ H s'->Q (.int kvs.length t) s'):wpAny (model X.prog X.w) A (call (.builtin "len") [.ref a]) Q E s:=by
 obtain⟨z,hd,vs,rel,dd⟩:=jM I.hok e
 refine call_len_dict hd dd (by rw[<-rel.length];rw[KB]at z;omega) ?_
 rw[<-rel.length]
 exact h _ _ (I.tok _)
end
def qo {X:Cx}{pins:List (Addr×Obj)}{σ:St}{H:Hp}{s:IQ}{a:Addr}{y:V}{o:Option V}(I:Inv X pins σ H s)(g:fz H a y o):s.TypeIs (.ref a) "dict":=by
 rcases g with⟨kvs,k,e,_,_⟩|⟨kvs,k,b,e,_,_,_⟩
 ·obtain⟨_,_,vs,_,dd⟩:=jM I.hok e
  exact dd.typeIs
 ·obtain⟨_,_,xs,_,dd⟩:=lq I.hok e
  exact dd.typeIs
def xw {P:Jd}{w:JL}{H:Hp}(h:Heap)(hb:sysModules<h.objs.size):aU P w H (h.push {cls:=.type "dict",data:=.dict #[]}) h.objs.size (.dK []):=
 ⟨Kf _,beq_eq_false_iff_ne.mpr (KQ (Jb hb)),[],.nil,Heap.DictOf.new h⟩
def vG {P:Jd}{w:JL}{H:Hp}(h:Heap)(hb:sysModules<h.objs.size):aU P w H (h.push {cls:=.type "dict",data:=.dict #[]}) h.objs.size (.dT []):=
 ⟨Kf _,beq_eq_false_iff_ne.mpr (KQ (Jb hb)),[],.nil,_,#[],0,IT _ rfl,⟨rfl,rfl,rfl⟩,rfl,rfl,List.nodup_nil⟩
def uu:TE:=fun _ H Q=>∀p,H p=none->Q (.ref p) (upd H p (.dK []))
def uJ:TE:=fun _ H Q=>∀p,H p=none->Q (.ref p) (upd H p (.dT []))
section
variable {X:Cx}{pos:Pos}
def vY:PE X (.Dict [] [] pos) uu:=fun pins s σ H Q I h=>
 wpAny_Dict_empty ⟨.ref s.heap.objs.size,_,I.laid (a:=s.heap.objs.size) (o:=.dK []) (t':=s.toks) (fun _ _ q=>gV _ q) (IV _) (xw s.heap I.big),rfl,h _ (I.hok.fresh (IV _))⟩
def vy:PE X (.Dict [] [] pos) uJ:=fun pins s σ H Q I h=>
 wpAny_Dict_empty ⟨.ref s.heap.objs.size,_,I.laid (a:=s.heap.objs.size) (o:=.dT []) (t':=s.toks) (fun _ _ q=>gV _ q) (IV _) (vG s.heap I.big),rfl,h _ (I.hok.fresh (IV _))⟩
end
end L2
namespace Att
open PySem PySem.W PySem.Calls PyProof.Rows
def ints_of_wellAll {P:Params}{h:Heap}:∀(ns:List Int)(vs:List Gt),WellAll P h vs (ns.map WData.int)->OA vs ns:=by
 intro ns
 induction ns with
 |nil=>
  intro vs w
  rw[OB]at w
  cases w
  exact .nil
 |cons n ns ih=>
  intro vs w
  rw[JY]at w
  cases w with
  |cons a b=>
   cases a
   exact .cons _ _ (ih _ b)
def script_of {l:OpenLaw}{n:Nat}(hn:l.most=some n){P:Params}{h:Heap}{args:List WData}{vals:List Gt}
  (hpre:l.row.toRowW.claim.pre args=true)(hwl:WellAll P h vals args):
  ∃a vs ns,vals=[Ji a]/\args=[WData.list (ns.map WData.int)]/\h.get? a=some {cls:=.type "list",data:=.seq vs.toArray}/\OA vs ns/\ns.length<=n:=by
 have hsh:WShape.hasAll [] args [.list .int]=true:=(pre_splitW hpre).1
 have hc:l.pre.holds [] {args:=args}=true:=(pre_splitW hpre).2
 obtain⟨d,r,rfl,h1,h2⟩:=hasAllW_cons hsh
 obtain rfl:=hasAllW_nil h2
 obtain⟨xs,rfl,h3⟩:=hasW_list h1
 obtain⟨ns,rfl⟩:=items_int h3
 have hlen:ns.length<=n:=by
  unfold OpenLaw.pre at hc
  have h4:(WTm.not (.lt (.lit (.int (n:Int))) (.len (.arg 0)))).holds [] {args:=[.list (ns.map .int)]}=true:=by
   have h4:=(holds_andW hc).1
   rw[hn]at h4
   exact h4
  have h5:=condW_of h4 (w_not (w_lt w_lit (w_len_list (w_arg rfl))))
  rw[IU]at h5
  refine Nat.le_of_not_lt fun q=>?_
  have q':(n:Int)<((ns.length:Nat):Int):=by omega
  first
   |(rw[decide_eq_true q']at h5;exact absurd h5 (by decide))
   |(simp at h5;omega)
 cases hwl with
 |cons w1 w2=>
  cases w2
  cases w1 with
  |list ho hall=>exact⟨_,_,ns,rfl,rfl,ho,ints_of_wellAll ns _ hall,hlen⟩
def post_true (l:OpenLaw)(args:List WData):l.row.toRowW.claim.post args (.bool true) args=true:=
 postW_of (r:=l.row.toRowW) (X:=(true==true))
  (show WShape.has [] (.bool true) .bool=true by first|rfl|decide|simp[WShape.has,WShape.arms,WShape.armsAll])
  (show(WTm.eq .res (.lit (.bool true))).value [] {args:=args,res:=some (.bool true),after:=args}=some (.bool (true==true))from w_eq_bool (w_res rfl) w_lit) rfl
def attach_call {l:OpenLaw}{n:Nat}{q:Jd}{loose:List Str}{XP:(Str->Option Gt)->Heap->Prop}{YP:JL->Heap->Prop}{d:DefRec}
  (hn:l.most=some n)(hdf:d.params.defaults=[])
  (call:∀(w:JL)(s₀ s₁:IQ)(mg mb:Str->Option Gt)(fa:Addr)(o:Obj)(pm cd doc:Gt)(a:Addr)(vs:List Gt)(ns:List Int),
   Ground q loose [] XP w s₀ mg mb s₁.heap->YP w s₁.heap->
   s₁.heap.get? fa=some o->o.data=.func (docDef d.name d.params d.body d.scope pm cd doc)->s₁.heap.CodeRec cd d.name->mg d.name=some (.ref fa)->
   s₁.heap.get? a=some {cls:=.type "list",data:=.seq vs.toArray}->OA vs ns->ns.length<=n->s₁.gens=#[]->
   codeAny (model l.prog w) callerA (.call (.ref fa) ⟨[.ref a],[]⟩) (fun r s'=>r=.ok (.ret (.bool true))/\OldK s₁.heap s'.heap/\s'.os=s₁.os/\NJ s'.gens) s₁):
  WalkO q loose XP YP l.row.toRowW d [] (fun f vs=>QP f vs):=by
 intro w s₀ s₁ mg mb G Y fa o pm cd doc dV kV ho hd hcd hD hmg hg args vals as hpre hlay hrd hwl hlo
 obtain rfl:dV=.none:=Dflts.none hD hdf
 obtain rfl:kV=.none:=Dflts.noKw hD
 obtain⟨a,vs,ns,rfl,rfl,hobj,hints,hlen⟩:=script_of hn hpre hwl
 refine enter_call (Mh (call w s₀ s₁ mg mb fa o pm cd doc a vs ns G Y ho (fd_plain hd) hcd hmg hobj hints hlen hg) fun r s' hq=>?_)
 obtain⟨rfl,h2,h3,h4⟩:=hq
 exact⟨.inl ⟨.bool true,.bool true,[],rfl,fun _=>rfl,.bool true,post_true l _,fun _=>⟨Pf,fun _ hm=>(nomatch hm)⟩⟩,h2,h3,h4⟩
end Att
namespace L2
open PySem PySem.Spec PyProof.Rows
theorem jy:∀{vs:List Gt}{ns:List Int},OA vs ns->aX (ns.map V.int) vs
 |_,_,.nil=>.nil
 |_,_,.cons n t h=>.cons ⟨t,rfl⟩ (jy h)
def bF (s:Stmt):Arguments:=match s with
 |.FunctionDef _ a _ _ _ _ _ _ _ _=>a
 |_=>{posonlyargs:=[],args:=[],vararg:=none,kwonlyargs:=[],kw_defaults:=[],kwarg:=none,defaults:=[]}
def ba (s:Stmt):List Stmt:=match s with
 |.FunctionDef _ _ b _ _ _ _ _ _ _=>b
 |_=>[]
def am (s:Stmt):Scope:=match s with
 |.FunctionDef _ _ _ _ _ _ sc _ _ _=>sc
 |_=>{kind:=.function,names:=[],isGenerator:=false,isCoroutine:=false}
abbrev E0:XK:=fun _ _ _=>False
structure Fun (K:If)(x qual:Str)(st:Stmt)(f:Addr)(fd:Jn):Prop where
 ex:∃(oc:Gt)(od:Option Addr)(kV doc pm:Gt)(an:Option Addr)(cdv ct:Gt)(osl:Array (Option Gt)),
  fd=Mo x qual (bF st) (ba st) (am st) .none kV doc pm an cdv ct/\K.lookup f=some ⟨oc,od,.func fd,osl⟩/\RM K cdv qual=true
 kp:Ph K (.ref f)=true
section
variable {P:Jd}{w:JL}{K:If}{mg:Str->Option Gt}{base:Heap}
def Fun.binds {x qual:Str}{st:Stmt}{f:Addr}{fd:Jn}{ps:List Str}(F:Fun K x qual st f fd)
  (h:∀(kV doc pm:Gt)(an:Option Addr)(cdv ct:Gt)(us:List Gt),us.length=ps.length->bindArgs (Mo x qual (bF st) (ba st) (am st) .none kV doc pm an cdv ct) ⟨us,[]⟩=pure (ps.zip us)):dG K fd ps []:=by
 obtain⟨oc,od,kV,doc,pm,an,cdv,ct,osl,rfl,lk,hcd⟩:=F.ex
 exact .all (h kV doc pm an cdv ct)
def ur {x qual:Str}{st:Stmt}{f:Addr}{oc:Gt}{od an:Option Addr}{osl:Array (Option Gt)}{kV doc pm cdv ct:Gt}(l:K.lookup f=some ⟨oc,od,.func (Mo x qual (bF st) (ba st) (am st) .none kV doc pm an cdv ct),osl⟩)
 (c:RM K cdv qual=true)(k:Ph K (.ref f)=true):Fun K x qual st f (Mo x qual (bF st) (ba st) (am st) .none kV doc pm an cdv ct):=⟨⟨oc,od,kV,doc,pm,an,cdv,ct,osl,rfl,l,c⟩,k⟩
end
def bL {n:Nat}(h:n<=1000):n<sizeLine:=Ly h (by decide)
section
variable {X:Cx}
def tz:bI X (.builtin "len") (fun xs H Q=>∃a kvs,xs=[V.ref a]/\H a=some (.dK kvs)/\Q (.int kvs.length) H):=by
 intro pins s σ H xs us Q I r h
 obtain⟨a,kvs,rfl,ha,q⟩:=h
 obtain⟨u,rfl,ru⟩:=dU r
 cases ru
 exact DV I (.inl ha) fun t s' I'=>⟨.int kvs.length,H,I',⟨t,rfl⟩,q⟩
end
def pB {A B:Prop}(h:A):if true=true then A else B:=by
 rw[if_pos rfl]
 exact h
def ar (H H':Hp):Prop:=∀b o,H b=some o->H' b=some o
def ar.refl (H:Hp):ar H H:=fun _ _ h=>h
def ar.trans {H H1 H2:Hp}(a:ar H H1)(b:ar H1 H2):ar H H2:=fun c o h=>b c o (a c o h)
def cq:List (Str×LJ)->List (Str×Addr)->List (Str×Addr)->List (Str×Addr)
 |[],_,cs=>cs
 |(n,k)::r,cells,cs=>cq r cells (if k==.free then(match cells.lookup n with|some a=>(n,a)::cs|none=>cs)else cs)
def jr {scope:Scope}{env:Env}(h:∀y∈scope.names,y.2=.free->(env.cells.lookup y.1).isSome=true):closureFor scope env=pure (cq scope.names env.cells []):=by
 have key:∀(l:List (Str×LJ))(cs:List (Str×Addr)),(∀y∈l,y.2=.free->(env.cells.lookup y.1).isSome=true)->
   (forIn l cs (fun(x:Str×LJ)(cs:List (Str×Addr))=>(if (x.2==Lo)=true then(do let a<-cellOf env x.1;pure (Qy ((x.1,a)::cs)))else(pure (Qy cs):Sem _))):Sem (List (Str×Addr)))=pure (cq l env.cells cs):=by
  intro l
  induction l with
  |nil=>intro cs _;rfl
  |cons y r ih=>
   intro cs hy
   obtain⟨n,k⟩:=y
   rw[KU]
   by_cases hk:k=.free
   ·subst hk
    have hs:=hy (n,.free) Jw rfl
    cases e:env.cells.lookup n with
    |none=>rw[e]at hs;cases hs
    |some a=>
     have:=ih ((n,a)::cs) (fun z hz=>hy z (Je _ hz))
     simp only[cq,beq_self_eq_true,if_true,e,cellOf,RI]
     exact this
   ·have hb:(k==Lo)=false:=by simpa using hk
    have:=ih cs (fun z hz=>hy z (Je _ hz))
    simp only[cq,hb,KD,if_false,RI]
    exact this
 have:=key scope.names [] h
 unfold closureFor
 simpa using this
theorem ji:∀{l:List (Str×LJ)}{cells cs:List (Str×Addr)}{x:Str}{c:Addr},(∀x c,cs.lookup x=some c->cells.lookup x=some c)->(cq l cells cs).lookup x=some c->cells.lookup x=some c
 |[],_,_,_,_,h,e=>h _ _ e
 |(n,k)::r,cells,cs,x,c,h,e=>by
  refine ji (l:=r) (fun y d hy=>?_) e
  split at hy
  ·split at hy
   ·rename_i a ha
    by_cases hyn:y=n
    ·subst hyn
     rw[Qi]at hy
     rw[<-hy];exact ha
    ·rw[Lv]at hy
     have:(y==n)=false:=by simpa using hyn
     rw[this]at hy
     exact h _ _ hy
   ·exact h _ _ hy
  ·exact h _ _ hy
theorem lh:∀{l:List (Str×LJ)}{cells cs:List (Str×Addr)}{x:Str},(cs.lookup x).isSome=true->((cq l cells cs).lookup x).isSome=true
 |[],_,_,_,h=>h
 |(n,k)::r,cells,cs,x,h=>by
  refine lh (l:=r) ?_
  split
  ·split
   ·rw[Lv]
    split
    ·rfl
    ·exact h
   ·exact h
  ·exact h
theorem fO:∀{l:List (Str×LJ)}{cells cs:List (Str×Addr)}{x:Str},(x,Lo)∈l->(cells.lookup x).isSome=true->((cq l cells cs).lookup x).isSome=true
 |[],_,_,_,h,_=>by cases h
 |(n,k)::r,cells,cs,x,h,hs=>by
  rcases IY.mp h with e|h
  ·cases e
   refine lh (l:=r) ?_
   simp only[beq_self_eq_true,if_true]
   cases e:cells.lookup n with
   |none=>rw[e]at hs;cases hs
   |some a=>simp only[Qi];rfl
  ·exact fO (l:=r) h hs
def iI {x:Str}{k:LJ}:∀{l:List (Str×LJ)},l.lookup x=some k->(x,k)∈l:=fun h=>KM h
inductive fc (X:Cx)(scope:Scope):List Str->List Nat->Prop where
 |nil:fc X scope [] []
 |cons {y:Str} {i:Nat} {ys:List Str} {is:List Nat} (h1:X.N[i]?=some y) (h2:X.env.kindOf y=some .cell\/X.env.kindOf y=some .free) (h3:scope.names.lookup y=some .free) (h:fc X scope ys is):fc X scope (y::ys) (i::is)
structure gO (scope:Scope)(x:Str)(ys:List Str):Prop where
 kind:scope.kind=.function
 nocell:∀y∈scope.names,y.2≠.cell
 names:∀y∈scope.names,y.2=.local->scope.names.lookup y.1=some .local
 own:scope.names.lookup x=some .local
 all:∀y∈scope.names,y.2=.free->y.1∈ys
 nd:(x::ys).Nodup
def aM (X:Cx)(scope:Scope)(C:Addr)(N:List Str)(s:IQ)(H:Hp)(fp:List Addr):Cx:=
 {X with N:=N,s₀:=s,H₀:=H,env:=compEnvC scope (cq scope.names X.env.cells []) C X.env,outer:=X.stack,ex:=fp,fn:=fun _=>false,pn:=[],xe:=fun _ _=>False}
def aR (σ:St)(is:List Nat):St:=is.map fun i=>(σ[i]?).getD none
theorem ig {f:Str×LJ->Str×LJ}(hf:∀p,(f p).1=p.1){x:Str}:∀(l:List (Str×LJ)),(l.map f).lookup x=(l.lookup x).map fun k=>(f (x,k)).2
 |[]=>rfl
 |(n,k)::r=>by
  have ih:=ig hf (x:=x) r
  have e:f (n,k)=(n,(f (n,k)).2):=Prod.ext (hf (n,k)) rfl
  rw[JY,e,Lv,Lv]
  cases hx:x==n with
  |true=>
   have e':x=n:=by simpa using hx
   subst e';rfl
  |false=>exact ih
def iP (scope:Scope)(env:Env)(x:Str):(relabel scope env).names.lookup x=(scope.names.lookup x).map fun k=>if (k==Lo&&env.scope.kind==.function&&env.kindOf x==some .cell)then MW else k:=by
 have hf:∀p:Str×LJ,((fun(n,k)=>if (k==Lo&&env.scope.kind==.function&&env.kindOf n==some .cell)then(n,MW)else(n,k)) p:Str×LJ).1=p.1:=by
  intro p
  obtain⟨n,k⟩:=p
  show(if _ then(n,MW)else(n,k)).1=n
  split<;>rfl
 have:=ig hf (x:=x) scope.names
 show KO x (List.map _ scope.names)=_
 rw[this]
 congr 1
 funext k
 show(if _ then(x,MW)else(x,k)).2=_
 split<;>rfl
def eD {scope:Scope}{env:Env}{x:Str}{k:LJ}(nc:∀y∈scope.names,y.2≠.cell)(h:(relabel scope env).names.lookup x=some k)(hk:k=.cell\/k=.free):(x,Lo)∈scope.names:=by
 rw[iP]at h
 cases q:scope.names.lookup x with
 |none=>rw[q]at h;cases h
 |some k'=>
  have hm:=iI q
  rw[q]at h
  have h:(if (k'==Lo&&env.scope.kind== .function&&env.kindOf x==some .cell)then MW else k')=k:=Js h
  by_cases hc:k'=.free
  ·subst hc;exact hm
  ·have hb:(k'==Lo)=false:=by simpa using hc
   rw[hb]at h
   have h:k'=k:=h
   subst h
   rcases hk with z|z
   ·exact absurd z (nc _ hm)
   ·exact absurd z hc
def iZ {scope:Scope}{env:Env}{x:Str}(h:scope.names.lookup x=some .free):(relabel scope env).names.lookup x=some .cell\/(relabel scope env).names.lookup x=some .free:=by
 rw[iP,h]
 show some (if _ then _ else _)=_\/some (if _ then _ else _)=_
 split
 ·exact .inl rfl
 ·exact .inr rfl
def fS {scope:Scope}{env:Env}{x:Str}(h:scope.names.lookup x=some .local):(relabel scope env).names.lookup x=some .local:=by
 rw[iP,h];rfl
def lX {X:Cx}{scope:Scope}{ys:List Str}{is:List Nat}{m:Str->Option Gt}{h:Heap}{σ:St}(hc:fc X scope ys is)
  (hl:∀(i:Nat)(x:Str)(v:V),X.N[i]? =some x->σ[i]? =some (some v)->Vis X.env.scope x->∃u,aY v u/\BX X.env h m x u)(nd:True):
  ∀(j:Nat)(y:Str)(v:V),ys[j]? =some y->(aR σ is)[j]? =some (some v)->∃u,aY v u/\scope.names.lookup y=some .free/\∃c,X.env.cells.lookup y=some c/\h.IsCell c (some u):=by
 induction hc with
 |nil=>intro j y v e;simp at e
 | @cons z i zs js h1 h2 h3 hr ih=>
   intro j y v e1 e2
   cases j with
   |zero=>
    simp at e1;subst e1
    have e2:(σ[i]?).getD none=some v:=by simpa[aR]using e2
    have e3:σ[i]? =some (some v):=by
     cases q:σ[i]? with
     |none=>rw[q]at e2;simp at e2
     |some o=>rw[q]at e2;simp at e2;rw[e2]
    have hv:Vis X.env.scope z:=by
     rcases h2 with q|q
     ·exact .inr (.inl q)
     ·exact .inr (.inr q)
    obtain⟨u,r,l⟩:=hl i z v h1 e3 hv
    refine⟨u,r,h3,?_⟩
    rcases l with⟨k,_⟩|⟨_,c,e,ic⟩
    ·rcases h2 with q|q
     ·rw[q]at k;cases k
     ·rw[q]at k;cases k
    ·exact⟨c,e,ic⟩
   |succ j=>
    exact ih j y v (by simpa using e1) (by simpa[aR]using e2)
def yU (is:List Nat)(tc:TT)(te:TE)(σ:St)(D:Addr)(J:It)(H1:Hp)(Q:VK):Prop:=∃W:Nat->Nat->List V->Hp->Prop,(∃m,W 0 m [] (upd H1 D (.lst [])))/\
 ∀i m ys H2,W i m ys H2->(J.stop i H2/\Q (.ref D) H2)\/(J.go i H2/\∀x H3,J.yld i H2 x H3->tc (some x::aR σ is) H3 fun b H4=>if b=true then
  te (some x::aR σ is) H4 fun y H5=>H5 D=some (.lst ys)/\ys.length<sizeLine/\∃m',m'<m/\W (i+1) m' (ys++[y]) (upd H5 D (.lst (ys++[y])))
  else ∃m',m'<m/\W (i+1) m' ys H4)
def jF (is:List Nat)(wi:TI)(tc:TT)(te:TE):TE:=fun σ H Q=>wi σ H fun J H1=>∀D,H1 D=none->yU is tc te σ D J H1 Q
def ql (elt target iter c:Expr)(scope:Scope)(pos:Pos)(it acc:Gt)(env:Env):
  compTurn (.ListComp elt [⟨target,iter,[c],0⟩] scope pos) 0 it acc env=(standAt iter.pos >>= fun _=>pyNext it >>= fun r=>match r with
   |none=>pure (.done .next)
   |some v=>letOwnedTupleGo target it v >>= fun _=>assign target env v >>= fun _=>isTrue c env (eval c env) >>= fun ok=>
    (if ok=true then(eval elt env >>= fun x=>call (.builtin "list.append") [acc,x] >>= fun _=>pure ())else pure ()) >>= fun _=>
     again (.compLoop (.ListComp elt [⟨target,iter,[c],0⟩] scope pos) 0 it acc env)):=by
 unfold compTurn
 simp only[KU,LA,List.getElem?_cons_zero,List.getElem?_cons_succ,List.getElem?_nil,Tp,RI,bne_self_eq_false,KD,if_false,if_true]
 congr 1
 funext _
 congr 1
 funext r
 cases r with
 |none=>rfl
 |some v=>
  simp only[Tp,RI,if_true]
  congr 1;funext _
  congr 1;funext _
  congr 1;funext b
  cases b<;>simp
section
variable {prog:Jd}{w:JL}{A:JK}{R:Ou->IQ->Prop}{s:IQ}
def fj {elt target iter c:Expr}{scope:Scope}{pos:Pos}{it acc:Gt}{env:Env}(I:Nat->IQ->Prop)
  (turn:∀n s,I n s->wpAny (model prog w) A (pyNext it) (fun r s₁=>match r with
   |none=>R (.ok .next) s₁
   |some v=>wpAny (model prog w) A (letOwnedTupleGo target it v) (fun _ s₁=>wpAny (model prog w) A (assign target env v) (fun _ s₂=>wpAny (model prog w) A (isTrue c env (eval c env)) (fun ok s₂=>if ok=true then wpAny (model prog w) A (eval elt env) (fun x s₃=>
    wpAny (model prog w) A (call (.builtin "list.append") [acc,x]) (fun _ s₄=>∃m,m<n/\I m s₄) (notedBy (model prog w) A env fun e s'=>R (.error e) s') s₃)
    (notedBy (model prog w) A env fun e s'=>R (.error e) s') s₂ else ∃m,m<n/\I m s₂) (notedBy (model prog w) A env fun e s'=>R (.error e) s') s₂) (notedBy (model prog w) A env fun e s'=>R (.error e) s') s₁) (notedBy (model prog w) A env fun e s'=>R (.error e) s') s₁) (notedBy (model prog w) A env fun e s'=>R (.error e) s') s)
  (n:Nat)(h:I n s):
  codeAny (model prog w) A (.compLoop (.ListComp elt [⟨target,iter,[c],0⟩] scope pos) 0 it acc env) R s:=by
 refine codeAny_loop rfl I (fun n s hI=>?_) n h
 show wpAny _ _ ((compTurn (.ListComp elt [⟨target,iter,[c],0⟩] scope pos) 0 it acc env).onRaise (fun x=>do noteFrame x env;theTreesLotGoes x)) _ _ s
 refine wpAny_noted ?_
 rw[ql]
 refine cW (NG (cW (Ju (turn n s hI) (fun r s₁ h₁=>?_) fun _ _ h'=>h')))
 cases r with
 |none=>exact tx h₁
 |some v=>
  refine cW (Ju h₁ (fun _ s₁ h₁=>cW (Ju h₁ (fun _ s₂ h₂=>cW (Ju h₂ (fun ok s₃ h₃=>?_) fun _ _ h'=>h')) fun _ _ h'=>h')) fun _ _ h'=>h')
  cases ok with
  |true=>
   rw[if_pos rfl]at h₃
   simp only[if_true]
   exact cW (cW (Ju h₃ (fun x s₃ h₃=>cW (Ju h₃ (fun _ s₄ h₄=>tx (tx ⟨rfl,h₄⟩)) fun _ _ h'=>h')) fun _ _ h'=>h'))
  |false=>
   rw[if_neg Jc]at h₃
   simp only[KD,if_false]
   exact cW (tx (tx ⟨rfl,h₃⟩))
def fg {elt target iter:Expr}{scope:Scope}{pos:Pos}{it acc:Gt}{env:Env}(I:Nat->IQ->Prop)
  (turn:∀n s,I n s->wpAny (model prog w) A (pyNext it) (fun r s₁=>match r with
   |none=>R (.ok .next) s₁
   |some v=>wpAny (model prog w) A (letOwnedTupleGo target it v) (fun _ s₁=>wpAny (model prog w) A (assign target env v) (fun _ s₂=>wpAny (model prog w) A (eval elt env) (fun x s₃=>
    wpAny (model prog w) A (call (.builtin "list.append") [acc,x]) (fun _ s₄=>∃m,m<n/\I m s₄) (notedBy (model prog w) A env fun e s'=>R (.error e) s') s₃)
    (notedBy (model prog w) A env fun e s'=>R (.error e) s') s₂) (notedBy (model prog w) A env fun e s'=>R (.error e) s') s₁) (notedBy (model prog w) A env fun e s'=>R (.error e) s') s₁) (notedBy (model prog w) A env fun e s'=>R (.error e) s') s)
  (n:Nat)(h:I n s):
  codeAny (model prog w) A (.compLoop (.ListComp elt [⟨target,iter,[],0⟩] scope pos) 0 it acc env) R s:=by
 refine codeAny_loop rfl I (fun n s hI=>?_) n h
 show wpAny _ _ ((compTurn (.ListComp elt [⟨target,iter,[],0⟩] scope pos) 0 it acc env).onRaise (fun x=>do noteFrame x env;theTreesLotGoes x)) _ _ s
 refine wpAny_noted ?_
 rw[compTurn_list1]
 refine cW (NG (cW (Ju (turn n s hI) (fun r s₁ h₁=>?_) fun _ _ h'=>h')))
 cases r with
 |none=>exact tx h₁
 |some v=>
  exact cW (Ju h₁ (fun _ s₁ h₁=>cW (Ju h₁ (fun _ s₂ h₂=>cW (cW (Ju h₂ (fun x s₃ h₃=>cW (Ju h₃
   (fun _ s₄ h₄=>tx (tx ⟨rfl,h₄⟩)) fun _ _ h'=>h')) fun _ _ h'=>h'))) fun _ _ h'=>h')) fun _ _ h'=>h')
end
def pC (X:Cx)(ifs:List Expr)(tc:TT):Prop:=match ifs with
 |[]=>tc=fun _ H Q=>Q true H
 |[c]=>PT X c tc
 |_=>False
section
variable {X:Cx}
def oY {scope:Scope}{ys:List Str}{is:List Nat}(h:fc X scope ys is):is.length=ys.length:=by
 induction h with
 |nil=>rfl
 |cons _ _ _ _ ih=>simp[ih]
def gK {scope:Scope}{ys:List Str}{is:List Nat}(h:fc X scope ys is){y:Str}(hy:y∈ys):X.env.kindOf y=some .cell\/X.env.kindOf y=some .free:=by
 induction h with
 |nil=>cases hy
 |cons _ h2 _ _ ih=>
  rcases IY.mp hy with e|e
  ·rw[e];exact h2
  ·exact ih e
def ue {elt iter:Expr}{ifs:List Expr}{x:Str}{px pos:Pos}{scope:Scope}{ys:List Str}{is:List Nat}{tc:TT}{te:TE}{pins:List (Addr×Obj)}{σ:St}{H2:Hp}{s2:IQ}{it:Addr}{fp:List Addr}{tn:Nat->Heap->Prop}{J:It}{E:Gt->IQ->Prop}{Q:VK}{RR:Gt->Addr->Ou->IQ->Prop}
  (hc:X.calm=true)(S:gO scope x ys)(hcap:fc X scope ys is)
  (hif:∀C s H fp,pC (aM X scope C (x::ys) s H fp) ifs tc)(he:∀C s H fp,PE (aM X scope C (x::ys) s H fp) elt te)
  (I2:Inv X pins σ H2 s2)(T:fW X.prog X.w X.K (.Name x px) J fp it tn)(st2:tn 0 s2.heap)(f2:∀b∈fp,fA X pins H2 b)
  (hW:∀D,H2 D=none->∃W:Nat->Nat->List V->Hp->Prop,(∃m,W 0 m [] (upd H2 D (.lst [])))/\
   ∀i m ys H2,W i m ys H2->(J.stop i H2/\Q (.ref D) H2)\/(J.go i H2/\∀x H3,J.yld i H2 x H3->tc (some x::aR σ is) H3 fun b H4=>if b=true then
    te (some x::aR σ is) H4 fun y H5=>H5 D=some (.lst ys)/\ys.length<sizeLine/\∃m',m'<m/\W (i+1) m' (ys++[y]) (upd H5 D (.lst (ys++[y])))
    else ∃m',m'<m/\W (i+1) m' ys H4))
  (hRR:∀D C H' s',(X.s₀.heap.objs.size<=C/\∀p∈X.pn++pins,p.1≠C)->(∃m,s'.heap.Ns C m)->C≠X.env.locals->H' C=none->Inv X pins σ H' s'->(∀h',Kh C s'.heap h'->Inv X pins σ H' {s' with heap:=h'})->Q (.ref D) H'->RR (.ref D) C (.ok .next) s'):
  wpAny (model X.prog X.w) X.A (newList []) (fun acc s₃=>wpAny (model X.prog X.w) X.A (newFunctionEnv scope X.env.globals (cq scope.names X.env.cells []) [] X.env.qual none .none (some X.env)) (fun cenv s₄=>
   codeAny (model X.prog X.w) X.A (.compStart (.ListComp elt [⟨.Name x px,iter,ifs,0⟩] scope pos) 0 (.ref it) acc {cenv with scope:=relabel scope X.env}) (RR acc cenv.locals) s₄) E s₃) E s2:=by
 have hf2:H2 s2.heap.objs.size=none:=I2.fresh
 refine JF (Oh S.nocell (by intro y hy;simp at hy) (fun h₁ hns₁ hsb₁=>?_) S.kind)
 dsimp only at hns₁ hsb₁⊢
 have I3:Inv X pins σ (upd H2 s2.heap.objs.size (.lst [])) {s2 with heap:=s2.heap.push {cls:=.type "list",data:=.seq ([]:List Gt).toArray}}:=I2.lnew (t':=s2.toks) (ys:=[]) .nil (Kf _)
 obtain⟨W,⟨m0,w0⟩,turn⟩:=hW _ hf2
 generalize hD:s2.heap.objs.size=D at I3 w0 turn hf2⊢
 generalize hs3:({s2 with heap:=s2.heap.push {cls:=.type "list",data:=.seq ([]:List Gt).toArray}}:IQ)=s3 at I3
 have hp3:s2.heap.push {cls:=.type "list",dict:=none,data:=.seq ([]:List Gt).toArray}=s3.heap:=by rw[<-hs3]
 rw[hp3]at hns₁ hsb₁⊢
 have tk3:s2.toks=s3.toks:=by rw[<-hs3]
 generalize hH3:upd H2 D (.lst [])=H3 at I3 w0
 generalize hC:s3.heap.objs.size=C at hns₁ hsb₁⊢
 have keep2:∀b o,s2.heap.get? b=some o->s3.heap.get? b=some o:=fun b o e=>by rw[<-hp3];exact gV _ e
 have keep3:∀b o,s3.heap.get? b=some o->h₁.get? b=some o:=fun b o e=>hsb₁.extBut b o (by rw[<-hC];exact Jb (IS e)) (gV _ e)
 have st3:tn 0 s3.heap:=T.keep _ _ _ st2 fun b _ o e=>keep2 b o e
 have st4:tn 0 h₁:=T.keep _ _ _ st3 fun b _ o e=>keep3 b o e
 have fp3:∀b∈fp,H3 b=none/\b<C:=fun b hb=>by
  obtain⟨o,e,_⟩:=T.obj _ _ st2 b hb
  refine⟨?_,by rw[<-hC];exact IS (keep2 b o e)⟩
  rw[<-hH3,ap (by rw[<-hD];exact Jb (IS e))]
  exact(f2 b hb).1
 have hcells:∀{z:Str}{c:Addr},(cq scope.names X.env.cells []).lookup z=some c->X.env.cells.lookup z=some c:=fun h=>ji (fun _ _ q=>by cases q) h
 have hX:(aM X scope C (x::ys) s3 H3 fp).Ok:=by
  refine⟨I3.ok.mod,S.kind,I3.ok.glob,I3.ok.blt,MX hC,fun y z c h1 h2=>I3.ok.inj y z c (hcells h1) (hcells h2),fun y hy=>?_,fun y c h _=>absurd (show false=true from h) Jc,I3.ok.hd,I3.ok.frames,.inl rfl,fun b hb=>⟨Jb (fp3 b hb).2,fun y c h=>(f2 b hb).2.2.2.2.1 y c (hcells h)⟩,fun b o e=>I3.bs b o e,JQ I3.ok.bsz I3.sz,fun b o e hb=>?_,fun b hb z=>?_,I3.stack,I3.stkFree⟩
  ·have hy:(relabel scope X.env).names.lookup y=some .cell\/(relabel scope X.env).names.lookup y=some .free:=hy
   have hm:(y,Lo)∈scope.names:=by
    rcases hy with q|q
    ·exact eD S.nocell q (.inl rfl)
    ·exact eD S.nocell q (.inr rfl)
   have hs:∃c,X.env.cells.lookup y=some c:=by
    by_cases hk:X.env.kindOf y=some .cell\/X.env.kindOf y=some .free
    ·exact I3.ok.has y hk
    ·exact absurd (gK hcap (S.all _ hm rfl)) hk
   exact JR.mp (fO hm (JR.mpr hs))
  ·rcases(f2 b hb).2.2.2.1 with z|z
   ·exact I3.ok.noex b o e z
   ·exact absurd (Jm (IS e) (JQ I3.ok.bsz z)) (KG _)
  ·rcases IY.mp (I3.stkSub b z)with q|q
   ·exact(f2 b hb).2.1 q
   ·exact(f2 b hb).2.2.1 q
 have I4:Inv (aM X scope C (x::ys) s3 H3 fp) [] (none::aR σ is) H3 {s2 with heap:=h₁,toks:=s2.toks+([]:List (Str×Gt)).length}:=by
  obtain⟨m3,hm3,hl3⟩:=id I3.loc
  refine⟨hX,?_,?_,Un.kept keep3,⟨_,hns₁,fun i y v e1 e2 e3=>?_⟩,fun y c e=>?_,?_,fun y c e=>I3.freeC y c (hcells e),fun p hp=>absurd (show p∈([]:List (Addr×Obj))from hp) (by simp),I3.hok.kept keep3,?_⟩
  ·show s2.os=s3.os
   rw[<-hs3]
  ·have:=I2.bare;exact this
  ·cases i with
   |zero=>simp at e2
   |succ j=>
    obtain⟨u,r,hfr,c,ec,ic⟩:=lX hcap hl3 trivial j y v (by have e1':(x::ys)[j+1]? =some y:=e1;simpa using e1') (by simpa using e2)
    have hk:=iZ (env:=X.env) hfr
    obtain⟨c',ec'⟩:=JR.mp (fO (cs:=[]) (iI hfr) (by rw[ec];rfl) (cells:=X.env.cells))
    have:c'=c:=by have:=hcells ec';rw[ec]at this;exact(Js this).symm
    subst this
    obtain⟨o,ho,hd⟩:=ic
    exact⟨u,r,.inr ⟨hk,c',ec',o,keep3 _ _ ho,hd⟩⟩
  ·obtain⟨v,o,ho,hd⟩:=I3.cell y c (hcells e)
   exact⟨v,o,keep3 _ _ ho,hd⟩
  ·have:=I3.hok.fresh (a:=C) (MX hC)
   exact this
  ·have:=oY hcap
   show(none::aR σ is).length=(x::ys).length
   simp[aR,this]
 have lenσ:∀v:Option V,(v::aR σ is).set 0=fun w=>w::aR σ is:=fun v=>rfl
 have hown:(relabel scope X.env).names.lookup x=some .local:=fS S.own
 have loop:codeAny (model X.prog X.w) X.A (.compLoop (.ListComp elt [⟨.Name x px,iter,ifs,0⟩] scope pos) 0 (.ref it) (.ref D) (compEnvC scope (cq scope.names X.env.cells []) C X.env)) (RR (.ref D) C)
   {s2 with heap:=h₁,toks:=s2.toks+([]:List (Str×Gt)).length}:=by
  have fin:∀{H':Hp}{v:Option V}{s':IQ},Inv (aM X scope C (x::ys) s3 H3 fp) [] (v::aR σ is) H' s'->Q (.ref D) H'->RR (.ref D) C (.ok .next) s':=fun{H' v s'} J q=>by
   obtain⟨m',hm',_⟩:=J.loc
   have hCL:C≠X.env.locals:=KQ (by rw[<-hC];exact Jb I3.lt)
   have back:∀h',Kh C s'.heap h'->Inv X pins σ H' {s' with heap:=h'}:=fun h' hs'=>by
    have os':s'.os=s3.os:=J.os
    refine I3.call' (s':={s' with heap:=h'}) (ch:=fp) os' ⟨fun b o e n hb hx=>?_,fun b o e n hb hx=>?_,fun b o e n hx=>J.base.free b o e n hx,fun b o e hx=>?_,J.base.tups,J.base.frzs,J.base.tbls⟩ (fun b o e=>?_) J.bare fun b hb=>?_
    ·exact hs'.extBut b o (by rw[<-hC];exact Jb (IS e)) (J.base.keep b o e n hb hx)
    ·obtain⟨sl,e1⟩:=J.base.slot b o e n hb hx
     exact⟨sl,hs'.extBut b _ (by rw[<-hC];exact Jb (IS e)) e1⟩
    ·obtain⟨o',e1⟩:=J.base.there b o e hx
     exact⟨o',hs'.extBut b _ (by rw[<-hC];exact Jb (IS e)) e1⟩
    ·refine(J.hok b o e).stay (fun c w' hc q=>(hs'.2 c ?_).trans q) (fun _ q=>q) fun _ _ q=>q
     have fC:H' C=none:=J.free
     rintro rfl
     rcases hc with rfl|hc
     ·rw[fC]at e;cases e
     ·rw[fC]at hc;cases hc
    ·obtain⟨_,a1,_,a2,a3,a4⟩:=f2 b hb
     exact⟨a2,a1,a3,a4⟩
   refine hRR D C H' s' ⟨by rw[<-hC];exact I3.sz,fun p hp=>by rw[<-hC];exact Jb (IS (I3.pin p hp).1)⟩ ⟨m',hm'⟩ hCL J.free ?_ back q
   have:=back s'.heap (.refl ..)
   exact this
  have stat:∀{H':Hp},(∀b∈fp,H' b=none)->∀b∈fp,fA (aM X scope C (x::ys) s3 H3 fp) [] H' b:=fun hn b hb=>by
   obtain⟨_,a1,a5,a2,a3,a4⟩:=f2 b hb
   refine⟨hn b hb,Jb (fp3 b hb).2,fun z=>?_,.inl hb,fun y c e=>a3 y c (hcells e),fun p hp=>absurd (show p∈([]:List (Addr×Obj))from hp) (by simp)⟩
   rcases IY.mp (I3.stkSub b z)with q|q
   ·exact a1 q
   ·exact a5 q
  have turnAt:∀n s,(∃i v ys' H',Inv (aM X scope C (x::ys) s3 H3 fp) [] (v::aR σ is) H' s/\tn i s.heap/\(∀b∈fp,H' b=none)/\W i n ys' H')->
    wpAny (model X.prog X.w) X.A (pyNext (.ref it)) (fun r s₁=>match r with
     |none=>RR (.ref D) C (.ok .next) s₁
     |some u=>wpAny (model X.prog X.w) X.A (letOwnedTupleGo (.Name x px) (.ref it) u) (fun _ s₁=>wpAny (model X.prog X.w) X.A (assign (.Name x px) (compEnvC scope (cq scope.names X.env.cells []) C X.env) u) (fun _ s₂=>
      ∃(xx:V)(i:Nat)(ys':List V)(H3' H6:Hp)(pl:List (Addr×Obj)),Inv (aM X scope C (x::ys) s3 H3 fp) ([]++pl) (some xx::aR σ is) H6 s₂/\
       (∀s7 v7 H7,Inv (aM X scope C (x::ys) s3 H3 fp) ([]++pl) (v7::aR σ is) H7 s7->Inv (aM X scope C (x::ys) s3 H3 fp) [] (v7::aR σ is) H7 s7/\tn (i+1) s7.heap/\∀b∈fp,H7 b=none)/\
       (tc (some xx::aR σ is) H6 fun b H4=>if b=true then te (some xx::aR σ is) H4 fun y H5=>H5 D=some (.lst ys')/\ys'.length<sizeLine/\∃m',m'<n/\W (i+1) m' (ys'++[y]) (upd H5 D (.lst (ys'++[y])))
        else ∃m',m'<n/\W (i+1) m' ys' H4)) (fun _ _=>False) s₁) (fun _ _=>False) s₁) (fun _ _=>False) s:=by
   rintro n s ⟨i,v,ys',H',J,st,fr,w'⟩
   rcases turn i n ys' H' w' with⟨stop,qn⟩|⟨go,step⟩
   ·refine thn (T.done (aM X scope C (x::ys) s3 H3 fp) rfl rfl rfl hc i [] s _ H' (fun _ _=>False) J (stat fr) st stop) fun r s4 ⟨hr,J4⟩=>?_
    subst hr
    exact fin J4 qn
   ·refine thn (T.item (aM X scope C (x::ys) s3 H3 fp) rfl rfl rfl hc i [] s _ H' (fun _ _=>False) J (stat fr) st go) fun r s4 ⟨u,hr,h4⟩=>?_
    subst hr
    refine thn h4 fun _ s5 ⟨xx,H5,J5,r5,y5,st5,fr5⟩=>?_
    have J5':=J5.pinned (stat fr5) (T.obj _ _ st5)
    refine SI (iq (i:=0) J5' S.nd rfl (.inl hown) r5 (fun s6 J6=>?_) (.inr hown))
    refine⟨xx,i,ys',H5,H5,hU fp s5.heap,J6,fun s7 v7 H7 J7=>⟨J7.unpinned,T.keep _ _ _ st5 fun b hb o e=>(J7.pin (b,o) (Jv _ (Jv _ (dF hb e)))).1,fun b hb=>?_⟩,step xx H5 y5⟩
    obtain⟨o,e,d⟩:=T.obj _ _ st5 b hb
    exact(J7.pin (b,o) (Jv _ (Jv _ (dF hb e)))).2.1
  have start0:∃i v ys' H',Inv (aM X scope C (x::ys) s3 H3 fp) [] (v::aR σ is) H' {s2 with heap:=h₁,toks:=s2.toks+([]:List (Str×Gt)).length}/\tn i h₁/\(∀b∈fp,H' b=none)/\W i m0 ys' H':=
   ⟨0,none,[],H3,I4,st4,fun b hb=>(fp3 b hb).1,w0⟩
  have emit:∀(n:Nat)(xx:V)(i:Nat)(ys':List V)(H4:Hp)(pl:List (Addr×Obj))(s₂:IQ),Inv (aM X scope C (x::ys) s3 H3 fp) ([]++pl) (some xx::aR σ is) H4 s₂->
    (∀s7 v7 H7,Inv (aM X scope C (x::ys) s3 H3 fp) ([]++pl) (v7::aR σ is) H7 s7->Inv (aM X scope C (x::ys) s3 H3 fp) [] (v7::aR σ is) H7 s7/\tn (i+1) s7.heap/\∀b∈fp,H7 b=none)->
    (te (some xx::aR σ is) H4 fun y H5=>H5 D=some (.lst ys')/\ys'.length<sizeLine/\∃m',m'<n/\W (i+1) m' (ys'++[y]) (upd H5 D (.lst (ys'++[y]))))->
    wpAny (model X.prog X.w) X.A (eval elt (compEnvC scope (cq scope.names X.env.cells []) C X.env)) (fun y s₃=>wpAny (model X.prog X.w) X.A (call (.builtin "list.append") [.ref D,y]) (fun _ s₄=>
     ∃m,m<n/\∃i v ys' H',Inv (aM X scope C (x::ys) s3 H3 fp) [] (v::aR σ is) H' s₄/\tn i s₄.heap/\(∀b∈fp,H' b=none)/\W i m ys' H') (fun _ _=>False) s₃) (fun _ _=>False) s₂:=by
   intro n xx i ys' H4 pl s₂ J2 back q
   refine thn (he C s3 H3 fp ([]++pl) s₂ _ H4 _ J2 q) fun y s₃ ⟨yv,H5,J3,r3,q1,q2,q3⟩=>?_
   refine thn (bG (X:=aM X scope C (x::ys) s3 H3 fp) ([]++pl) s₃ _ H5 (.ref D) [yv] (.ref D) [y] (fun v H7=>v=.non/\H7=upd H5 D (.lst (ys'++[yv]))) J3 rfl (.cons r3 .nil) ⟨D,ys',yv,rfl,rfl,q1,q2,rfl,rfl⟩) fun _ s₄ ⟨_,H7,J4,_,_,e7⟩=>?_
   subst e7
   obtain⟨m',hm',w'⟩:=q3
   obtain⟨b1,b2,b3⟩:=back s₄ _ _ J4
   exact⟨m',hm',i+1,some xx,ys'++[yv],_,b1,b2,b3,w'⟩
  have ex0:∀{α:Type}{t:Sem α}{Q':α->IQ->Prop}{E':Gt->IQ->Prop}{s:IQ},wpAny (model X.prog X.w) X.A t Q' (fun _ _=>False) s->wpAny (model X.prog X.w) X.A t Q' E' s:=fun h=>Ju h (fun _ _ q=>q) fun _ _ q=>q.elim
  cases ifs with
  |nil=>
   have htc:tc=fun _ H Q=>Q true H:=hif C s3 H3 fp
   subst htc
   refine fg (fun n s=>∃i v ys' H',Inv (aM X scope C (x::ys) s3 H3 fp) [] (v::aR σ is) H' s/\tn i s.heap/\(∀b∈fp,H' b=none)/\W i n ys' H') (fun n s hI=>?_) m0 start0
   refine Ju (turnAt n s hI) (fun r s₁ h₁=>?_) fun _ _ q=>q.elim
   cases r with
   |none=>exact h₁
   |some u=>
    refine Ju h₁ (fun _ s₁ h₁=>Ju h₁ (fun _ s₂ h₂=>?_) fun _ _ q=>q.elim) fun _ _ q=>q.elim
    obtain⟨xx,i,ys',_,H6,pl,J2,back,q⟩:=h₂
    dsimp only at q
    rw[if_pos rfl]at q
    exact Ju (emit n xx i ys' H6 pl s₂ J2 back q) (fun y s₃ h₃=>ex0 h₃) fun _ _ q=>q.elim
  |cons c r0=>
   cases r0 with
   |cons _ _=>exact(hif C s3 H3 fp).elim
   |nil=>
    have hpt:PT (aM X scope C (x::ys) s3 H3 fp) c tc:=hif C s3 H3 fp
    refine fj (fun n s=>∃i v ys' H',Inv (aM X scope C (x::ys) s3 H3 fp) [] (v::aR σ is) H' s/\tn i s.heap/\(∀b∈fp,H' b=none)/\W i n ys' H') (fun n s hI=>?_) m0 start0
    refine Ju (turnAt n s hI) (fun r s₁ h₁=>?_) fun _ _ q=>q.elim
    cases r with
    |none=>exact h₁
    |some u=>
     refine Ju h₁ (fun _ s₁ h₁=>Ju h₁ (fun _ s₂ h₂=>?_) fun _ _ q=>q.elim) fun _ _ q=>q.elim
     obtain⟨xx,i,ys',_,H6,pl,J2,back,q⟩:=h₂
     refine Ju (hpt ([]++pl) s₂ _ H6 _ J2 q) (fun b s₃ h₃=>?_) fun _ _ q=>q.elim
     obtain⟨H4,J4,q4⟩:=h₃
     cases b with
     |true=>
      rw[if_pos rfl]at q4⊢
      exact Ju (emit n xx i ys' H4 pl s₃ J4 back q4) (fun y s₃ h₃=>ex0 h₃) fun _ _ q=>q.elim
     |false=>
      rw[if_neg Jc]at q4⊢
      obtain⟨m',hm',w'⟩:=q4
      obtain⟨b1,b2,b3⟩:=back s₃ _ _ J4
      exact⟨m',hm',i+1,some xx,ys',_,b1,b2,b3,w'⟩
 exact Re loop (T.self X.A 0 _ _ _ st4 loop)
end
section
variable {X:Cx}
def As {scope:Scope}{x:Str}{ys:List Str}{is:List Nat}(ok:X.Ok)(S:gO scope x ys)(hcap:fc X scope ys is):closureFor scope X.env=pure (cq scope.names X.env.cells []):=
 jr fun y hy hk=>by
  obtain⟨c,e⟩:=ok.has y.1 (gK hcap (S.all y hy hk))
  rw[e];rfl
def zd {elt iter:Expr}{ifs:List Expr}{x:Str}{px pos:Pos}{scope:Scope}{ys:List Str}{is:List Nat}{wi:TI}{tc:TT}{te:TE}
  (hc:X.calm=true)(S:gO scope x ys)(hcap:fc X scope ys is)(hi:PI X (.Name x px) iter wi)
  (hif:∀C s H fp,pC (aM X scope C (x::ys) s H fp) ifs tc)(he:∀C s H fp,PE (aM X scope C (x::ys) s H fp) elt te)
  (hs:∀x,foldedSetIterable iter X.env x=pure x:=by intro _;rfl):PE X (.ListComp elt [⟨.Name x px,iter,ifs,0⟩] scope pos) (jF is wi tc te):=by
 intro pins s σ H Q I h
 rw[eval_ListComp]
 refine Qz (use:=none) rfl hs (As I.ok S hcap) S.kind S.names (thn (hi pins s σ H _ I h) fun v s1 h1=>thn h1 fun itv s2 h2=>?_)
 obtain⟨it,fp,tn,J,H2,rfl,I2,T,st2,f2,hW⟩:=h2
 refine ue (RR:=fun acc C=>compPost (model X.prog X.w) X.A X.xe none (EP X pins σ Q) acc C) hc S hcap hif he I2 T st2 f2 hW ?_
 intro D C H' s' hlt hns hne hfr I' back q
 obtain⟨m,hm⟩:=hns
 exact⟨m,hm,fun h' hs'=>⟨.ref D,H',back h' hs',rfl,q⟩⟩
end
def tyN (H:Hp):V->Option String
 |.non=>some "NoneType"
 |.bl _=>some "bool"
 |.int _=>some "int"
 |.str _=>some "str"
 |.ref a=>match H a with
  |some (.lst _)=>some "list"
  |some (.frz _ (.lst _))=>some "list"
  |some (.tup _)=>some "tuple"
  |some (.dK _)=>some "dict"
  |some (.dT _)=>some "dict"
  |_=>none
 |_=>none
def BA {K:If}{H:Hp}{x:V}{t:String}(h:tyN H x=some t):fv K H x (.type t):=by
 cases x with
 |non=>cases h;exact .non
 |bl b=>cases h;exact .bl b
 |int i=>cases h;exact .int i
 |str x=>cases h;exact .str x
 |byt _=>cases h
 |flt _=>cases h
 |ty _=>cases h
 |ref a=>
  unfold tyN at h
  dsimp only at h
  split at h
  ·rename_i e;cases h;exact .lst e
  ·rename_i e;cases h;exact .frz e
  ·rename_i e;cases h;exact .tup e
  ·rename_i e;cases h;exact .dK e
  ·rename_i e;cases h;exact .dT e
  ·cases h
def tyL:List String:=["NoneType","bool","int","str","list","tuple","dict"]
def CD {H:Hp}{x:V}{t:String}(h:tyN H x=some t):t∈tyL:=by
 cases x with
 |non=>cases h;decide
 |bl b=>cases h;decide
 |int i=>cases h;decide
 |str x=>cases h;decide
 |byt _=>cases h
 |flt _=>cases h
 |ty _=>cases h
 |ref a=>
  unfold tyN at h
  dsimp only at h
  split at h<;>first|(cases h;decide)|cases h
def isI (t T:String):Bool:=t==T||(T=="int"&&t=="bool")
def Cb (K:If):∀t∈tyL,∀T∈["int","bool","str","tuple","list","dict"],W.kitOne K (.type t) (.type T)=some (isI t T):=by
 intro t ht T hT
 simp only[tyL,IY,Jl,or_false]at ht hT
 rcases ht with rfl|rfl|rfl|rfl|rfl|rfl|rfl<;>rcases hT with rfl|rfl|rfl|rfl|rfl|rfl<;>(unfold W.kitOne;first|rfl|decide+kernel|(simp only[W.kitCls];rfl))
section
variable {X:Cx}
def ww:bI X (.builtin "isinstance") (fun xs H Q=>∃x T t,xs=[x,.ty T]/\T∈["int","bool","str","tuple","list","dict"]/\tyN H x=some t/\Q (.bl (isI t T)) H):=by
 intro pins s σ H xs us Q I r h
 obtain⟨x,T,t,rfl,hT,ht,q⟩:=h
 obtain⟨u,w',rfl,r1,r2⟩:=kS r
 cases r2
 exact tT I r1 (BA ht) (Cb X.K t (CD ht) T hT) fun tk=>⟨.bl _,H,I.tok tk,rfl,q⟩
end
section
variable {X:Cx}
theorem qC:∀{bs:List Bool}{us:List Gt},aX (bs.map V.bl) us->us=bs.map Lh
 |[],_,.nil=>rfl
 |b::bs,_,.cons r t=>by
  have e:_=Lh b:=r
  rw[qC t,JY,e]
def uj (bs:List Bool):(MN bs.length).all (fun i=>bs.getD i false)=bs.all id:=by
 rw[MQ,Kv,Kv]
 constructor
 ·intro h b hb
  obtain⟨i,hi,e⟩:=MK.mp hb
  have:=h i (NQ.mpr hi)
  simp only[Jk,IR hi,QY]at this
  rw[<-e];exact this
 ·intro h i hi
  have hi:=NQ.mp hi
  simp only[Jk,IR hi,QY]
  exact h _ (MI hi)
def qm {prog:Jd}{w:JL}{A:JK}{bs:List Bool}:TruthOf prog w A (fun i v=>(bs.map Lh).toArray[i]? =some v) (fun i=>bs.getD i false):=by
 intro i v s Q E hP hQ
 have hP:(bs.map Lh)[i]? =some v:=by simpa using hP
 rw[Jr]at hP
 cases e:bs[i]? with
 |none=>rw[e]at hP;cases hP
 |some b=>
  rw[e]at hP
  cases hP
  have hQ':Q b s:=by
   have e2:bs.getD i false=b:=by rw[Jk,e];rfl
   have hQ2:Q (bs.getD i false) s:=hQ
   rw[e2]at hQ2;exact hQ2
  exact KZ (a:=b) rfl hQ'
def xO (hc:X.calm=true):bI X (.builtin "all") (fun xs H Q=>∃(a:Addr)(bs:List Bool),xs=[.ref a]/\H a=some (.lst (bs.map V.bl))/\Q (.bl (bs.all id)) H):=by
 intro pins s σ H xs us Q I r h
 obtain⟨a,bs,rfl,hH,q⟩:=h
 obtain⟨u,rfl,ru⟩:=dU r
 cases ru
 obtain⟨z,its,n,rv,e⟩:=I.hok a _ hH
 have ei:=qC rv
 subst ei
 have hl:s.heap.IsList a (bs.map Lh).toArray:=⟨_,e,rfl,_,rfl⟩
 refine call_all_walk (Nz hl ?_)
 have hne:a≠s.heap.objs.size:=Jb (IS e)
 refine⟨s.heap.objs.size,_,_,_,_,_,_,rfl,Walks.list (by show X.A.handled=none;exact I.ok.hd hc) _ a hne (bs.map Lh).toArray,⟨⟨_,IT _ rfl,rfl,rfl⟩,⟨_,gV _ e,rfl,_,rfl⟩⟩,qm,fun h' tk hk=>?_⟩
 have e2:((bs.map Lh).toArray).size=bs.length:=by simp
 rw[e2,uj]
 refine⟨.bl _,H,I.kept (t':=tk) fun b o hb=>hk b o ?_ (gV _ hb),rfl,q⟩
 intro z
 have:b=s.heap.objs.size:=by simpa using z
 rw[this]at hb
 exact absurd (IS hb) (KG _)
theorem qX:∀{xs:List Str}{us:List Gt},aX (xs.map V.str) us->StrsAre us xs
 |[],_,.nil=>.nil
 |x::xs,_,.cons r t=>by
  obtain⟨tk,e⟩:=(show ∃t,_=MZ x t from r)
  rw[e]
  exact .cons _ _ (qX t)
def yD:V->List V->Hp->VK->Prop:=fun x vs H Q=>∃(z:Str)(a:Addr)(xs:List Str),x=.str z/\vs=[.ref a]/\H a=some (.lst (xs.map V.str))/\(xs.map (·.length)).sum+xs.length*z.length<=16777216/\Q (.str (Txt.join z xs)) H
def zQ:MtM X "str.join" yD:=by
 intro pins s σ H x vs v us Q I rx rv h
 obtain⟨z,a,xs,rfl,rfl,hH,hz,q⟩:=h
 obtain⟨t,rfl⟩:=(show ∃t,v=MZ z t from rx)
 obtain⟨u,rfl,ru⟩:=rv.one
 cases ru
 obtain⟨_,its,n,rv,e⟩:=I.hok a _ hH
 refine join_list (items:=its.toArray) ⟨_,e,rfl,_,rfl⟩ (by simpa using qX rv) hz fun t' k=>⟨.str _,H,I.tok k,⟨_,rfl⟩,q⟩
end
@[irreducible] def Sel (b:Bool)(A B:Prop):Prop:=if b=true then A else B
def Sel.mk {b:Bool}{A B:Prop}(h1:b=true->A)(h2:b=false->B):Sel b A B:=by
 unfold Sel
 cases b with
 |true=>exact h1 rfl
 |false=>exact h2 rfl
def Sel.t {A B:Prop}(h:A):Sel true A B:=.mk (fun _=>h) fun e=>by cases e
def Sel.f {A B:Prop}(h:B):Sel false A B:=.mk (fun e=>by cases e) fun _=>h
def Sel.dec {p A B:Prop}[Decidable p](h1:p->A)(h2:¬p->B):Sel (decide p) A B:=.mk (fun e=>h1 (of_decide_eq_true e)) fun e=>h2 (of_decide_eq_false e)
def Sel.ndec {p A B:Prop}[Decidable p](h1:¬p->A)(h2:p->B):Sel (!decide p) A B:=.mk (fun e=>h1 (by simpa using e)) fun e=>h2 (by simpa using e)
def Sel.yes {b:Bool}{A B:Prop}(e:b=true)(h:A):Sel b A B:=by rw[e];exact .t h
def Sel.no {b:Bool}{A B:Prop}(e:b=false)(h:B):Sel b A B:=by rw[e];exact .f h
def dP {b:Bool}{A B:Prop}(h:Sel b A B):if b=true then A else B:=by unfold Sel at h;exact h
def ae (i:Nat):TE:=fun σ H Q=>match σ[i]? with|some (some v)=>Q v H|_=>False
section
variable {X:Cx}
def PE.imp {e:Expr}{t t':TE}(h:PE X e t)(i:∀σ H Q,t' σ H Q->t σ H Q):PE X e t':=fun pins s σ H Q I q=>h pins s σ H Q I (i _ _ _ q)
def OpR.imp {f:Gt->Gt->Sem Gt}{r r':R2}(h:OpR X f r)(i:∀x y H Q,r' x y H Q->r x y H Q):OpR X f r':=fun pins s σ H x y v u Q I rx ry q=>h pins s σ H x y v u Q I rx ry (i _ _ _ _ q)
def qv (i:Nat){x:Str}{pos:Pos}(hN:X.N[i]?=some x:=by rfl)(hv:Vis X.env.scope x:=by first|exact Or.inl rfl|exact RE (Or.inl rfl)|exact RE (RE rfl))(hd:(x==("__debug__":Str))=false:=by decide)
  (hcd:(x==("__classdict__":Str))=false:=by decide):PE X (.Name x pos) (ae i):=(AB hN hv hd hcd).imp fun σ H Q q=>by
 unfold ae at q
 split at q
 ·rename_i v e;exact⟨v,e,q⟩
 ·exact q.elim
def qgi {x:Str}{i:Int}{pos:Pos}(hm:∃t,X.mg x=some (.int i t))(hg:Gl X x:=by rfl)(hd:(x==("__debug__":Str))=false:=by decide):PE X (.Name x pos) (tC (.int i)):=by
 obtain⟨t,e⟩:=hm
 exact zH hg e ⟨t,rfl⟩ hd
def bV:R2:=fun x y H Q=>match x,y with|.int i,.int j=>Q (.int (i- j)) H|_,_=>False
def cb:OpR X (binaryOp .Sub) bV:=BE.imp fun x y H Q q=>by
 unfold bV at q
 split at q
 ·exact⟨_,_,rfl,rfl,q⟩
 ·exact q.elim
def zI:OpR X (binaryOp .Mult) (rI IntMulOk fun i j=>.int (i*j)):=opI fun _ _ _ _ _ _ _ hc q=>mul_int q hc
def xA:R2:=fun x y H Q=>match x,y with
 |.int i,.int j=>IntMulOk i j/\Q (.int (i*j)) H
 |_,_=>False
def IK:OpR X (binaryOp .Mult) xA:=zI.imp fun x y H Q q=>by
 unfold xA at q
 split at q
 ·exact⟨_,_,rfl,rfl,q.1,q.2⟩
 ·exact q.elim
def bE:R2:=fun x y H Q=>match x,y with|.int i,.int j=>0<j/\Q (.int (i%j)) H|_,_=>False
def bK:OpR X (binaryOp .Mod) bE:=CZ.imp fun x y H Q q=>by
 unfold bE at q
 split at q
 ·exact⟨_,_,rfl,rfl,q.1,q.2⟩
 ·exact q.elim
def vM:R2:=fun x y H Q=>match x,y with|.int i,.int j=>(0<=j/\j<=1000000/\i.natAbs<2^64)/\Q (.int (i^j.toNat)) H|_,_=>False
def HK:OpR X (binaryOp .Pow) vM:=Dp.imp fun x y H Q q=>by
 unfold vM at q
 split at q
 ·exact⟨_,_,rfl,rfl,q.1,q.2⟩
 ·exact q.elim
def gQ:R2:=fun x y H Q=>match x,y with|.int i,.int j=>(0<=j/\j<=1000000/\i.natAbs<2^64)/\Q (.int (i*2^j.toNat)) H|_,_=>False
def iU:OpR X (binaryOp .LShift) gQ:=Ca.imp fun x y H Q q=>by
 unfold gQ at q
 split at q
 ·exact⟨_,_,rfl,rfl,q.1,q.2⟩
 ·exact q.elim
def jw:R2:=fun x y H Q=>match x,y with|.int i,.int j=>0<=j/\Q (.int (i/2^j.toNat)) H|_,_=>False
def lI:OpR X (binaryOp .RShift) jw:=AJ.imp fun x y H Q q=>by
 unfold jw at q
 split at q
 ·exact⟨_,_,rfl,rfl,q.1,q.2⟩
 ·exact q.elim
def rl:R2:=fun x y H Q=>match x,y with|.int i,.int j=>Q (.int (Mf i j)) H|_,_=>False
def CU:OpR X (binaryOp .BitXor) rl:=BH.imp fun x y H Q q=>by
 unfold rl at q
 split at q
 ·exact⟨_,_,rfl,rfl,q⟩
 ·exact q.elim
def sh:R2:=fun x y H Q=>match x,y with|.int i,.int j=>Q (.int (Lu i j)) H|_,_=>False
def Fz:OpR X (binaryOp .BitAnd) sh:=Dz.imp fun x y H Q q=>by
 unfold sh at q
 split at q
 ·exact⟨_,_,rfl,rfl,q⟩
 ·exact q.elim
def mLt:R2:=fun x y H Q=>match x,y with|.int i,.int j=>Q (.bl (decide (i<j))) H|_,_=>False
def oLt:OpR X (compareOp .Lt) mLt:=Eh.imp fun x y H Q q=>by
 unfold mLt at q
 split at q
 ·exact⟨_,_,rfl,rfl,q⟩
 ·exact q.elim
def mLe:R2:=fun x y H Q=>match x,y with|.int i,.int j=>Q (.bl (decide (i<=j))) H|_,_=>False
def oLe:OpR X (compareOp .LtE) mLe:=EF.imp fun x y H Q q=>by
 unfold mLe at q
 split at q
 ·exact⟨_,_,rfl,rfl,q⟩
 ·exact q.elim
def mGt:R2:=fun x y H Q=>match x,y with|.int i,.int j=>Q (.bl (decide (j<i))) H|_,_=>False
def oGt:OpR X (compareOp .Gt) mGt:=DO.imp fun x y H Q q=>by
 unfold mGt at q
 split at q
 ·exact⟨_,_,rfl,rfl,q⟩
 ·exact q.elim
def mEq:R2:=fun x y H Q=>match x,y with
 |.int i,.int j=>Q (.bl (decide (i=j))) H
 |.str i,.str j=>Q (.bl (decide (i=j))) H
 |.bl i,.bl j=>Q (.bl (decide (i=j))) H
 |.non,.non=>Q (.bl true) H
 |.non,.int _=>Q (.bl false) H|.int _,.non=>Q (.bl false) H|.non,.bl _=>Q (.bl false) H|.bl _,.non=>Q (.bl false) H|.non,.str _=>Q (.bl false) H|.str _,.non=>Q (.bl false) H
 |.int _,.str _=>Q (.bl false) H|.str _,.int _=>Q (.bl false) H|.bl _,.str _=>Q (.bl false) H|.str _,.bl _=>Q (.bl false) H
 |_,_=>False
def iW {α:Type}[DecidableEq α]{f:α->V}(hf:∀a b,f a=f b->a=b)(a b:α):decide (f a=f b)=decide (a=b):=by
 by_cases h:a=b
 ·subst h;simp
 ·rw[decide_eq_false h,decide_eq_false fun e=>h (hf a b e)]
def oEq:OpR X (compareOp .Eq) mEq:=Ex.imp fun x y H Q q=>by
 unfold mEq at q
 split at q
 ·exact⟨rfl,by rw[iW (f:=V.int) fun _ _ e=>V.int.inj e];exact q⟩
 ·exact⟨rfl,by rw[iW (f:=V.str) fun _ _ e=>V.str.inj e];exact q⟩
 ·exact⟨rfl,by rw[iW (f:=V.bl) fun _ _ e=>V.bl.inj e];exact q⟩
 ·exact⟨rfl,by simpa using q⟩
 all_goals first|exact q.elim|exact⟨rfl,q⟩
def mNe:R2:=fun x y H Q=>match x,y with
 |.int i,.int j=>Q (.bl (!decide (i=j))) H
 |.str i,.str j=>Q (.bl (!decide (i=j))) H
 |.bl i,.bl j=>Q (.bl (!decide (i=j))) H
 |.non,.non=>Q (.bl false) H
 |.non,.int _=>Q (.bl true) H|.int _,.non=>Q (.bl true) H|.non,.bl _=>Q (.bl true) H|.bl _,.non=>Q (.bl true) H|.non,.str _=>Q (.bl true) H|.str _,.non=>Q (.bl true) H
 |.int _,.str _=>Q (.bl true) H|.str _,.int _=>Q (.bl true) H|.bl _,.str _=>Q (.bl true) H|.str _,.bl _=>Q (.bl true) H
 |_,_=>False
def oNe:OpR X (compareOp .NotEq) mNe:=FK.imp fun x y H Q q=>by
 unfold mNe at q
 split at q
 ·exact⟨rfl,by rw[iW (f:=V.int) fun _ _ e=>V.int.inj e];exact q⟩
 ·exact⟨rfl,by rw[iW (f:=V.str) fun _ _ e=>V.str.inj e];exact q⟩
 ·exact⟨rfl,by rw[iW (f:=V.bl) fun _ _ e=>V.bl.inj e];exact q⟩
 ·exact⟨rfl,by simpa using q⟩
 all_goals first|exact q.elim|exact⟨rfl,q⟩
def we:R2:=fun x y H Q=>match y with|.non=>Q (.bl (match x with|.non=>true|_=>false)) H|_=>False
def oIs:OpR X (compareOp .Is) we:=AX.imp fun x y H Q q=>by
 unfold we at q
 split at q
 ·refine⟨rfl,?_⟩
  cases x<;>simpa using q
 ·exact q.elim
def aO (t:TE):TT:=fun σ H Q=>t σ H fun x H'=>match x with|.bl k=>Q k H'|_=>False
def qtc {op:Rw}{r:R2}{a b:Expr}{ta tb:TE}{pos:Pos}(ho:OpR X (compareOp op) r)(ha:PE X a ta)(hb:PE X b tb)(hm:behindInMarks op b=false:=by first|exact kT _|rfl):PT X (.Compare a [op] [b] pos) (aO (tOp r ta tb)):=by
 intro pins s σ H Q I h
 refine wpAny_isTrue_Compare1 (thn (ha pins s σ H _ I h) fun v s1 ⟨x,H1,I1,r1,q1⟩=>thn (hb pins s1 σ H1 _ I1 q1) fun u s2 ⟨y,H2,I2,r2,q2⟩=>
  thn (ho pins s2 σ H2 x y v u _ I2 r1 r2 q2) fun c s3 ⟨z,H3,I3,r3,q3⟩=>?_) hm
 cases z<;>first|exact q3.elim|(cases r3;exact Lp ⟨H3,I3,q3⟩)
def qc {op:Rw}{r:R2}{a b:Expr}{ta tb:TE}{pos:Pos}(ho:OpR X (compareOp op) r)(ha:PE X a ta)(hb:PE X b tb)(hm:behindInMarks op b=false:=by first|exact kT _|rfl):PE X (.Compare a [op] [b] pos) (tOp r ta tb):=yZ ho ha hb hm
def ej (r r':R2)(ta tb tc:TE):TE:=fun σ H Q=>ta σ H fun x H1=>tb σ H1 fun y H2=>r x y H2 fun z H3=>match z with
 |.bl k=>Sel k (tc σ H3 fun w' H4=>r' y w' H4 Q) (Q (.bl false) H3)
 |_=>False
def qch {op op':Rw}{r r':R2}{a b c:Expr}{ta tb tc:TE}{pos:Pos}(ho:OpR X (compareOp op) r)(ho':OpR X (compareOp op') r')(ha:PE X a ta)(hb:PE X b tb)(hc:PE X c tc)
  (hm:lastMarks [op,op'] [b,c]=false:=by with_unfolding_all rfl):PE X (.Compare a [op,op'] [b,c] pos) (ej r r' ta tb tc):=by
 intro pins s σ H Q I h
 refine Compare_chain (thn (ha pins s σ H _ I h) fun v s1 ⟨x,H1,I1,r1,q1⟩=>chain_link (thn (hb pins s1 σ H1 _ I1 q1) fun u s2 ⟨y,H2,I2,r2,q2⟩=>
  thn (ho pins s2 σ H2 x y v u _ I2 r1 r2 q2) fun d s3 ⟨z,H3,I3,r3,q3⟩=>?_)) hm
 cases z<;>first|exact q3.elim|skip
 rename_i k
 cases r3
 refine Lp ?_
 have q3:=dP q3
 cases k with
 |false=>exact ite_ff ⟨.bl false,H3,I3,rfl,q3⟩
 |true=>exact ite_tt (chain_last (thn (hc pins s3 σ H3 _ I3 q3) fun w' s4 ⟨z',H4,I4,r4,q4⟩=>ho' pins s4 σ H4 y z' u w' Q I4 r2 r4 q4))
def Ho {op op':Rw}{r r':R2}{a b c:Expr}{ta tb tc:TE}{pos:Pos}(ho:OpR X (compareOp op) r)(ho':OpR X (compareOp op') r')(ha:PE X a ta)(hb:PE X b tb)(hc:PE X c tc)
  (hm:lastMarks [op,op'] [b,c]=false:=by with_unfolding_all rfl):PT X (.Compare a [op,op'] [b,c] pos) (aO (ej r r' ta tb tc)):=by
 intro pins s σ H Q I h
 refine isTrue_chain (thn (ha pins s σ H _ I h) fun v s1 ⟨x,H1,I1,r1,q1⟩=>test_link (thn (hb pins s1 σ H1 _ I1 q1) fun u s2 ⟨y,H2,I2,r2,q2⟩=>
  thn (ho pins s2 σ H2 x y v u _ I2 r1 r2 q2) fun d s3 ⟨z,H3,I3,r3,q3⟩=>?_)) hm
 cases z<;>first|exact q3.elim|skip
 rename_i k
 cases r3
 refine Lp ?_
 have q3:=dP q3
 cases k with
 |false=>exact ite_ff ⟨H3,I3,q3⟩
 |true=>
  refine ite_tt (test_last (thn (hc pins s3 σ H3 _ I3 q3) fun w' s4 ⟨z',H4,I4,r4,q4⟩=>thn (ho' pins s4 σ H4 y z' u w' _ I4 r2 r4 q4) fun d' s5 ⟨z2,H5,I5,r5,q5⟩=>?_))
  cases z2<;>first|exact q5.elim|(cases r5;exact Lp ⟨H5,I5,q5⟩)
def bQ (K:If)(t:TE):TT:=fun σ H Q=>t σ H fun x H'=>match x with
 |.bl k=>Q k H'
 |.non=>Q false H'
 |.int i=>Q (i !=0) H'
 |x=>∃k,AM K x H' k/\Q k H'
def qtb {e:Expr}{t:TE}(h:PE X e t)(he:∀whole,isTrue e X.env whole=(do let v<-whole;standAt e.pos;holding [v] (truthy v)):=by intro _;rfl):PT X e (bQ X.K t):=by
 intro pins s σ H Q I q
 refine isTrue_plain (thn (h pins s σ H _ I q) fun v s1 ⟨x,H1,I1,r1,q1⟩=>Di pins s1 σ H1 x v Q I1 r1 ?_) (he _)
 cases x<;>first|exact⟨_,rfl,q1⟩|exact q1
def iX (t u:TT):TT:=fun σ H Q=>t σ H fun c H1=>Sel c (u σ H1 Q) (Q false H1)
def mOr (t u:TT):TT:=fun σ H Q=>t σ H fun c H1=>Sel c (Q true H1) (u σ H1 Q)
variable {a b c:Expr}{ta tb:TE}{tA tB':TT}{bD:List Expr}{pos:Pos}
def Ap (ha:PT X a tA):PW X (.BoolOp .And [a] pos) tA:=zm ha
def Cr (ha:PT X a tA):PW X (.BoolOp .Or [a] pos) tA:=Bw ha
def Cg (ha:PT X a tA)(hb:PW X (.BoolOp .And (b::bD) pos) tB'):PW X (.BoolOp .And (a::b::bD) pos) (iX tA tB'):=by
 intro wh pins s σ H Q I h
 refine isTrue_and (thn (ha pins s σ H _ I h) fun c s1 ⟨H1,I1,q1⟩=>?_)
 have q1:=dP q1
 cases c with
 |true=>exact hb wh pins s1 σ H1 Q I1 q1
 |false=>exact⟨H1,I1,q1⟩
def GE (ha:PT X a tA)(hb:PW X (.BoolOp .Or (b::bD) pos) tB'):PW X (.BoolOp .Or (a::b::bD) pos) (mOr tA tB'):=by
 intro wh pins s σ H Q I h
 refine isTrue_or (thn (ha pins s σ H _ I h) fun c s1 ⟨H1,I1,q1⟩=>?_)
 have q1:=dP q1
 cases c with
 |true=>exact⟨H1,I1,q1⟩
 |false=>exact hb wh pins s1 σ H1 Q I1 q1
def cr (ta tb:TE):TE:=fun σ H Q=>ta σ H fun x H1=>match x with|.bl c=>Sel c (tb σ H1 Q) (Q (.bl false) H1)|_=>False
def xP (ta tb:TE):TE:=fun σ H Q=>ta σ H fun x H1=>match x with|.bl c=>Sel c (Q (.bl true) H1) (tb σ H1 Q)|_=>False
def rp (ta:TE):TE:=fun σ H Q=>ta σ H fun x H1=>match x with|.bl c=>Q (.bl (!c)) H1|_=>False
def IM (ha:PE X a ta)(hb:PE X (.BoolOp .And (b::bD) pos) tb):PE X (.BoolOp .And (a::b::bD) pos) (cr ta tb):=by
 intro pins s σ H Q I h
 refine BoolOp_and (thn (ha pins s σ H _ I h) fun v s1 ⟨x,H1,I1,r1,q1⟩=>?_)
 cases x<;>first|exact q1.elim|skip
 rename_i c
 cases r1
 refine Lp ?_
 have q1:=dP q1
 cases c with
 |true=>exact hb pins s1 σ H1 Q I1 q1
 |false=>exact⟨.bl false,H1,I1,rfl,q1⟩
def qor (ha:PE X a ta)(hb:PE X (.BoolOp .Or (b::bD) pos) tb):PE X (.BoolOp .Or (a::b::bD) pos) (xP ta tb):=by
 intro pins s σ H Q I h
 refine BoolOp_or (thn (ha pins s σ H _ I h) fun v s1 ⟨x,H1,I1,r1,q1⟩=>?_)
 cases x<;>first|exact q1.elim|skip
 rename_i c
 cases r1
 refine Lp ?_
 have q1:=dP q1
 cases c with
 |false=>exact hb pins s1 σ H1 Q I1 q1
 |true=>exact⟨.bl true,H1,I1,rfl,q1⟩
def EV (ha:PE X a ta):PE X (.UnaryOp .Not a pos) (rp ta):=by
 intro pins s σ H Q I h
 refine UnaryOp_ (thn (ha pins s σ H _ I h) fun v s1 ⟨x,H1,I1,r1,q1⟩=>?_)
 cases x<;>first|exact q1.elim|skip
 rename_i c
 cases r1
 exact not_of (Lp ⟨.bl (!c),H1,I1,rfl,q1⟩)
def mIf (t:TT)(ta tb:TE):TE:=fun σ H Q=>t σ H fun c H1=>Sel c (ta σ H1 Q) (tb σ H1 Q)
def Hc {c:Expr}(hc:PT X c tA)(ha:PE X a ta)(hb:PE X b tb):PE X (.IfExp c a b pos) (mIf tA ta tb):=by
 intro pins s σ H Q I h
 refine wpAny_IfExp (thn (hc pins s σ H _ I h) fun d s1 ⟨H1,I1,q1⟩=>?_)
 have q1:=dP q1
 cases d with
 |true=>exact ha pins s1 σ H1 Q I1 q1
 |false=>exact hb pins s1 σ H1 Q I1 q1
def aZ (c:TT)(t u:TS):TS:=fun D σ H=>c σ H fun b H1=>Sel b (t D σ H1) (u D σ H1)
def qif {c:Expr}{l m:List Stmt}{tc:TT}{t u:TS}(hc:PT X c tc)(ha:PSs X l t)(hb:PSs X m u):PS X (.If c l m pos) (aZ tc t u):=by
 intro pins s σ H D I h
 refine wpAny_If (thn (hc pins s σ H _ I h) fun d s1 ⟨H1,I1,q1⟩=>?_)
 have q1:=dP q1
 cases d with
 |true=>exact ha pins s1 σ H1 D I1 q1
 |false=>exact hb pins s1 σ H1 D I1 q1
theorem Ht:bI X (.builtin "len") (fun xs H Q=>match xs with
  |[.str y]=>y.length<=sizeLine/\Q (.int y.length) H
  |[.ref p]=>(∃xs,SqL X.K H p xs/\Q (.int xs.length) H)\/(∃xs,SqT X.K H p xs/\Q (.int xs.length) H)\/∃kvs,H p=some (.dK kvs)/\Q (.int kvs.length) H
  |_=>False):=by
 intro pins s σ H xs us Q I r h
 split at h
 ·rename_i y
  exact kh pins s σ H _ us Q I r ⟨_,_,rfl,⟨h.1,rfl⟩,h.2⟩
 ·rename_i p
  rcases h with⟨ys,h1,h2⟩|⟨ys,h1,h2⟩|⟨kvs,h1,h2⟩
  ·exact kh pins s σ H _ us Q I r ⟨_,_,rfl,.inl ⟨ys,h1,rfl⟩,h2⟩
  ·exact kh pins s σ H _ us Q I r ⟨_,_,rfl,.inr ⟨ys,h1,rfl⟩,h2⟩
  ·exact tz pins s σ H _ us Q I r ⟨p,kvs,rfl,h1,h2⟩
 ·exact h.elim
end
section
variable {X:Cx}{tg:Expr}
def dS:V->Hp->VK->Prop:=fun x H Q=>match x with|.int i=>Q (.int (-i)) H|_=>False
def Ib:UnR X (unaryOp .USub) dS:=fun pins s σ H x v Q I rx q=>Bc pins s σ H x v Q I rx (by
 unfold dS at q
 split at q
 ·exact⟨_,rfl,q⟩
 ·exact q.elim)
def CH (K:If):List V->Hp->VK->Prop:=fun xs H Q=>match xs with
 |[.str y]=>y.length<=sizeLine/\Q (.int y.length) H
 |[.ref p]=>(∃xs,SqL K H p xs/\Q (.int xs.length) H)\/(∃xs,SqT K H p xs/\Q (.int xs.length) H)\/∃kvs,H p=some (.dK kvs)/\Q (.int kvs.length) H
 |_=>False
def Hu:bI X (.builtin "len") (CH X.K):=Ht
def dD:List V->Hp->VK->Prop:=fun xs H Q=>match xs with
 |[x,.ty T]=>T∈["int","bool","str","tuple","list","dict"]/\∃t,tyN H x=some t/\Q (.bl (isI t T)) H
 |_=>False
def eC:bI X (.builtin "isinstance") dD:=fun pins s σ H xs us Q I r h=>by
 unfold dD at h
 split at h
 ·obtain⟨h1,t,h2,h3⟩:=h
  exact ww pins s σ H _ us Q I r ⟨_,_,t,rfl,h1,h2,h3⟩
 ·exact h.elim
def CV:List V->Hp->VK->Prop:=fun xs H Q=>∃(a:Addr)(bs:List Bool),xs=[.ref a]/\H a=some (.lst (bs.map V.bl))/\Q (.bl (bs.all id)) H
def IG (hc:X.calm=true):bI X (.builtin "all") CV:=xO hc
def pM (K:If):List V->Hp->VK->Prop:=fun xs H Q=>∃p ys,xs=[.ref p]/\((SqL K H p ys/\∀l,H l=none->Q (.ref l) (upd H l (.tup ys)))\/(SqT K H p ys/\Q (.ref p) H))
def sU:bI X (.type "tuple") (pM X.K):=mF
def xj:List V->Hp->VK->Prop:=fun xs H Q=>match xs with
 |[.int i]=>i.natAbs.log2<1920/\Q (.str (toString i)) H
 |_=>False
def HP:bI X (.type "str") xj:=fun pins s σ H xs us Q I r h=>by
 unfold xj at h
 split at h
 ·exact qb pins s σ H _ us Q I r ⟨_,rfl,h.1,h.2⟩
 ·exact h.elim
def xC:List V->Hp->VK->Prop:=fun xs H Q=>match xs with
 |[.str x]=>x.length=1/\Q (.int (x.cps.getD 0 0:Nat)) H
 |_=>False
def Hw:bI X (.builtin "ord") xC:=fun pins s σ H xs us Q I r h=>by
 unfold xC at h
 split at h
 ·exact xc pins s σ H _ us Q I r ⟨_,rfl,h.1,h.2⟩
 ·exact h.elim
end
def AS:bootBuiltins "all"=some (.builtin "all"):=by decide+kernel
structure ci (J:It)(n:Nat)(it:Nat->V)(Pv:Hp->Prop):Prop where
 go:∀i H,i<n->Pv H->J.go i H
 yld:∀i H x H',i<n->Pv H->J.yld i H x H'->H'=H/\x=it i
 stop:∀H,Pv H->J.stop n H
def ci.list {K:If}{a:Addr}{xs:List V}(d:V):ci (Itl K a) xs.length (fun i=>xs.getD i d) (fun H=>SqL K H a xs)where
 go:=fun i H hi h=>⟨xs,xs[i],h,by simp[hi]⟩
 yld:=fun i H x H' hi h y=>⟨y.1,by have:=y.2 xs h;rw[Jk,this];rfl⟩
 stop:=fun H h=>⟨xs,h,IV _⟩
def ci.tuple {K:If}{a:Addr}{xs:List V}(d:V):ci (Itt K a) xs.length (fun i=>xs.getD i d) (fun H=>SqT K H a xs)where
 go:=fun i H hi h=>⟨xs,xs[i],h,by simp[hi]⟩
 yld:=fun i H x H' hi h y=>⟨y.1,by have:=y.2 xs h;rw[Jk,this];rfl⟩
 stop:=fun H h=>⟨xs,h,IV _⟩
def ci.range {lo:Int}{n:Nat}:ci (Itr lo n) n (fun i=>.int (lo+i)) (fun _=>True)where
 go:=fun i H hi _=>hi
 yld:=fun i H x H' hi _ y=>y
 stop:=fun H _=>IV _
def CWd (n:Nat)(Pv:Nat->List V->Hp->Prop):Nat->Nat->List V->Hp->Prop:=fun i m ys H=>i<=n/\m=n- i/\Pv i ys H
def CWd.next {n i:Nat}{Pv:Nat->List V->Hp->Prop}{ys:List V}{H:Hp}(hi:i<n)(h:Pv (i+1) ys H):∃m',m'<n- i/\CWd n Pv (i+1) m' ys H:=⟨n- (i+1),by omega,hi,rfl,h⟩
def jS {J:It}{n:Nat}{it:Nat->V}{Pk:Hp->Prop}{σ:St}{is:List Nat}{tc:TT}{te:TE}{Q:VK}{H1:Hp}{D:Addr}(T:ci J n it Pk)(Pv:Nat->List V->Hp->Prop)
  (hk:∀i ys H,i<=n->Pv i ys H->Pk H)(h0:Pv 0 [] (upd H1 D (.lst [])))
  (hs:∀i ys H2,i<n->Pv i ys H2->tc (some (it i)::aR σ is) H2 fun b H4=>if b=true then
   te (some (it i)::aR σ is) H4 fun y H5=>H5 D=some (.lst ys)/\ys.length<sizeLine/\∃m',m'<n- i/\CWd n Pv (i+1) m' (ys++[y]) (upd H5 D (.lst (ys++[y])))
   else ∃m',m'<n- i/\CWd n Pv (i+1) m' ys H4)
  (hd:∀ys H,Pv n ys H->Q (.ref D) H):yU is tc te σ D J H1 Q:=by
 refine⟨CWd n Pv,⟨n,Kf _,rfl,h0⟩,?_⟩
 rintro i m ys H2 ⟨hi,rfl,p⟩
 by_cases hlt:i<n
 ·refine .inr ⟨T.go i H2 hlt (hk i ys H2 hi p),fun x H3 y=>?_⟩
  obtain⟨rfl,rfl⟩:=T.yld i H2 x H3 hlt (hk i ys H2 hi p) y
  exact hs i ys _ hlt p
 ·have e:i=n:=by omega
  subst e
  exact .inl ⟨T.stop H2 (hk _ ys H2 hi p),hd ys H2 p⟩
def ar.upd {H:Hp}{p:Addr}{o:HO}(h:H p=none):ar H (upd H p o):=fun b u e=>by rw[ap (ay e h)];exact e
def pe {xs:List V}{i:Int}(h0:0<=i)(h1:i<xs.length):atI xs i=some (xs.getD i.toNat .non):=by
 unfold atI ixN
 rw[if_pos h0,if_pos h1]
 show xs[i.toNat]?=_
 rw[Jk]
 have:i.toNat<xs.length:=by omega
 rw[IR this];rfl
def bP:Expr->Bool
 |.Starred _ _=>false
 |_=>true
def bc {e:Expr}(h:bP e=true)(bD:List Expr)(env:Env):starEach (e::bD) env=(false,eval e env)::starEach bD env:=by
 cases e<;>first|rfl|cases h
def bh:List Expr->Bool
 |[]=>true
 |e::r=>bP e&&bh r
theorem bW:∀{es:List Expr}{env:Env}{pos:Pos},bh es=true->(backTo pos (starEach es env)).any (·.1)=false
 |[],_,_,_=>rfl
 |e::r,env,pos,h=>by
  have h:(bP e&&bh r)=true:=h
  rw[Jt]at h
  rw[bc h.1]
  show(false||(backTo pos (starEach r env)).any (·.1))=false
  rw[bW h.2];rfl
section
variable {X:Cx}{e:Expr}{es:List Expr}{te:TE}{t:TA}{pos:Pos}
def zL (ha:PE X e te)(hr:PA X es t)(hs:bP e=true:=by rfl):PA X (e::es) (af te t):=zU ha hr (bc hs es X.env)
variable {x:Str}{p apos cpos:Pos}{id T:String}{r:List V->Hp->VK->Prop}
def zV (hc:bI X (.builtin id) r)(hg:Gl X x)(hm:X.mg x=none)(hv:bootBuiltins x=some (.builtin id))(ha:PA X (e::es) t)(hn:x≠"__name__":=by decide)(hdb:(x==("__debug__":Str))=false:=by decide)
  (hs:bh (e::es)=true:=by rfl):PE X (.Call (.Name x p) (e::es) [] pos) (tCB r t):=
 have h:(bP e&&bh es)=true:=hs
 wq hc hg hm hv ha hn hdb (bc (Jf.mp h).1 es X.env) (bW (Jf.mp h).2)
def wc (hc:bI X (.type T) r)(hg:Gl X x)(hm:X.mg x=none)(hv:bootBuiltins x=some (.type T))(ha:PA X (e::es) t)(hn:x≠"__name__":=by decide)(hdb:(x==("__debug__":Str))=false:=by decide)
  (hs:bh (e::es)=true:=by rfl):PE X (.Call (.Name x p) (e::es) [] pos) (tCB r t):=
 have h:(bP e&&bh es)=true:=hs
 uw hc hg hm hv ha hn hdb (bc (Jf.mp h).1 es X.env) (bW (Jf.mp h).2)
variable {CX:CXT}{k:Nat}{f C:Addr}{fd:Jn}{ps:List Str}{sp:Sp}{dvs:List V}{ds:List Gt}{E:XK}{m:Str}{o:Expr}{ta:TE}
theorem kc:∀{es:List Expr}{env:Env}{pos:Pos},bh es=true->(backTo pos (starEach es env)).all (fun x=> !x.1)=true
 |[],_,_,_=>rfl
 |e::r,env,pos,h=>by
  have h:(bP e&&bh r)=true:=h
  rw[Jt]at h
  rw[bc h.1]
  show(true&&(backTo pos (starEach r env)).all (fun x=> !x.1))=true
  rw[kc h.2];rfl
variable {to:TE}{name:Str}{rm:V->List V->Hp->VK->Prop}
def Ip (pa:OZ T)(slot:Slot T name id)(hty:typeOf (.builtin id)=pure (.type "method_descriptor"))(hm:MtR X id rm)(ho:PE X o to)(ha:PA X (e::es) t)
  (hbase:attributeBase o name X.env (eval o X.env)=eval o X.env:=by rfl)(hfew:decide ((e::es).length<30)=true:=by rfl)
  (hline:(apos.endLine==cpos.line)=true:=by rfl)(hs:bh (e::es)=true:=by rfl):PE X (.Call (.Attribute o name apos) (e::es) [] cpos) (tBM X.K T rm to t):=
 have h:(bP e&&bh es)=true:=hs
 GI pa slot hty hm ho ha hbase (by rw[kc hs];exact hfew) hline (bc (Jf.mp h).1 es X.env) (bW (Jf.mp h).2)
end
structure QE (X:Cx)(e:Expr)(t:TE):Prop where
 out:PE X e t
structure QT (X:Cx)(e:Expr)(t:TT):Prop where
 out:PT X e t
structure QW (X:Cx)(e:Expr)(t:TT):Prop where
 out:PW X e t
structure QA (X:Cx)(e:List Expr)(t:TA):Prop where
 out:PA X e t
structure QS (X:Cx)(e:Stmt)(t:TS):Prop where
 out:PS X e t
structure QSs (X:Cx)(e:List Stmt)(t:TS):Prop where
 out:PSs X e t
structure QI (X:Cx)(tg iter:Expr)(t:TI):Prop where
 out:PI X tg iter t
structure QO (X:Cx)(e:Option Expr)(t:TO):Prop where
 out:PO X e t
structure wQ (X:Cx)(e:List Expr)(t:TT):Prop where
 out:pC X e t
section
variable {X:Cx}{a b c e o:Expr}{es bD:List Expr}{ta tb tc te to tv:TE}{tA tB':TT}{t:TA}{pos apos cpos p:Pos}{x y:Str}
def aa (i:Nat)(hN:X.N[i]?=some x:=by rfl)(hv:Vis X.env.scope x:=by first|exact Or.inl rfl|exact RE (Or.inl rfl)|exact RE (RE rfl))(hd:(x==("__debug__":Str))=false:=by decide)
 (hcd:(x==("__classdict__":Str))=false:=by decide):QE X (.Name x pos) (ae i):=⟨qv i hN hv hd hcd⟩
def IL {i:Int}(hm:∃t,X.mg x=some (.int i t))(hg:Gl X x:=by rfl)(hd:(x==("__debug__":Str))=false:=by decide):QE X (.Name x pos) (tC (.int i)):=⟨qgi hm hg hd⟩
def eB {T:String}(hm:X.mg x=none)(hv:bootBuiltins x=some (.type T))(hg:Gl X x:=by rfl)(hn:x≠"__name__":=by decide)(hd:(x==("__debug__":Str))=false:=by decide):QE X (.Name x pos) (tC (.ty T)):=⟨zo hg hm hv rfl hn hd⟩
def ag {i:Int}{j}:QE X (.Constant (.int i) j pos) (tC (.int i)):=⟨CQ⟩
def cS {b:Bool}{j}:QE X (.Constant (.bool b) j pos) (tC (.bl b)):=⟨Ez⟩
def iN {j}:QE X (.Constant .none j pos) (tC .non):=⟨AU⟩
def bU {z:Str}{j}:QE X (.Constant (.str z) j pos) (tC (.str z)):=⟨Az⟩
def dE (ha:QE X a ta):QE X (.UnaryOp .USub a pos) (tUn dS ta):=⟨DR Ib ha.out⟩
def Fh (ha:QE X a ta):QE X (.UnaryOp .Not a pos) (rp ta):=⟨EV ha.out⟩
def aw {op:Operator}{r:R2}(ho:OpR X (binaryOp op) r)(ha:QE X a ta)(hb:QE X b tb):QE X (.BinOp a op b pos) (tOp r ta tb):=⟨Ee ho ha.out hb.out⟩
def db {op:Rw}{r:R2}(ho:OpR X (compareOp op) r)(ha:QE X a ta)(hb:QE X b tb)(hm:behindInMarks op b=false:=by first|exact kT _|rfl):QE X (.Compare a [op] [b] pos) (tOp r ta tb):=⟨qc ho ha.out hb.out hm⟩
def ie {op op':Rw}{r r':R2}(ho:OpR X (compareOp op) r)(ho':OpR X (compareOp op') r')(ha:QE X a ta)(hb:QE X b tb)(hc:QE X c tc)(hm:lastMarks [op,op'] [b,c]=false:=by with_unfolding_all rfl):
 QE X (.Compare a [op,op'] [b,c] pos) (ej r r' ta tb tc):=⟨qch ho ho' ha.out hb.out hc.out hm⟩
def eF {op}(h:QE X a ta):QE X (.BoolOp op [a] pos) ta:=⟨Be h.out⟩
def cF (ha:QE X a ta)(hb:QE X (.BoolOp .And (b::bD) pos) tb):QE X (.BoolOp .And (a::b::bD) pos) (cr ta tb):=⟨IM ha.out hb.out⟩
def HQ (ha:QE X a ta)(hb:QE X (.BoolOp .Or (b::bD) pos) tb):QE X (.BoolOp .Or (a::b::bD) pos) (xP ta tb):=⟨qor ha.out hb.out⟩
def vQ (hc:QT X c tA)(ha:QE X a ta)(hb:QE X b tb):QE X (.IfExp c a b pos) (mIf tA ta tb):=⟨Hc hc.out ha.out hb.out⟩
def ai:QA X [] ak:=⟨CO⟩
def ac (ha:QE X e te)(hr:QA X es t)(hs:bP e=true:=by rfl):QA X (e::es) (af te t):=⟨zL ha.out hr.out hs⟩
def fe (h:QA X es t):QE X (.List es pos) (fH t):=⟨Ck h.out⟩
def bp {x1}(h:QA X es t):QE X (.Tuple es x1 pos) (bx t):=⟨CM h.out⟩
def aA {r:R2}(hr:IxR X r)(ha:QE X a ta)(hb:QE X b tb)(hs:qJ b):QE X (.Subscript a b pos) (tOp r ta tb):=⟨Fw hr ha.out hb.out hs⟩
def eE:QO X none dA:=⟨Am⟩
def dB (h:QE X e te):QO X (some e) (eG te):=⟨zS h.out⟩
def dM {r:V->Option Int->Option Int->Hp->VK->Prop}{lo hi:Option Expr}{tl th:TO}{p2:Pos}(hr:SlR X r)(he:QE X e te)(hl:QO X lo tl)(hu:QO X hi th):QE X (.Subscript e (.Slice lo hi none p2) pos) (tSl r te tl th):=⟨xS hr he.out hl.out hu.out⟩
variable {id T:String}{r:List V->Hp->VK->Prop}
def aN (hc:bI X (.builtin id) r)(hm:X.mg x=none)(hv:bootBuiltins x=some (.builtin id))(ha:QA X (e::es) t)(hg:Gl X x:=by rfl)(hn:x≠"__name__":=by decide)(hdb:(x==("__debug__":Str))=false:=by decide)
 (hs:bh (e::es)=true:=by rfl):QE X (.Call (.Name x p) (e::es) [] pos) (tCB r t):=⟨zV hc hg hm hv ha.out hn hdb hs⟩
def fE (hc:bI X (.type T) r)(hm:X.mg x=none)(hv:bootBuiltins x=some (.type T))(ha:QA X (e::es) t)(hg:Gl X x:=by rfl)(hn:x≠"__name__":=by decide)(hdb:(x==("__debug__":Str))=false:=by decide)
 (hs:bh (e::es)=true:=by rfl):QE X (.Call (.Name x p) (e::es) [] pos) (tCB r t):=⟨wc hc hg hm hv ha.out hn hdb hs⟩
variable {CX:CXT}{k:Nat}{f C:Addr}{fd:Jn}{ps:List Str}{sp:Sp}{dvs:List V}{ds:List Gt}{E:XK}{m:Str}
variable {name:Str}{rm:V->List V->Hp->VK->Prop}
def dQ (pa:OZ T)(slot:Slot T name id)(hty:typeOf (.builtin id)=pure (.type "method_descriptor"))(hm:MtR X id rm)(ho:QE X o to)(ha:QA X (e::es) t)
 (hbase:attributeBase o name X.env (eval o X.env)=eval o X.env:=by rfl)(hfew:decide ((e::es).length<30)=true:=by rfl)
 (hline:(apos.endLine==cpos.line)=true:=by rfl)(hs:bh (e::es)=true:=by rfl):QE X (.Call (.Attribute o name apos) (e::es) [] cpos) (tBM X.K T rm to t):=⟨Ip pa slot hty hm ho.out ha.out hbase hfew hline hs⟩
def aK {op:Rw}{r:R2}(ho:OpR X (compareOp op) r)(ha:QE X a ta)(hb:QE X b tb)(hm:behindInMarks op b=false:=by first|exact kT _|rfl):QT X (.Compare a [op] [b] pos) (aO (tOp r ta tb)):=⟨qtc ho ha.out hb.out hm⟩
def oW {op op':Rw}{r r':R2}(ho:OpR X (compareOp op) r)(ho':OpR X (compareOp op') r')(ha:QE X a ta)(hb:QE X b tb)(hc:QE X c tc)(hm:lastMarks [op,op'] [b,c]=false:=by with_unfolding_all rfl):
 QT X (.Compare a [op,op'] [b,c] pos) (aO (ej r r' ta tb tc)):=⟨Ho ho ho' ha.out hb.out hc.out hm⟩
def br (h:QE X e te)(he:∀whole,isTrue e X.env whole=(do let v<-whole;standAt e.pos;holding [v] (truthy v)):=by intro _;rfl):QT X e (bQ X.K te):=⟨qtb h.out he⟩
def bB (ha:QT X a tA):QT X (.UnaryOp .Not a pos) (cf tA):=⟨CS ha.out⟩
def x_w (h:QW X e tA):QT X e tA:=⟨h.out.pt⟩
def gk (ha:QT X a tA):QW X (.BoolOp .And [a] pos) tA:=⟨Ap ha.out⟩
def dY (ha:QT X a tA):QW X (.BoolOp .Or [a] pos) tA:=⟨Cr ha.out⟩
def ia (ha:QT X a tA)(hb:QW X (.BoolOp .And (b::bD) pos) tB'):QW X (.BoolOp .And (a::b::bD) pos) (iX tA tB'):=⟨Cg ha.out hb.out⟩
def dX (ha:QT X a tA)(hb:QW X (.BoolOp .Or (b::bD) pos) tB'):QW X (.BoolOp .Or (a::b::bD) pos) (mOr tA tB'):=⟨GE ha.out hb.out⟩
variable {tg iter elt:Expr}{wi:TI}{ifs:List Expr}{scope:Scope}{ys:List Str}{is:List Nat}{px py spos:Pos}
def oV (hm:X.mg "range"=none)(ha:QA X [a] t)(hg:Gl X "range":=by rfl)(hs:bP a=true:=by rfl):QI X tg (.Call (.Name "range" p) [a] [] pos) (nA t):=⟨tp hg hm ha.out (bc hs [] X.env)⟩
def jk:wQ X [] (fun _ H Q=>Q true H):=⟨rfl⟩
def kR {tcn:TT}(S:gO scope x ys)(hcap:fc X scope ys is)(hi:QI X (.Name x px) iter wi)
 (hif:∀C s H fp,wQ (aM X scope C (x::ys) s H fp) ifs tcn)(he:∀C s H fp,QE (aM X scope C (x::ys) s H fp) elt te)(hc:X.calm=true:=by rfl)
 (hs:∀x,foldedSetIterable iter X.env x=pure x:=by intro _;rfl):QE X (.ListComp elt [⟨.Name x px,iter,ifs,0⟩] scope pos) (jF is wi tcn te):=⟨zd hc S hcap hi.out (fun C s H fp=>(hif C s H fp).out) (fun C s H fp=>(he C s H fp).out) hs⟩
variable {st:Stmt}{sts:List Stmt}{tS uS:TS}{i j:Nat}
def aL:QSs X [] aS:=⟨Ae⟩
def ao (h:QS X st tS):QSs X [st] tS:=⟨zv h.out⟩
def aj (h1:QS X st tS)(h2:QSs X sts uS):QSs X (st::sts) (av tS uS):=⟨vg h1.out h2.out⟩
def aD (h:QE X e te):QS X (.Return (some e) pos) (aI te):=⟨Bi h.out⟩
def aP {l m:List Stmt}(hc:QT X c tA)(ha:QSs X l tS)(hb:QSs X m uS):QS X (.If c l m pos) (aZ tA tS uS):=⟨qif hc.out ha.out hb.out⟩
def aB (i:Nat)(hN:X.N.Nodup)(he:QE X e te)(hi:X.N[i]?=some x:=by rfl)(hx:Loc X.env.scope x:=by first|exact .inl rfl|exact .inr rfl)
 (hs:swapsWith e (some (.Name x p)) pos.line X.env=pure false:=by rfl)(hf:X.fn x=true\/X.env.scope.names.lookup x=some .local:=by first|exact .inl rfl|exact .inr rfl):QS X (.Assign [.Name x p] e pos) (aE te (au i)):=⟨CW hN hi hx he.out hs hf⟩
def cj (h:QE X e te)(hs:swapsWith e none pos.line X.env=pure false:=by rfl):QS X (.Expr e pos) (cA te):=⟨zB h.out hs⟩
def iA (i:Nat)(hN:X.N.Nodup){body:List Stmt}(hi:QI X (.Name x px) iter wi)(hb:QSs X body tS)(hp:Qb (model X.prog X.w) X.A X.env X.xe)(hc:X.calm=true:=by rfl)
 (hj:X.N[i]?=some x:=by rfl)(hx:Loc X.env.scope x:=by first|exact .inl rfl|exact .inr rfl)(hf:X.fn x=true\/X.env.scope.names.lookup x=some .local:=by first|exact .inl rfl|exact .inr rfl)
 (hs:∀x,foldedSetIterable iter X.env x=pure x:=by intro _;rfl):QS X (.For (.Name x px) iter body [] pos) (fU wi (au i) tS):=⟨sV hp hc hi.out (cV hN hj hx hf) hb.out hs⟩
def lG {body:List Stmt}(hc:QT X c tA)(hb:QSs X body tS)(hp:Qb (model X.prog X.w) X.A X.env X.xe):QS X (.While c body [] pos) (jd tA tS):=⟨xI hp hc.out hb.out⟩
def eU:QS X st eJ:=⟨vL⟩
end
end L2
namespace HT
open PySem PyProof.Rows
structure Hd0 (vs:Array Gt)(a0:Gt):Prop where
 a:vs[0]?=some a0
 b:vs[2]?=some .none
structure TrD (h base:Heap)(e:Addr)(cls a0:Gt)(d:Option Addr)(fl:Gt):Prop where
 ex:∃oe vs T oT ts,h.get? e=some oe/\oe.cls=cls/\oe.dict=d/\oe.data=.fields vs/\Hd0 vs a0/\vs[1]?=some (.ref T)/\base.get? T=none/\T≠e/\h.get? T=some oT/\oT.data=.fields ts/\ts[3]?=some fl
structure kq (base:Heap)(l:List Env)(e:Addr)(cls a0:Gt)(d:Option Addr)(fl:Gt)(h h':Heap):Prop where
 st:base.StaysIn h'
 fr:h'.FunFrames base l
 tr:TrD h' base e cls a0 d fl
 up:h.UpToSlots h'
def lJ (o:Obj)(f:Array Gt->Array Gt):(Li f o).dict=o.dict:=by
 obtain⟨c,d,dt,sl⟩:=o
 cases dt<;>rfl
section
variable {M:RY}{A:JK}{E:Gt->IQ->Prop}{s:IQ}{base:Heap}{env:Env}{outer:List Env}{L e:Addr}{cls a0:Gt}{d:Option Addr}{Q:Unit->IQ->Prop}
def sQ {oe:Obj}{vs:Array Gt}{head:Gt}{hadNext:Bool}(hfr:A.frames=some (env::outer))(hl:s.heap.FunFrames base (env::outer))(hf:env.frame=some L)(he:s.heap.get? e=some oe)(hc:oe.cls=cls)(hdc:oe.dict=d)
  (hkb:base.StaysIn s.heap)(hen:base.get? e=none)(hd:oe.data=.fields vs)(hsz:1<vs.size)(h0:Hd0 vs a0)(h:∀h',kq base (env::outer) e cls a0 d (rawInt L) s.heap h'->Q () {s with heap:=h'}):
  wpAny M A (do let a<-frameOf env;let pl<-entryPlaceOf L hadNext;let b<-Pp head a .none (rawInt L) .none pl;setField (.ref e) 1 b) Q E s:=by
 have nfr:e∉(env::outer).filterMap (·.frame):=fun hm=>by
  obtain⟨_,o,ho,hnf⟩:=hl.mem hm
  rw[he]at ho
  cases ho
  exact hnf vs hd
 refine cW (wpAny_frameOf_fun hfr hl hf fun h1 s1=>cW (wpAny_entryPlaceOf fun pl hpl=>?_))
 unfold Pp newFields
 refine cW (JF ?_ (hpl.sizeOk5 _ _ _ _ _))
 generalize hts:([head,Ji L,.none,rawInt L,.none]++(if pl.isEmpty then Ps 6 Kk else pl)).toArray=ts
 have hts3:ts[3]?=some (rawInt L):=by rw[<-hts];first|(simp;done)|(rcases hpl with rfl|⟨_,_,_,_,_,_,_,rfl⟩<;>simp)
 have e1:h1.get? e=some oe:=(s1.2.1 e nfr).trans he
 have kb1:base.StaysIn h1:=fun b o hbo=>(s1.2.1 b fun hm=>by rw[(hl.mem hm).1]at hbo;cases hbo).trans (hkb b o hbo)
 have e2:(h1.push {cls:=.type "traceback",dict:=none,data:=.fields ts}).get? e=some oe:=gV _ e1
 have nT:h1.objs.size≠e:=Kc (IS e1)
 refine Lm e2 hd hsz (h _ ?_)
 have d3:=JO hd (·.setIfInBounds 1 (Ji h1.objs.size))
 have e3:=JC (Li (·.setIfInBounds 1 (Ji h1.objs.size))) e2 (Kz d3)
 have kp:∀b o,b≠e->h1.get? b=some o->((h1.push {cls:=.type "traceback",dict:=none,data:=.fields ts}).update e (Li (·.setIfInBounds 1 (Ji h1.objs.size)))).get? b=some o:=fun b o nb eb=>
  (JX _ _ (KQ nb)).trans (gV _ eb)
 have T3:=(JX (h1.push {cls:=.type "traceback",dict:=none,data:=.fields ts}) (Li (·.setIfInBounds 1 (Ji h1.objs.size))) (KQ nT)).trans (IT h1 rfl)
 have nr:∀b o,s.heap.get? b=some o->(∀vs,o.data≠.fields vs)->b≠e:=fun b o hb hnf q=>by
  rw[q,he]at hb
  cases hb
  exact hnf vs hd
 refine⟨fun b o hbo=>kp b o (fun q=>by rw[q,hen]at hbo;cases hbo) (kb1 b o hbo),hl.of_keeps fun b o hb hnf=>?_,⟨_,_,h1.objs.size,_,ts,e3,(Me ..).trans hc,(lJ ..).trans hdc,d3,?_,by simp[hsz],kb1.fresh,nT,T3,rfl,hts3⟩,fun b o hb hnf=>?_⟩
 ·obtain⟨sl,hs⟩:=s1.2.2 b o hb
  exact⟨_,kp b _ (nr b o hb hnf) hs,rfl⟩
 ·exact⟨by rw[Om (by decide)];exact h0.a,by rw[Om (by decide)];exact h0.b⟩
 ·obtain⟨sl,hs⟩:=s1.2.2 b o hb
  exact⟨sl,kp b _ (nr b o hb hnf) hs⟩
def qk {oe:Obj}{vs:Array Gt}(hfr:A.frames=some (env::outer))(hl:s.heap.FunFrames base (env::outer))(hf:env.frame=some L)(he:s.heap.get? e=some oe)(hc:oe.cls=cls)(hdc:oe.dict=d)(hkb:base.StaysIn s.heap)(hen:base.get? e=none)
  (hd:oe.data=.fields vs)(h1:vs[1]?=some .none)(h0:Hd0 vs a0)(h:∀h',kq base (env::outer) e cls a0 d (rawInt L) s.heap h'->Q () {s with heap:=h'}):wpAny M A (noteFrame (.ref e) env) Q E s:=by
 unfold noteFrame
 simp only[hf]
 refine cW (Jh he hd h1 ?_)
 rw[if_neg (by decide)]
 exact sQ hfr hl hf he hc hdc hkb hen hd (JT.mp h1).1 h0 h
def BY {fl fl':Gt}{T:Addr}{oT:Obj}{ts:Array Gt}{l:List Env}{oe:Obj}{vs:Array Gt}(hkb:base.StaysIn s.heap)(hl:s.heap.FunFrames base l)(he:s.heap.get? e=some oe)(hc:oe.cls=cls)(hdc:oe.dict=d)(hd:oe.data=.fields vs)(h0:Hd0 vs a0)
  (h1:vs[1]?=some (.ref T))(nT:base.get? T=none)(Te:T≠e)(hT:s.heap.get? T=some oT)(hdT:oT.data=.fields ts)(h3:ts[3]?=some fl)(h:∀h',kq base l e cls a0 d fl' s.heap h'->(h'.get? e=some oe)->Q () {s with heap:=h'}):wpAny M A (setField (.ref T) 3 fl') Q E s:=by
 have sz:=(JT.mp h3).1
 have ot:∀b,b≠T->(s.heap.update T (Li (·.setIfInBounds 3 fl'))).get? b=s.heap.get? b:=fun b hb=>JX _ _ (KQ hb)
 have nr:∀b o,s.heap.get? b=some o->(∀vs,o.data≠.fields vs)->b≠T:=fun b o hb hnf q=>by
  rw[q,hT]at hb
  cases hb
  exact hnf ts hdT
 refine Lm hT hdT sz (h _ ⟨fun b o hbo=>(ot b fun q=>by rw[q,nT]at hbo;cases hbo).trans (hkb b o hbo),hl.of_keeps fun b o hb hnf=>⟨o,(ot b (nr b o hb hnf)).trans hb,rfl⟩,
  ⟨oe,vs,T,_,_,(ot e (KQ Te)).trans he,hc,hdc,hd,h0,h1,nT,Te,JC _ hT (Kz (JO hdT _)),JO hdT _,by simp[sz]⟩,fun b o hb hnf=>⟨o.slots,(ot b (nr b o hb hnf)).trans hb⟩⟩ ((ot e (KQ Te)).trans he))
def jR {fl:Gt}{l:List Env}(hkb:base.StaysIn s.heap)(hl:s.heap.FunFrames base l)(ht:TrD s.heap base e cls a0 d fl)(h:∀h',kq base l e cls a0 d .none s.heap h'->Q () {s with heap:=h'}):wpAny M A (setFlight (.ref e) none) Q E s:=by
 obtain⟨oe,vs,T,oT,ts,he,hc,hdc,hd,h0,h1,nT,Te,hT,hdT,h3⟩:=ht.ex
 unfold setFlight
 refine cW (Jh he hd h1 ?_)
 rw[if_pos (show(Ji T !=Kk)=true from by simp)]
 exact BY hkb hl he hc hdc hd h0 h1 nT Te hT hdT h3 fun h' n _=>h h' n
def lr (hfr:A.frames=some (env::outer))(hl:s.heap.FunFrames base (env::outer))(hf:env.frame=some L)(ht:TrD s.heap base e cls a0 d .none)(hkb:base.StaysIn s.heap)(hen:base.get? e=none)
  (h:∀h',kq base (env::outer) e cls a0 d (rawInt L) s.heap h'->Q () {s with heap:=h'}):wpAny M A (noteFrame (.ref e) env) Q E s:=by
 obtain⟨oe,vs,T,oT,ts,he,hc,hdc,hd,h0,h1,nT,Te,hT,hdT,h3⟩:=ht.ex
 unfold noteFrame
 simp only[hf]
 refine cW (Jh he hd h1 ?_)
 rw[if_pos (show(Ji T !=Kk)=true from by simp)]
 refine cW (Jh hT hdT h3 ?_)
 rw[if_neg (show ¬((Kk==rawInt L)=true)from by simp[rawInt])]
 refine cW (BY (fl':=.none) hkb hl he hc hdc hd h0 h1 nT Te hT hdT h3 fun h' n he'=>?_)
 exact sQ (s:={s with heap:=h'}) hfr n.fr hf he' hc hdc n.st hen hd (JT.mp h1).1 h0 fun h2 n2=>h h2 ⟨n2.st,n2.fr,n2.tr,n.up.trans n2.up⟩
def ou {oe:Obj}{vs:Array Gt}(hfr:A.frames=some (env::outer))(hl:s.heap.FunFrames base (env::outer))(hf:env.frame=some L)(he:s.heap.get? e=some oe)(hc:oe.cls=cls)(hdc:oe.dict=d)(hkb:base.StaysIn s.heap)(hen:base.get? e=none)
  (hd:oe.data=.fields vs)(h1:vs[1]?=some .none)(h0:Hd0 vs a0)(h:∀h',kq base outer e cls a0 d .none s.heap h'->Q () {s with heap:=h'}):wpAny M A (leaving env (.ref e)) Q E s:=by
 unfold leaving
 refine cW (qk hfr hl hf he hc hdc hkb hen hd h1 h0 fun h' n=>?_)
 obtain⟨n1,⟨_,_,n2⟩,n3,n4⟩:=n
 exact jR (s:={s with heap:=h'}) n1 n2 n3 fun h2 m=>h h2 ⟨m.st,m.fr,m.tr,n4.trans m.up⟩
def qq (hfr:A.frames=some (env::outer))(hl:s.heap.FunFrames base (env::outer))(hf:env.frame=some L)(ht:TrD s.heap base e cls a0 d .none)(hkb:base.StaysIn s.heap)(hen:base.get? e=none)
  (h:∀h',kq base outer e cls a0 d .none s.heap h'->Q () {s with heap:=h'}):wpAny M A (leaving env (.ref e)) Q E s:=by
 unfold leaving
 refine cW (lr hfr hl hf ht hkb hen fun h' n=>?_)
 obtain⟨n1,⟨_,_,n2⟩,n3,n4⟩:=n
 exact jR (s:={s with heap:=h'}) n1 n2 n3 fun h2 m=>h h2 ⟨m.st,m.fr,m.tr,n4.trans m.up⟩
end
end HT
namespace L2
open PySem PySem.Spec PyProof.Rows
abbrev veM:List Gt:=[.type "ValueError",.type "Exception",.type "BaseException",.type "object"]
def iG (K:If)(C D:Addr):Option Bool:=match K.lookup C with
 |some ⟨_,_,.cls cd,_⟩=>some (cd.mro.contains (.ref D))
 |_=>none
def oN (K:If)(C:Addr):Bool:=match K.lookup C with
 |some ⟨.type "type",_,.cls cd,sl⟩=>(match cd.mro,sl.toList with
  |.ref C'::bm,[_,_,_,_,some (.builtin n),_]=>C'==C&&n=="ValueError.__new__"&& !cd.hasDel&&W.tailIn K veM bm&&W.nsOkIn K cd.ns
  |_,_=>false)
 |_=>false
def dI (K:If)(C:Addr):Prop:=oN K C=true
def uH (K:If)(C:Addr):Prop:=W.excIn K C veM "ValueError.__new__"=true
def im {K:If}{h:Heap}{C:Addr}(X:K.In h)(q:dI K C):
  ∃bm N nm qn bs hdct sn sub ab col dd k0 k1 k2 k3 k5 mN,h.get? C=some (excClassObj nm qn C N bs bm hdct sn sub ab col dd k0 k1 k2 k3 k5 "ValueError.__new__")/\h.Ns N mN/\(uH K C->mN "__init__"=none)/\OwnTail h veM bm/\
   ∀D,iG K C D=some ((Ji C::bm).contains (.ref D)):=by
 have q2:=q
 unfold dI oN at q
 split at q
 ·rename_i dd cd sl ho
  split at q
  ·rename_i C' bm k0 k1 k2 k3 n k5 hm hs
   simp only[Jt,beq_iff_eq,Nh]at q
   obtain⟨⟨⟨⟨rfl,rfl⟩,hdel⟩,ht⟩,hok⟩:=q
   obtain⟨nm,bs,mro,ns,qn,hd,sn,sub,ab,col,del⟩:=cd
   dsimp only at hm hdel hok
   subst hm hdel
   have hsl:sl=#[k0,k1,k2,k3,some (.builtin "ValueError.__new__"),k5]:=by
    obtain⟨l⟩:=sl
    simp only at hs
    rw[hs]
   subst hsl
   refine⟨bm,ns,nm,qn,bs,hd,sn,sub,ab,col,dd,k0,k1,k2,k3,k5,_,X _ _ ho,.of_isNs (W.isNs_of_in X hok),fun r=>?_,W.tail_of_in X ht,fun D=>?_⟩
   ·unfold uH W.excIn at r
    rw[ho]at r
    simp only[Jt,beq_iff_eq]at r
    exact W.nsMap_none_of_in X hok r.2
   ·unfold iG
    rw[ho]
  ·cases q
 ·cases q
def lE {M:RY}{A:JK}{E:Gt->IQ->Prop}{s:IQ}{K:If}{C D e:Addr}{oe:Obj}{Q:Bool->IQ->Prop}{b:Bool}(X:K.In s.heap)(hC:dI K C)(hD:dI K D)(he:s.heap.get? e=some oe)(hcls:oe.cls=.ref C)
  (hs:iG K C D=some b)(hq:Q b s):wpAny M A (excMatches (.ref e) (.ref D)) Q E s:=by
 obtain⟨bm,N,nm,qn,bs,hdct,sn,sub,ab,col,dd,k0,k1,k2,k3,k5,mN,oC,_,_,_,hsub⟩:=im X hC
 obtain⟨bm',N',nm',qn',bs',hdct',sn',sub',ab',col',dd',k0',k1',k2',k3',k5',mN',oD,_,_,T',_⟩:=im X hD
 have hb:(Ji C::bm).contains (.ref D)=b:=Js ((hsub D).symm.trans hs)
 have hbase:(Ji D::bm').contains (.type "BaseException")=true:=by
  rw[Od,T'.hasType (X:="BaseException") (b:=true) (by decide+kernel),Qk]
 have f:=tc_notTuple
 obtain⟨hp,g,d,t,os⟩:=s
 unfold excMatches
 repeat (first|(with_reducible refine Lr he ?_;rw[hcls])|with_reducible refine Lr oD ?_ |(with_reducible refine LS oC ?_;rw[hb])|(with_reducible refine LS oD ?_;rw[hbase])|wp_step)
 all_goals first|exact hq|(cases b<;>first|exact hq|(repeat (first|exact hq|wp_step)))
structure Fly (P:Jd)(w:JL)(l:List Env)(H:Hp)(s:IQ)(cls fl:Gt)(a:Addr)(d:Option Addr)(H':Hp)(s':IQ):Prop where
 os:s'.os=s.os
 bare:NJ s'.gens
 un:Un (frs l) [] H H' s.heap s'.heap
 hok:HOk P w H' s'.heap
 new:s.heap.get? a=none
 free:H' a=none
 tr:∃oe vs a0 T oT ts,s'.heap.get? a=some oe/\oe.cls=cls/\oe.dict=d/\oe.data=.fields vs/\HT.Hd0 vs a0/\vs[1]?=some (.ref T)/\T≠a/\s'.heap.get? T=some oT/\oT.data=.fields ts/\ts[3]?=some fl/\s.heap.get? T=none/\H' T=none
def CX1 (P:Jd)(w:JL):CXT:=fun outer H s E e s'=>∃a C d H',e=.ref a/\Fly P w outer H s (.ref C) .none a d H' s'/\E (.ref C) d H'
def ku {P:Jd}{w:JL}{H:Hp}{h:Heap}{a:Addr}{o:HO}(x:aU P w H h a o):∃u,h.get? a=some u:=by
 cases o with
 |lst xs=>obtain⟨_,_,_,_,e⟩:=x;exact⟨_,e⟩
 |tup xs=>obtain⟨_,_,_,p⟩:=x;obtain⟨o,e,_⟩:=p;exact⟨_,e⟩
 |dK kvs=>obtain⟨_,_,_,_,o,_,_,e,_⟩:=x;exact⟨_,e⟩
 |dT kvs=>obtain⟨_,_,_,_,o,_,_,e,_⟩:=x;exact⟨_,e⟩
 |set S n=>obtain⟨o,_,_,_,e,_⟩:=x;exact⟨_,e⟩
 |ins C dx fs=>obtain⟨_,_,_,e,_⟩:=x;exact⟨_,e⟩
 |own y=>exact x
 |xd fs=>obtain⟨_,⟨_,_,_,e,_⟩,_⟩:=x;exact⟨_,e⟩
 |rng lo hi=>obtain⟨_,_,_,e⟩:=x;exact⟨_,e⟩
 |frz ob u=>obtain⟨e,_⟩:=x;exact⟨_,e⟩
 |tbl ps=>exact⟨_,(show h.get? a=some _ from x)⟩
 |met f y=>exact⟨_,(show h.get? a=some _ from x)⟩
 |ext φ=>obtain⟨_,e,_⟩:=x;exact e
section
variable {P:Jd}{w:JL}{l:List Env}{H H':Hp}{s s':IQ}{cls fl fl':Gt}{a:Addr}{d:Option Addr}{base:Heap}
def fD (h:Heap)(l:List Env)(a T:Addr):Heap:=W.hideAll h (a::T::frs l)
def Fly.frames (F:Fly P w l H s cls fl a d H' s')(ff:s.heap.FunFrames base l)(frf:∀b∈frs l,H b=none):s'.heap.FunFrames base l:=by
 have all:∀(k:List Env),(∀b∈frs k,b∈frs l)->s.heap.FunFrames base k->s'.heap.FunFrames base k:=by
  intro k
  induction k with
  |nil=>intro _ _;trivial
  |cons env r ih=>
   intro hs hl
   obtain⟨hk,⟨L,o,hf,hn,ho,hd⟩,hr⟩:=hl
   have hL:L∈frs l:=hs L (by unfold frs;rw[Kp,hf];exact Jw)
   obtain⟨sl,e⟩:=F.un.slot L o ho (frf L hL) hL (by simp)
   exact⟨hk,⟨L,_,hf,hn,e,hd⟩,ih (fun b hb=>hs b (by unfold frs;rw[Kp,hf];exact Je _ hb)) hr⟩
 exact all l (fun _ hb=>hb) ff
theorem jv {h B B':Heap}:∀{k:List Env},h.FunFrames B k->(∀b∈frs k,B'.get? b=none)->h.FunFrames B' k
 |[],_,_=>trivial
 |env::r,⟨hk,⟨L,o,hf,hn,ho,hd⟩,hr⟩,hb=>⟨hk,⟨L,o,hf,hb L (by unfold frs;rw[Kp,hf];exact Jw),ho,hd⟩,jv hr fun b h=>hb b (by unfold frs;rw[Kp,hf];exact Je _ h)⟩
def Fly.moved (F:Fly P w l H s cls fl a d H' s')(ff:s.heap.FunFrames base l)(frf:∀b∈frs l,H b=none)(ffs:∀b∈frs l,H' b=none){T:Addr}{oT:Obj}(hT0:s.heap.get? T=none)(hT1:H' T=none){h':Heap}{a0:Gt}
  (st:(fD s'.heap l a T).StaysIn h')(up:s'.heap.UpToSlots h')(tr:HT.TrD h' (fD s'.heap l a T) a cls a0 d fl'):Fly P w l H s cls fl' a d H' {s' with heap:=h'}:=by
 have kp:∀b o,s'.heap.get? b=some o->b≠a->b≠T->b∉frs l->h'.get? b=some o:=fun b o e h1 h2 h3=>st b o (NC _ e (by simp[h1,h2,h3]))
 have ff':=F.frames ff frf
 have nf:∀b∈frs l,∀o,s'.heap.get? b=some o->∀vs,o.data≠.fields vs:=fun b hb o e vs z=>by
  obtain⟨_,o',ho,hd⟩:=ff'.mem hb
  rw[e]at ho;cases ho
  exact hd vs z
 have old:∀b o,s.heap.get? b=some o->b≠a/\b≠T:=fun b o e=>⟨fun z=>(by rw[z,F.new]at e;cases e),fun z=>(by rw[z,hT0]at e;cases e)⟩
 refine⟨F.os,F.bare,⟨fun b o e n hb hx=>?_,fun b o e n hb hx=>?_,F.un.free,fun b o e hx=>?_,F.un.tups,F.un.frzs,F.un.tbls⟩,fun b o e=>?_,F.new,F.free,?_⟩
 ·exact kp b o (F.un.keep b o e n hb hx) (old b o e).1 (old b o e).2 hb
 ·obtain⟨sl,e1⟩:=F.un.slot b o e n hb hx
  obtain⟨sl',e2⟩:=up b _ e1 (nf b hb _ e1)
  exact⟨sl',e2⟩
 ·obtain⟨o',e1⟩:=F.un.there b o e hx
  by_cases hb:b∈frs l
  ·obtain⟨sl',e2⟩:=up b _ e1 (nf b hb _ e1)
   exact⟨_,e2⟩
  ·exact⟨o',kp b o' e1 (old b o e).1 (old b o e).2 hb⟩
 ·refine(F.hok b o e).stay (fun c u hc q=>kp c u q ?_ ?_ ?_) (fun _ q=>q) fun _ _ q=>q
  ·rintro rfl
   rcases hc with r|r
   ·rw[<-r,F.free]at e;cases e
   ·rw[F.free]at r;cases r
  ·rintro rfl
   rcases hc with r|r
   ·rw[<-r,hT1]at e;cases e
   ·rw[hT1]at r;cases r
  ·intro hm
   rcases hc with r|r
   ·rw[<-r,ffs _ hm]at e;cases e
   ·rw[ffs _ hm]at r;cases r
 ·obtain⟨oe,vs,T',oT',ts,he,hc,hdc,hd,h0,h1,hn,hne,hT',hdT,h3⟩:=tr.ex
  have key:s'.heap.get? T'=none\/T'=T:=by
   cases q:s'.heap.get? T' with
   |none=>exact .inl rfl
   |some o=>
    refine .inr (Ls fun hz=>?_)
    by_cases hf:T'∈frs l
    ·obtain⟨sl',e2⟩:=up T' o q (nf T' hf o q)
     rw[hT']at e2;cases e2
     exact nf T' hf o q ts hdT
    ·have:(fD s'.heap l a T).get? T'=some o:=NC _ q (by simp[hz,hne,hf])
     rw[hn]at this;cases this
  refine⟨oe,vs,a0,T',oT',ts,he,hc,hdc,hd,h0,h1,hne,hT',hdT,h3,?_,?_⟩
  ·rcases key with z|z
   ·cases q:s.heap.get? T' with
    |none=>rfl
    |some o=>
     obtain⟨o',e⟩:=F.un.there T' o q (by simp)
     rw[z]at e;cases e
   ·rw[z];exact hT0
  ·rcases key with z|z
   ·cases q:H' T' with
    |none=>rfl
    |some o=>
     obtain⟨o1,e1⟩:=ku (F.hok T' o q)
     rw[z]at e1;cases e1
   ·rw[z];exact hT1
end
section
variable {X:Cx}{pins:List (Addr×Obj)}{σ:St}{H H':Hp}{s s':IQ}{cls fl:Gt}{a:Addr}{d:Option Addr}
def Fly.inv (I:Inv X pins σ H s)(F:Fly X.prog X.w X.stack H s cls fl a d H' s'):Inv X pins σ H' s':=I.call' (ch:=[]) F.os F.un F.hok F.bare fun b z=>absurd z (by simp)
def Fly.up (I:Inv X pins σ H s)(hex:X.ex=[])(F:Fly X.prog X.w X.stack H s cls fl a d H' s'):Fly X.prog X.w X.outer X.H₀ X.s₀ cls fl a d H' s':=by
 have I2:=F.inv I
 have back:∀b,s.heap.get? b=none->X.s₀.heap.get? b=none:=fun b e=>by
  cases q:X.s₀.heap.get? b with
  |none=>rfl
  |some o=>
   obtain⟨o',e'⟩:=I.base.there b o q (by rw[hex];simp)
   rw[e]at e';cases e'
 obtain⟨oe,vs,a0,T,oT,ts,h1,h2,hd,h3,h4,h5,h6,h7,h8,h9,h10,h11⟩:=F.tr
 have b:=I2.base
 rw[hex]at b
 exact⟨I2.os,I2.bare,b,I2.hok,back a F.new,F.free,oe,vs,a0,T,oT,ts,h1,h2,hd,h3,h4,h5,h6,h7,h8,h9,back T h10,h11⟩
def Fly.flying (I:Inv X pins σ H s)(F:Fly X.prog X.w X.stack H s cls .none a d H' s'):∃T a0,s.heap.get? T=none/\H' T=none/\(fD s'.heap X.stack a T).StaysIn s'.heap/\(fD s'.heap X.stack a T).get? a=none/\s'.heap.FunFrames (fD s'.heap X.stack a T) X.stack/\
  HT.TrD s'.heap (fD s'.heap X.stack a T) a cls a0 d .none:=by
 obtain⟨oe,vs,a0,T,oT,ts,h1,h2,hd,h3,h4,h5,h6,h7,h8,h9,h10,h11⟩:=F.tr
 exact⟨T,a0,h10,h11,fun b o e=>QQ _ e,MH _ (by simp),jv (F.frames I.stack I.stkFree) fun b hb=>MH _ (by simp[hb]),⟨oe,vs,T,oT,ts,h1,h2,hd,h3,h4,h5,MH _ (by simp),h6,h7,h8,h9⟩⟩
end
structure wY (P:Jd)(w:JL)(l:List Env)(H:Hp)(s:IQ)(cls:Gt)(a:Addr)(d:Option Addr)(H':Hp)(s':IQ):Prop where
 os:s'.os=s.os
 bare:NJ s'.gens
 un:Un (frs l) [] H H' s.heap s'.heap
 hok:HOk P w H' s'.heap
 new:s.heap.get? a=none
 free:H' a=none
 tr:∃oe vs a0,s'.heap.get? a=some oe/\oe.cls=cls/\oe.dict=d/\oe.data=.fields vs/\HT.Hd0 vs a0/\vs[1]?=some .none
section
variable {P:Jd}{w:JL}{l:List Env}{H H':Hp}{s s':IQ}{cls fl':Gt}{a:Addr}{d:Option Addr}{base:Heap}
def mr (un:Un (frs l) [] H H' s.heap s'.heap)(ff:s.heap.FunFrames base l)(frf:∀b∈frs l,H b=none):s'.heap.FunFrames base l:=by
 have all:∀(k:List Env),(∀b∈frs k,b∈frs l)->s.heap.FunFrames base k->s'.heap.FunFrames base k:=by
  intro k
  induction k with
  |nil=>intro _ _;trivial
  |cons env r ih=>
   intro hs hl
   obtain⟨hk,⟨L,o,hf,hn,ho,hd⟩,hr⟩:=hl
   have hL:L∈frs l:=hs L (by unfold frs;rw[Kp,hf];exact Jw)
   obtain⟨sl,e⟩:=un.slot L o ho (frf L hL) hL (by simp)
   exact⟨hk,⟨L,_,hf,hn,e,hd⟩,ih (fun b hb=>hs b (by unfold frs;rw[Kp,hf];exact Je _ hb)) hr⟩
 exact all l (fun _ hb=>hb) ff
def wY.moved (F:wY P w l H s cls a d H' s')(ff:s.heap.FunFrames base l)(frf:∀b∈frs l,H b=none)(ffs:∀b∈frs l,H' b=none){h':Heap}{a0:Gt}
  (st:(fD s'.heap l a a).StaysIn h')(up:s'.heap.UpToSlots h')(tr:HT.TrD h' (fD s'.heap l a a) a cls a0 d fl'):Fly P w l H s cls fl' a d H' {s' with heap:=h'}:=by
 have kp:∀b o,s'.heap.get? b=some o->b≠a->b∉frs l->h'.get? b=some o:=fun b o e h1 h3=>st b o (NC _ e (by simp[h1,h3]))
 have ff':=mr F.un ff frf
 have nf:∀b∈frs l,∀o,s'.heap.get? b=some o->∀vs,o.data≠.fields vs:=fun b hb o e vs z=>by
  obtain⟨_,o',ho,hd⟩:=ff'.mem hb
  rw[e]at ho;cases ho
  exact hd vs z
 have old:∀b o,s.heap.get? b=some o->b≠a:=fun b o e z=>by rw[z,F.new]at e;cases e
 refine⟨F.os,F.bare,⟨fun b o e n hb hx=>?_,fun b o e n hb hx=>?_,F.un.free,fun b o e hx=>?_,F.un.tups,F.un.frzs,F.un.tbls⟩,fun b o e=>?_,F.new,F.free,?_⟩
 ·exact kp b o (F.un.keep b o e n hb hx) (old b o e) hb
 ·obtain⟨sl,e1⟩:=F.un.slot b o e n hb hx
  obtain⟨sl',e2⟩:=up b _ e1 (nf b hb _ e1)
  exact⟨sl',e2⟩
 ·obtain⟨o',e1⟩:=F.un.there b o e hx
  by_cases hb:b∈frs l
  ·obtain⟨sl',e2⟩:=up b _ e1 (nf b hb _ e1)
   exact⟨_,e2⟩
  ·exact⟨o',kp b o' e1 (old b o e) hb⟩
 ·refine(F.hok b o e).stay (fun c u hc q=>kp c u q ?_ ?_) (fun _ q=>q) fun _ _ q=>q
  ·rintro rfl
   rcases hc with r|r
   ·rw[<-r,F.free]at e;cases e
   ·rw[F.free]at r;cases r
  ·intro hm
   rcases hc with r|r
   ·rw[<-r,ffs _ hm]at e;cases e
   ·rw[ffs _ hm]at r;cases r
 ·obtain⟨oe,vs,T',oT',ts,he,hc,hdc,hd,h0,h1,hn,hne,hT',hdT,h3⟩:=tr.ex
  have key:s'.heap.get? T'=none:=by
   cases q:s'.heap.get? T' with
   |none=>rfl
   |some o=>
    by_cases hf:T'∈frs l
    ·obtain⟨sl',e2⟩:=up T' o q (nf T' hf o q)
     rw[hT']at e2;cases e2
     exact(nf T' hf o q ts hdT).elim
    ·have:(fD s'.heap l a a).get? T'=some o:=NC _ q (by simp[hne,hf])
     rw[hn]at this;cases this
  refine⟨oe,vs,a0,T',oT',ts,he,hc,hdc,hd,h0,h1,hne,hT',hdT,h3,?_,?_⟩
  ·cases q:s.heap.get? T' with
   |none=>rfl
   |some o=>
    obtain⟨o',e⟩:=F.un.there T' o q (by simp)
    rw[key]at e;cases e
  ·cases q:H' T' with
   |none=>rfl
   |some o=>
    obtain⟨o1,e1⟩:=ku (F.hok T' o q)
    rw[key]at e1;cases e1
end
def iC (CX:CXT)(X:Cx)(E:St->XK):Prop:=∀(pins:List (Addr×Obj))(σ:St)(H:Hp)(s:IQ)(e:Gt)(s':IQ),Inv X pins σ H s->CX X.stack H s (E σ) e s'->X.xe e s'
def tN (X:Cx)(E:St->XK):Prop:=∀(pins:List (Addr×Obj))(σ:St)(H:Hp)(s:IQ)(C a:Addr)(d:Option Addr)(H2:Hp)(s2:IQ),Inv X pins σ H s->wY X.prog X.w X.stack H s (.ref C) a d H2 s2->E σ (.ref C) d H2->X.xe (.ref a) s2
def cX {P:Jd}{w:JL}{X:Cx}:iC (CX1 P w) X (fun _=>E0):=fun pins σ H s e s' I ⟨_,_,_,_,_,_,h⟩=>h.elim
section
variable {P:Jd}{w:JL}{K:If}{mg:Str->Option Gt}{base:Heap}{N:List Str}{qual:Str}{scope:Scope}{f:Addr}{cd:Gt}{A:JK}{outer:List Env}{s:IQ}{H:Hp}{E:XK}
def wM:iC (CX1 P w) (dR (CX1 P w) P w K mg base N qual scope f cd A outer s H E) (fun _=>E):=by
 intro pins σ H1 s1 e s' I hx
 obtain⟨a,C,d,H',rfl,F,hE⟩:=hx
 obtain⟨T,a0,hT0,hT1,f1,f2,f3,f4⟩:=F.flying I
 refine HT.qq (I.ok.frames) f3 rfl f4 f1 f2 fun h' n=>?_
 have F2:=F.moved (oT:={cls:=.none,data:=.dict #[]}) I.stack I.stkFree (F.inv I).stkFree hT0 hT1 n.st n.up n.tr
 exact⟨a,C,d,H',rfl,F2.up I rfl,hE⟩
def uK:tN (dR (CX1 P w) P w K mg base N qual scope f cd A outer s H E) (fun _=>E):=by
 intro pins σ H1 s1 C a d H2 s2 I F hE
 have I2:Inv (dR (CX1 P w) P w K mg base N qual scope f cd A outer s H E) pins σ H2 s2:=I.call' (ch:=[]) F.os F.un F.hok F.bare fun b z=>absurd z (by simp)
 obtain⟨oe,vs,a0,he,hc,hdc,hd,h0,h1⟩:=F.tr
 refine HT.ou I.ok.frames (jv (B':=fD s2.heap (dR (CX1 P w) P w K mg base N qual scope f cd A outer s H E).stack a a) (mr F.un I.stack I.stkFree) fun b hb=>MH _ (Je _ (Je _ hb))) rfl he hc hdc (fun b o e=>QQ _ e) (MH _ (by simp)) hd h1 h0 fun h' n=>?_
 have F2:=F.moved I.stack I.stkFree I2.stkFree n.st n.up n.tr
 exact⟨a,C,d,H2,rfl,F2.up I rfl,hE⟩
end
def ax (sp:Sp)(E:St->XK)(t:TA):TE:=fun σ H Q=>t σ H fun vs H1=>sp vs H1 Q (E σ)
section
variable {X:Cx}{CX:CXT}{k:Nat}{f:Addr}{fd:Jn}{ps:List Str}{sp:Sp}{E:St->XK}{x:Str}{p pos:Pos}{e:Expr}{es:List Expr}{t:TA}
def Ao {pins:List (Addr×Obj)}{σ:St}{H:Hp}{s:IQ}{Q:VK}{us:List Gt}{vs:List V}(F:aV X.prog X.w X.K X.mg X.base CX k f fd ps sp)(hr:bC k X.A)(hb:dG X.K fd ps [])(hx:iC CX X E)
  (I:Inv X pins σ H s)(r:aX vs us)(h:sp vs H Q (E σ)):wpAny (model X.prog X.w) X.A (call (.ref f) us) (EP X pins σ Q) X.xe s:=by
 have hl:us.length=ps.length:=by rw[<-r.length];exact F.len _ _ _ _ h
 have hb':=hb s us I.kIn (by rw[KW];exact hl)
 rw[KW]at hb'
 refine NZ (Mh (F.run X.A X.stack s H ⟨us,[]⟩ us vs Q (E σ) hr I.env0 hb' r h) fun r s' hq=>?_)
 cases r with
 |error e=>exact hx pins σ H s e s' I hq
 |ok fl=>
  cases fl with
  |ret u=>exact I.after hq
  |next=>exact Kg hq
  |brk=>exact Kg hq
  |cont=>exact Kg hq
def lF (F:aV X.prog X.w X.K X.mg X.base CX k f fd ps sp)(hr:bC k X.A)(hm:X.mg x=some (.ref f))(hk:Ph X.K (.ref f)=true)(hb:dG X.K fd ps [])(hx:iC CX X E)
  (ha:QA X (e::es) t)(hg:Gl X x:=by rfl)(hdb:(x==("__debug__":Str))=false:=by decide)(hs:bh (e::es)=true:=by rfl):QE X (.Call (.Name x p) (e::es) [] pos) (ax sp E t):=by
 refine⟨fun pins s σ H Q I h=>?_⟩
 have h':(bP e&&bh es)=true:=hs
 refine Ke (lQ I hg hm ?_ hdb)
 refine W.callWith_K (h₀:=X.base) I.ok.mod.kin hk (thn (ha.out pos pins s σ H _ I h) fun us s1 ⟨vs,H1,I1,r,q⟩=>⟨I1.kIn,?_⟩) (bc (Jf.mp h').1 es X.env) (bW (Jf.mp h').2)
 exact Ao F hr hb hx I1 r q
end
def Fun.okX {P:Jd}{w:JL}{K:If}{mg:Str->Option Gt}{base:Heap}{x qual:Str}{st:Stmt}{f:Addr}{fd:Jn}{N ps:List Str}{k:Nat}{sp:Sp}(F:Fun K x qual st f fd)(S:aC N ps (am st))(len:∀vs H Q E,sp vs H Q E->vs.length=ps.length)
  (hbody:∀(cdv:Gt)(A:JK)(outer:List Env)(s:IQ)(H:Hp)(vs:List V)(Q:VK)(E:XK),bC k (A.deeper (envOfC qual (am st) s.heap.objs.size f cdv))->sp vs H Q E->
   ∃t,PSs (dR (CX1 P w) P w K mg base N qual (am st) f cdv A outer s H E) (ba st) t/\t {nx:=fun _ H'=>Q .non H',rt:=Q} (start N vs) H):aV P w K mg base (CX1 P w) (k+1) f fd ps sp:=by
 obtain⟨oc,od,kV,doc,pm,an,cdv,ct,osl,rfl,lk,hcd⟩:=F.ex
 exact yN lk hcd S len fun A outer s H vs Q E hr hsp=>hbody cdv A outer s H vs Q E hr hsp
def jj (C:Addr)(d:Option Addr)(a:Addr):HO:=.ext fun h=>∃o vs,h.get? a=some o/\o.cls=.ref C/\o.dict=d/\o.data=.fields vs/\vs[2]?=some .none
def Au {P:Jd}{w:JL}{H:Hp}{h:Heap}{C a:Addr}{d:Option Addr}{o:Obj}{vs:Array Gt}(e:h.get? a=some o)(hc:o.cls=.ref C)(hdc:o.dict=d)(hd:o.data=.fields vs)(h2:vs[2]?=some .none):aU P w H h a (jj C d a):=
 ⟨⟨o,vs,e,hc,hdc,hd,h2⟩,⟨o,e⟩,fun _ _ ⟨o1,vs1,e1,c1,x1,d1,y1⟩ k=>⟨o1,vs1,k o1 e1,c1,x1,d1,y1⟩⟩
def zD {P:Jd}{w:JL}{H:Hp}{h:Heap}{C a:Addr}{d:Option Addr}(x:aU P w H h a (jj C d a)):∃o vs,h.get? a=some o/\o.cls=.ref C/\o.dict=d/\o.data=.fields vs/\vs[2]?=some .none:=x.1
section
variable {X:Cx}{pins:List (Addr×Obj)}{σ:St}{H H1 H':Hp}{s s0:IQ}{a:Addr}{o:HO}
def Inv.track (I0:Inv X pins σ H1 s0)(hex:X.ex=[])(I:Inv X pins σ H s)(new:s0.heap.get? a=none)(hn:H a=none)(ok:aU X.prog X.w (upd H a o) s.heap a o):Inv X pins σ (upd H a o) s:=by
 have ne:∀b u,s0.heap.get? b=some u->b≠a:=fun b u e z=>by rw[z,new]at e;cases e
 have ne0:∀b u,X.s₀.heap.get? b=some u->b≠a:=fun b u e=>by
  obtain⟨u',e'⟩:=I0.base.there b u e (by rw[hex];simp)
  exact ne b u' e'
 have nL:X.env.locals≠a:=by
  obtain⟨m,⟨o',_,_,e,_⟩,_⟩:=I0.loc
  exact ne _ _ e
 refine⟨I.ok,I.os,I.bare,⟨I.base.keep,I.base.slot,fun b u e n hx=>?_,I.base.there,fun b xs e=>?_,fun b u v e=>?_,fun b ps e=>?_⟩,I.loc,I.cell,?_,fun x c e=>?_,fun p hp=>?_,fun b u e=>?_,I.len⟩
 ·rw[ap (ne0 b u e)];exact I.base.free b u e n hx
 ·have:=I.base.tups b xs e
  rw[ap (ay this hn)];exact this
 ·have:=I.base.frzs b u v e
  rw[ap (ay this hn)];exact this
 ·obtain⟨more,this⟩:=I.base.tbls b ps e
  exact⟨more,by rw[ap (ay this hn)];exact this⟩
 ·rw[ap nL];exact I.free
 ·obtain⟨v,o',e',_⟩:=I0.cell x c e
  rw[ap (ne _ _ e')];exact I.freeC x c e
 ·obtain⟨h1,h2,h3⟩:=I.pin p hp
  exact⟨h1,by rw[ap (ne _ _ (I0.pin p hp).1)];exact h2,h3⟩
 ·by_cases hb:b=a
  ·subst hb
   rw[al]at e;cases e
   exact ok
  ·rw[ap hb]at e
   exact(I.hok b u e).stay (fun c v _ q=>q) (fun c q=>by
    have:c≠a:=ay q hn
    rw[ap this];exact q) fun c xs q=>by
    have:c≠a:=ay q hn
    rw[ap this];exact q
end
def cxH (X:Cx)(a:Addr):Cx:={X with A:=X.A.mark (some (.ref a)),calm:=false,xe:=fun _ _=>False}
section
variable {X:Cx}{pins:List (Addr×Obj)}{σ:St}{H:Hp}{s:IQ}{a:Addr}
def Cx.Ok.toH (ok:X.Ok):(cxH X a).Ok:=⟨ok.mod,ok.kind,ok.glob,ok.blt,ok.above,ok.inj,ok.has,ok.cab,fun h=>absurd (show false=true from h) Jc,ok.frames,ok.stk,ok.exf,ok.bs,ok.bsz,ok.noex,ok.exfs,ok.funs,ok.frf⟩
def Inv.toH (I:Inv X pins σ H s):Inv (cxH X a) pins σ H s:=⟨I.ok.toH,I.os,I.bare,I.base,I.loc,I.cell,I.free,I.freeC,I.pin,I.hok,I.len⟩
def Inv.ofH (ok:X.Ok)(I:Inv (cxH X a) pins σ H s):Inv X pins σ H s:=⟨ok,I.os,I.bare,I.base,I.loc,I.cell,I.free,I.freeC,I.pin,I.hok,I.len⟩
def SP.ofH {D:eO}{f:Flow}(ok:X.Ok)(h:SP (cxH X a) pins D f s):SP X pins D f s:=by
 cases f with
 |next=>obtain⟨σ',H',J,q⟩:=h;exact⟨σ',H',J.ofH ok,q⟩
 |brk=>obtain⟨σ',H',J,q⟩:=h;exact⟨σ',H',J.ofH ok,q⟩
 |cont=>obtain⟨σ',H',J,q⟩:=h;exact⟨σ',H',J.ofH ok,q⟩
 |ret u=>obtain⟨v,σ',H',J,r,q⟩:=h;exact⟨v,σ',H',J.ofH ok,r,q⟩
end
abbrev TH:=eO->St->Addr->Option Addr->Hp->Prop
def PH (X:Cx)(hs:List NI)(t:TH):Prop:=∀(pins:List (Addr×Obj))(s0:IQ)(σ:St)(H1 H':Hp)(C a:Addr)(d:Option Addr)(s3:IQ)(D:eO),X.stack=X.env::X.outer->X.env.frame=some X.env.locals->X.ex=[]->
 Inv X pins σ H1 s0->Fly X.prog X.w X.stack H1 s0 (.ref C) .none a d H' s3->dI X.K C->t D σ C d H'->wpAny (model X.prog X.w) X.A (handleBy (.ref a) X.env hs) (SP X pins D) X.xe s3
structure QH (X:Cx)(hs:List NI)(t:TH):Prop where
 out:PH X hs t
def yy:TH:=fun _ _ _ _ _=>False
def sY (i:Nat)(D:eO):eO:=⟨fun σ H=>D.nx (σ.set i none) H,D.rt,fun σ H=>D.bk (σ.set i none) H,fun σ H=>D.ct (σ.set i none) H⟩
def hAs (K:If)(Dc:Addr)(i:Nat)(ts:TS)(r:TH):TH:=fun D σ C d H=>∃b,iG K C Dc=some b/\Sel b (∀a,H a=none->ts (sY i D) (σ.set i (some (.ref a))) (upd H a (jj C d a))) (r D σ C d H)
section
variable {X:Cx}
def Av:QH X [] yy:=⟨fun _ _ _ _ _ _ _ _ _ _ _ _ _ _ _ _ h=>h.elim⟩
def tU {pins:List (Addr×Obj)}{σ:St}{H H':Hp}{s s':IQ}{cls:Gt}{a:Addr}{d:Option Addr}{M:RY}{A:JK}{E:Gt->IQ->Prop}{Q:Unit->IQ->Prop}(I:Inv X pins σ H s)(F:Fly X.prog X.w X.stack H s cls .none a d H' s')
  (hQ:∀s'',Fly X.prog X.w X.stack H s cls .none a d H' s''->Q () s''):wpAny M A (setFlight (.ref a) none) Q E s':=by
 obtain⟨T,a0,hT0,hT1,f1,f2,f3,f4⟩:=F.flying I
 refine HT.jR f1 f3 f4 fun h' n=>?_
 exact hQ _ (F.moved (oT:={cls:=.none,data:=.dict #[]}) I.stack I.stkFree (F.inv I).stkFree hT0 hT1 n.st n.up n.tr)
variable {x n:Str}{np hp:Pos}{Dc:Addr}{b0:Stmt}{suite:List Stmt}{bD:List NI}{ts:TS}{r:TH}{i:Nat}
def wF {A:JK}{E:Gt->IQ->Prop}{pins:List (Addr×Obj)}{s:IQ}{σ:St}{H:Hp}{u:Gt}{pos:Pos}{Q:Gt->IQ->Prop}(I:Inv X pins σ H s)(hg:Gl X x)(hm:X.mg x=some u)(h:Q u s)
  (hd:(x==("__debug__":Str))=false:=by decide):wpAny (model X.prog X.w) A (eval (.Name x pos) X.env) Q E s:=
 MS I.ok.kind hg (PD (by rw[I.ok.glob];exact I.mod.glob.keeps I.bk) hm h) hd
def GR (i:Nat)(hN:X.N.Nodup)(hD:dI X.K Dc)(hm:X.mg x=some (.ref Dc))(hs:∀a,QSs (cxH X a) (b0::suite) ts)(hr:QH X bD r)(hg:Gl X x:=by rfl)(hdb:(x==("__debug__":Str))=false:=by decide)
  (hi:X.N[i]? =some n:=by rfl)(hl:X.env.scope.names.lookup n=some .local:=by rfl):
  QH X (.ExceptHandler (some (.Name x np)) (some n) (b0::suite) hp::bD) (hAs X.K Dc i ts r):=by
 refine⟨fun pins s0 σ H1 H' C a d s3 D e1 e2 hex I F hC h=>?_⟩
 obtain⟨b,hb,q⟩:=h
 have I3:=F.inv I
 obtain⟨oe,vs,_,_,_,_,he,hc,hdc,hd,_⟩:=F.tr
 refine wpAny_handleBy_cons (codeAny_handlers_test (wF I3 hg hm ?_ hdb)) (by intro q;cases q)
 refine lE I3.kIn hC hD he hc hb ?_
 have q:=dP q
 cases b with
 |false=>exact hr.out pins s0 σ H1 H' C a d s3 D e1 e2 hex I F hC q
 |true=>
  refine codeAny_handlers_suite_as (tU I F fun s4 F4=>?_)
  have I4:=F4.inv I
  obtain⟨oe4,vs4,_,_,_,_,he4,hc4,hdc4,hd4,h04,_⟩:=F4.tr
  have I5:Inv X pins σ (upd H' a (jj C d a)) s4:=Inv.track I hex I4 F.new F.free (Au he4 hc4 hdc4 hd4 h04.b)
  have hcls:(X.env.scope.kind== .class||(X.env.scope.kind== .module&&X.env.locals !=X.env.globals))=false:=by rw[I.ok.kind];rfl
  refine iq (v:=.ref a) I5 hN hi (.inl hl) rfl (fun s6 I6=>?_) (.inr hl)
  refine Ju ((hs a).out pins s6 _ _ (sY i D) I6.toH (q a F.free)) (fun f s7 h7=>?_) fun _ _ z=>z.elim
  have h7:=SP.ofH I.ok h7
  have go:∀{σ':St}{H'':Hp}{Q:Unit->IQ->Prop},Inv X pins σ' H'' s7->(∀s8,Inv X pins (σ'.set i none) H'' s8->Q () s8)->wpAny (model X.prog X.w) X.A (do bindName X.env n .none;unbindBehindTheSuite X.env n hp) Q X.xe s7:=fun{σ' H'' Q} J hQ=>by
   obtain⟨m,hn,hloc⟩:=id J.loc
   refine wpAny_nameGoes_keeps hl hn hcls fun h' v hn' hs'=>hQ _ ?_
   obtain⟨oL,_,_,hoL,_⟩:=id hn
   refine⟨J.ok,J.os,J.bare,⟨fun b o e n hb hx=>?_,fun b o e n hb hx=>?_,J.base.free,fun b o e hx=>?_,J.base.tups,J.base.frzs,J.base.tbls⟩,⟨_,hn',fun j y v' e1 e2 e3=>?_⟩,fun y c e=>?_,J.free,J.freeC,fun p hp=>?_,fun b ob e=>?_,by simpa using J.len⟩
   ·exact(hs'.2 b (Jb (Jm (IS e) J.ok.above))).trans (J.base.keep b o e n hb hx)
   ·obtain⟨sl,e1⟩:=J.base.slot b o e n hb hx
    exact⟨sl,(hs'.2 b (Jb (Jm (IS e) J.ok.above))).trans e1⟩
   ·obtain⟨o',e1⟩:=J.base.there b o e hx
    exact⟨o',(hs'.2 b (Jb (Jm (IS e) J.ok.above))).trans e1⟩
   ·have hji:j≠i:=by
     rintro rfl
     have:j<σ'.length:=by rw[J.len];exact(IW.mp hi).1
     rw[Nx this]at e2;cases e2
    rw[NM (KQ hji)]at e2
    obtain⟨u,ru,lk⟩:=hloc j y v' e1 e2 e3
    refine⟨u,ru,?_⟩
    rcases lk with⟨k,e⟩|⟨k,c,e,z⟩
    ·refine .inl ⟨k,?_⟩
     have:y≠n:=fun e=>hji (kr hN e1 (e▸hi))
     simp[this,e]
    ·exact .inr ⟨k,c,e,z.sameBut hs' (J.cne y c e)⟩
   ·obtain⟨w',z⟩:=J.cell y c e
    exact⟨w',z.sameBut hs' (J.cne y c e)⟩
   ·obtain⟨e,n,ne,nf,d⟩:=J.pin p hp
    exact⟨(hs'.2 p.1 ne).trans e,n,ne,nf,d⟩
   ·refine(J.hok b ob e).stay (fun c w' hc q=>(hs'.2 c ?_).trans q) (fun _ q=>q) fun _ _ q=>q
    rintro rfl
    rcases hc with r|hc
    ·rw[<-r,J.free]at e;cases e
    ·rw[J.free]at hc;cases hc
  cases f with
  |next=>obtain⟨σ',H'',J,q'⟩:=h7;exact go J fun s8 J8=>⟨_,_,J8,q'⟩
  |brk=>obtain⟨σ',H'',J,q'⟩:=h7;exact go J fun s8 J8=>⟨_,_,J8,q'⟩
  |cont=>obtain⟨σ',H'',J,q'⟩:=h7;exact go J fun s8 J8=>⟨_,_,J8,q'⟩
  |ret u=>obtain⟨v,σ',H'',J,rv,q'⟩:=h7;exact go J fun s8 J8=>⟨v,_,_,J8,rv,q'⟩
end
def Bd (K:If)(tb:(St->XK)->TS)(th:TH)(te:TS):TS:=fun D σ H=>
 tb (fun σ' cls d H'=>∃C,cls=.ref C/\dI K C/\th D σ' C d H') {D with nx:=te D} σ H
abbrev cxT (X:Cx)(pn:List (Addr×Obj))(E':Gt->IQ->Prop):Cx:={X with pn:=pn,xe:=E'}
section
variable {X:Cx}{pins pn:List (Addr×Obj)}{σ:St}{H:Hp}{s:IQ}{E':Gt->IQ->Prop}
def Cx.Ok.toT (ok:X.Ok):(cxT X pn E').Ok:=⟨ok.mod,ok.kind,ok.glob,ok.blt,ok.above,ok.inj,ok.has,ok.cab,ok.hd,ok.frames,ok.stk,ok.exf,ok.bs,ok.bsz,ok.noex,ok.exfs,ok.funs,ok.frf⟩
def Inv.toT (I:Inv X pins σ H s):Inv (cxT X (X.pn++pins) E') [] σ H s:=⟨I.ok.toT,I.os,I.bare,I.base,I.loc,I.cell,I.free,I.freeC,fun p hp=>I.pin p (by
 have hp:p∈(X.pn++pins)++[]:=hp
 rwa [KW]at hp),I.hok,I.len⟩
def Inv.ofT {pins':List (Addr×Obj)}(ok:X.Ok)(I:Inv (cxT X (X.pn++pins) E') pins' σ H s):Inv X pins σ H s:=⟨ok,I.os,I.bare,I.base,I.loc,I.cell,I.free,I.freeC,fun p hp=>I.pin p (Lf _ hp),I.hok,I.len⟩
def EU {body orelse:List Stmt}{h0:NI}{hs:List NI}{pos:Pos}{tb:(St->XK)->TS}{te:TS}{th:TH}
  (hb:∀(pn':List (Addr×Obj))(E':Gt->IQ->Prop)(EH:St->XK),iC (CX1 X.prog X.w) (cxT X pn' E') EH->QSs (cxT X pn' E') body (tb EH))(hh:QH X (h0::hs) th)(he:QSs X orelse te)
  (e1:X.stack=X.env::X.outer:=by rfl)(e2:X.env.frame=some X.env.locals:=by rfl)(hex:X.ex=[]:=by rfl):QS X (.Try body (h0::hs) orelse [] pos) (Bd X.K tb th te):=by
 refine⟨fun pins s σ H D I h=>?_⟩
 let E':Gt->IQ->Prop:=fun e s1=>∃σ1 H1 s0 C a d H',e=.ref a/\Inv X pins σ1 H1 s0/\Fly X.prog X.w X.stack H1 s0 (.ref C) .none a d H' s1/\dI X.K C/\th D σ1 C d H'
 have pass:iC (CX1 X.prog X.w) (cxT X (X.pn++pins) E') (fun σ' cls d H'=>∃C,cls=.ref C/\dI X.K C/\th D σ' C d H'):=by
  intro pins' σ1 H1 s0 e s1 I1 hx
  obtain⟨a,C,d,H',rfl,F,C',ec,hC,ht⟩:=hx
  cases ec
  exact⟨σ1,H1,s0,C,a,d,H',rfl,I1.ofT I.ok,F,hC,ht⟩
 refine wpAny_Try_except (Ju ((hb (X.pn++pins) E' _ pass).out [] s σ H _ I.toT h) (fun f s1 h1=>?_) fun e s1 h1=>?_)
 ·cases f with
  |next=>
   obtain⟨σ',H',J,q⟩:=h1
   exact he.out pins s1 σ' H' D (J.ofT I.ok) q
  |brk=>obtain⟨σ',H',J,q⟩:=h1;exact⟨σ',H',J.ofT I.ok,q⟩
  |cont=>obtain⟨σ',H',J,q⟩:=h1;exact⟨σ',H',J.ofT I.ok,q⟩
  |ret u=>obtain⟨v,σ',H',J,rv,q⟩:=h1;exact⟨v,σ',H',J.ofT I.ok,rv,q⟩
 ·obtain⟨σ1,H1,s0,C,a,d,H',rfl,I1,F,hC,ht⟩:=h1
  obtain⟨T,a0,hT0,hT1,f1,f2,f3,f4⟩:=F.flying I1
  have hfr:=I1.ok.frames
  rw[e1]at hfr
  have f3':=f3
  rw[e1]at f3'
  have f1':=f1
  have f2':=f2
  have f4':=f4
  rw[e1]at f1' f2' f4'
  refine HT.lr hfr f3' e2 f4' f1' f2' fun h' n1=>?_
  refine HT.jR (s:={s1 with heap:=h'}) n1.st n1.fr n1.tr fun h'' n2=>?_
  have st:(fD s1.heap X.stack a T).StaysIn h'':=by rw[e1];exact n2.st
  have tr:HT.TrD h'' (fD s1.heap X.stack a T) a (.ref C) a0 d .none:=by rw[e1];exact n2.tr
  have F3:=F.moved (oT:={cls:=.none,data:=.dict #[]}) I1.stack I1.stkFree (F.inv I1).stkFree hT0 hT1 st (n1.up.trans n2.up) tr
  exact hh.out pins s0 σ1 H1 H' C a d _ D e1 e2 hex I1 F3 hC ht
end
structure jx (K:If)(C:Addr):Prop where
 ga:Mp K (.ref C) "__getattribute__"=some (some (.builtin "BaseException.__getattribute__"))
 na:Mp K (.ref C) "__getattr__"=some none
 cl:Mp K (.ref C) "__class__"=some (some (.builtin "object.__class__"))
 mo:OJ K C (.type "object")=some true
 mb:OJ K C (.type "BaseException")=some true
section
variable {K:If}{prog:Jd}{w:JL}{A:JK}{E:Gt->IQ->Prop}{h:Heap}{g:Array OK}{d:Drawn}{t:Nat}{os:OsState}{a C:Addr}{o:Obj}
def vO {M:RY}{nameV:Gt}{Q:Unit->IQ->Prop}(X:K.In h)(G:jx K C)(hx:h.get? a=some o)(hc:o.cls=.ref C)(hq:Q () ⟨h,g,d,t,os⟩):wpAny M A (checkBuiltinCall "BaseException.__getattribute__" ⟨[.ref a,nameV],[]⟩) Q E ⟨h,g,d,t,os⟩:=by
 have hk:builtinKind "BaseException.__getattribute__"=some .slot:=by decide+kernel
 have hsplit:splitId "BaseException.__getattribute__"=some ("BaseException","__getattribute__"):=by decide+kernel
 have f8:=W.looks_mroIn (M:=M) X G.mb
 have ha:=F.args_bexc_ga (.ref a) nameV
 simp only[checkBuiltinCall,hk,hsplit]
 refine cW ?_
 ·unfold isInstance
  repeat (first|(with_reducible refine Lr hx ?_;rw[hc])|with_reducible refine f8.at ?_ |wp_step)
  exact hq
end
end L2
namespace HT
open PySem PyProof.Rows
section
variable {prog:Jd}{w:JL}{A:JK}{E:Gt->IQ->Prop}{s:IQ}
def iT {t sl:Addr}{items:Array Gt}{vl vu:Gt}{lo hi:Option Int}{Q:Gt->IQ->Prop}(ht:NP s.heap t items)(hs:s.heap.IsSliceOf sl vl vu .none)(pl:Pm vl lo)(pu:Pm vu hi)
  (hw:sIx items.size 0 lo=0/\sIx items.size items.size hi=items.size)(h:Q (.ref t) s):wpAny (model prog w) A (getItem (.ref t) (.ref sl)) Q E s:=by
 obtain⟨os,hos,hcs,hds⟩:=id hs
 have hTs:s.TypeIs (.ref sl) "slice":=⟨os,hos,hcs⟩
 unfold getItem
 try with_reducible refine Km ?_
 first|refine cW (tx ?_)|skip
 refine cW (SE ht.typeIs (by decide) ?_)
 refine cW (Jj (name:=JM "__getitem__") ht.typeIs Kl
  (Jo Kl ht.typeIs Sd ?_ (Sq _ _)))
 show wpAny _ _ (NS (.ref t)>>=_) _ _ s
 refine cW (tupleItemsOf_ ht ?_)
 refine cW (Nm hTs ?_)
 rw[if_pos (by decide)]
 refine cW (gE hs pl pu ?_)
 have hyes:(((sIx items.size 0 lo:Nat):Int)==0&&(1:Int)==1&&(sIx items.size items.size hi- sIx items.size 0 lo)==items.size)=true:=by
  rw[hw.1,hw.2];simp
 show wpAny _ _ (if (((sIx items.size 0 lo:Nat):Int)==0&&(1:Int)==1&&(sIx items.size items.size hi- sIx items.size 0 lo)==items.size)=true then _ else _) _ _ s
 rw[if_pos hyes]
 have hte:s.TypeIs (.ref t) "tuple":=ht.typeIs
 unfold Td
 repeat (first|exact⟨_,rfl,tx h⟩|(with_reducible refine Nm hte ?_)|wp_step)
end
section
variable {prog:Jd}{w:JL}{A:JK}{E:Gt->IQ->Prop}{s:IQ}
def wj {t b:Addr}{ws:List Gt}{Q:Gt->IQ->Prop}(ht:NP s.heap t #[])(hb:NP s.heap b ws.toArray)(h1:Q (.ref b) s):wpAny (model prog w) A (binaryOp .Add (.ref t) (.ref b)) Q E s:=by
 obtain⟨⟨cls,dd,data,sl⟩,ho,hc,n,hd⟩:=id ht
 obtain⟨⟨cls2,dd2,data2,sl2⟩,ho2,hc2,n2,hd2⟩:=id hb
 simp only at hc hd hc2 hd2
 subst hc hd hc2 hd2
 exact Rr ⟨_,ho,rfl⟩ ⟨_,ho2,rfl⟩ Py QN Nj Nc (MV _ _)
  (tuple_addW0 t b #[] ws.toArray n n2 dd dd2 sl sl2 (by simp)) ⟨ho,ho2,h1⟩
end
end HT
namespace L2
open PySem PySem.Spec PyProof.Rows
def ar.rfl' {H:Hp}:ar H H:=fun _ _ e=>e
def sx {xs:List V}{lo hi:Option Int}(h:HT.sIx xs.length 0 lo=0/\HT.sIx xs.length xs.length hi=xs.length):eu xs lo hi=xs:=by
 unfold eu
 rw[h.1,h.2,Sg,OE,RF]
section
variable {X:Cx}
def yh:V->Option Int->Option Int->Hp->VK->Prop:=fun x lo hi H Q=>∃a xs,x=.ref a/\H a=some (.tup xs)/\∀p H',ar H H'->H' p=some (.tup (eu xs lo hi))->Q (.ref p) H'
def yV:SlR X yh:=by
 intro pins s σ H x v vl vu lo hi sl Q I rx hs pl pu h
 obtain⟨a,xs,rfl,hx,q⟩:=h
 have hq:SqT X.K H a xs:=.inl (.inl hx)
 by_cases hw:HT.sIx xs.length 0 lo=0/\HT.sIx xs.length xs.length hi=xs.length
 ·cases rx
  obtain⟨its,r,ht,hz⟩:=I.tuple hq
  have hlen:its.toArray.size=xs.length:=by rw[IX];exact r.length.symm
  refine⟨"tuple",_,Kl.lookup,ht.typeIs,?_⟩
  refine HT.iT ht hs pl pu (by rw[hlen];exact hw) ?_
  exact⟨.ref a,H,I,rfl,q a H ar.rfl' (by rw[sx hw];exact hx)⟩
 ·exact BP pins s σ H _ v vl vu lo hi sl Q I rx hs pl pu ⟨a,xs,rfl,hq,hw,fun p hp=>q p _ (ar.upd hp) (al ..)⟩
def yb:R2:=fun x y H Q=>∃a b xs ys,x=.ref a/\y=.ref b/\H a=some (.tup xs)/\H b=some (.tup ys)/\xs.length+ys.length<=sizeLine/\∀p H',ar H H'->H' p=some (.tup (xs++ys))->Q (.ref p) H'
def An:OpR X (binaryOp .Add) yb:=by
 intro pins s σ H x y v u Q I rx ry h
 obtain⟨a,b,xs,ys,rfl,rfl,ha,hb,hz,q⟩:=h
 by_cases hx:xs=[]
 ·subst hx
  cases rx
  cases ry
  obtain⟨its,r1,p1,_⟩:=I.tuple (.inl (.inl ha))
  obtain⟨its2,r2,p2,_⟩:=I.tuple (.inl (.inl hb))
  cases r1
  exact HT.wj p1 p2 ⟨.ref b,H,I,rfl,q b H ar.rfl' hb⟩
 ·refine zA pins s σ H _ _ v u Q I rx ry ⟨a,b,xs,ys,rfl,rfl,.inl (.inl ha),.inl (.inl hb),hx,hz,fun e=>?_,fun _ p hp=>q p _ (ar.upd hp) (al ..)⟩
  subst e
  exact q a H ar.rfl' (by rw[KW];exact ha)
def bo (K:If):R2:=fun x y H Q=>match x,y with
 |.int i,.int j=>Q (.int (i+j)) H
 |.str i,.str j=>i.length+j.length<=sizeLine/\Q (.str (i++j)) H
 |.ref a,.ref b=>Bo (.ref a) (.ref b) H Q\/yb (.ref a) (.ref b) H Q
 |_,_=>False
def bu:OpR X (binaryOp .Add) (bo X.K):=(Df.or (rz.or (Bv.or An))).imp fun x y H Q q=>by
 unfold bo at q
 split at q
 ·exact .inl ⟨_,_,rfl,rfl,q⟩
 ·exact .inr (.inl ⟨_,_,rfl,rfl,q.1,q.2⟩)
 ·exact .inr (.inr q)
 ·exact q.elim
def BN (K:If):V->Option Int->Option Int->Hp->VK->Prop:=fun x lo hi H Q=>Bb K x lo hi H Q\/yh x lo hi H Q
def CG:SlR X (BN X.K):=zn.or yV
end
def wV {K:If}{C D:Addr}{b:Bool}(h:OJ K C (.ref D)=some b):iG K C D=some b:=by
 unfold OJ W.clsIn at h
 unfold iG
 split at h
 ·rename_i cd sl e
  rw[e]
  dsimp only[Option.bind]at h⊢
  split at h
  ·cases h
  ·exact h
 ·cases h
def Fun.okN {P:Jd}{w:JL}{K:If}{mg:Str->Option Gt}{base:Heap}{CX:CXT}{x qual:Str}{st:Stmt}{f:Addr}{fd:Jn}{N ps:List Str}{k:Nat}{sp:Sp}(F:Fun K x qual st f fd)(S:aC N ps (am st))(len:∀vs H Q E,sp vs H Q E->vs.length=ps.length)
  (hbody:∀(cdv:Gt)(A:JK)(outer:List Env)(s:IQ)(H:Hp)(vs:List V)(Q:VK)(E:XK),bC k (A.deeper (envOfC qual (am st) s.heap.objs.size f cdv))->sp vs H Q E->
   ∃t,PSs (dR CX P w K mg base N qual (am st) f cdv A outer s H E).nox (ba st) t/\t {nx:=fun _ H'=>Q .non H',rt:=Q} (start N vs) H):aV P w K mg base CX (k+1) f fd ps sp:=by
 obtain⟨oc,od,kV,doc,pm,an,cdv,ct,osl,rfl,lk,hcd⟩:=F.ex
 refine yN lk hcd S len fun A outer s H vs Q E hr hsp=>?_
 obtain⟨t,h,q⟩:=hbody cdv A outer s H vs Q E hr hsp
 exact⟨t,h.nox,q⟩
section
variable {X:Cx}
def Dr:V->Option Int->Option Int->Hp->VK->Prop:=fun x lo hi H Q=>∃z,x=.str z/\z.length<=sizeLine/\Q (.str (Txt.slice z lo hi)) H
def BI:SlR X Dr:=by
 intro pins s σ H x v vl vu lo hi sl Q I rx hs pl pu h
 obtain⟨z,rfl,hz,q⟩:=h
 obtain⟨t,rfl⟩:=(show ∃t,v=MZ z t from rx)
 refine⟨"str",_,F.slot_str_getitem.lookup,SL _ _ _,?_⟩
 have fin:∀(l u:Option (Int×Tok)),l.map (·.1)=lo->u.map (·.1)=hi->s.heap.IsSlice sl l u none->wpAny (model X.prog X.w) X.A (getItem (.str z t) (.ref sl)) (EP X pins σ Q) X.xe s:=fun l u e1 e2 hs'=>by
  subst e1 e2
  refine wpAny_getItem_str_slice (l:=l) (u:=u) (st:=none) hs' rfl (post_val_or_str ⟨JQ (Txt.slice_le z _ _) hz,fun t' k=>⟨.str _,H,I.tok k,⟨_,rfl⟩,q⟩⟩)
 obtain⟨os,hos,hcs,hds⟩:=hs
 cases pl with
 |none=>cases pu with
  |none=>exact fin none none rfl rfl ⟨os,hos,hcs,hds⟩
  |int j tj=>exact fin none (some (j,tj)) rfl rfl ⟨os,hos,hcs,hds⟩
 |int i ti=>cases pu with
  |none=>exact fin (some (i,ti)) none rfl rfl ⟨os,hos,hcs,hds⟩
  |int j tj=>exact fin (some (i,ti)) (some (j,tj)) rfl rfl ⟨os,hos,hcs,hds⟩
def fJ (K:If):V->Option Int->Option Int->Hp->VK->Prop:=fun x lo hi H Q=>BN K x lo hi H Q\/Dr x lo hi H Q
def eN:SlR X (fJ X.K):=CG.or BI
def jm:V->Bool
 |.int _=>true
 |.str _=>true
 |_=>false
def rJ {A:JK}{s:IQ}{x y:V}{u v:Gt}(rx:aY x u)(ry:aY y v)(hx:jm x=true)(hy:jm y=true):PySem.SeqAt.EqAt A s u v (decide (x=y)):=by
 cases x<;>first|cases hx|skip
 all_goals (cases y<;>first|cases hy|skip)
 ·obtain⟨t,rfl⟩:=rx;obtain⟨t',rfl⟩:=ry
  have e:=NN (A:=A) (s:=s) ‹Int› t ‹Int› t'
  rename_i i j
  have e2:decide (V.int i=V.int j)=(i==j):=by rw[iW (f:=V.int) fun _ _ e=>V.int.inj e];rfl
  rw[e2];exact NN i t j t'
 ·obtain⟨t,rfl⟩:=rx;obtain⟨t',rfl⟩:=ry
  exact Ox _ _ _ _
 ·obtain⟨t,rfl⟩:=rx;obtain⟨t',rfl⟩:=ry
  exact Ow _ _ _ _
 ·obtain⟨t,rfl⟩:=rx;obtain⟨t',rfl⟩:=ry
  rename_i i j
  have e2:decide (V.str i=V.str j)=(i==j):=by
   rw[iW (f:=V.str) fun _ _ e=>V.str.inj e]
   by_cases h:i=j
   ·rw[h];simp
   ·rw[decide_eq_false h];exact(beq_eq_false_iff_ne.mpr h).symm
  rw[e2];exact RO i t j t'
def ub {xs ys:List V}:decide (xs=ys)=((MN (min xs.length ys.length)).all (fun j=>decide (xs[j]?=ys[j]?))&&xs.length==ys.length):=by
 by_cases h:xs=ys
 ·subst h;simp
 ·rw[decide_eq_false h]
  by_cases hl:xs.length=ys.length
  ·rw[hl,Nat.min_self,beq_self_eq_true,Sv]
   symm
   rw[List.all_eq_false]
   apply Ls
   intro hn
   apply h
   apply Rn fun i=>?_
   by_cases hi:i<ys.length
   ·apply Ls
    intro hne
    exact hn ⟨i,NQ.mpr hi,by simpa using hne⟩
   ·rw[KS (by omega),KS (by omega)]
  ·have:(xs.length==ys.length)=false:=by simpa using hl
   rw[this,Px]
def BF (K:If):R2:=fun x y H Q=>∃a b xs ys,x=.ref a/\y=.ref b/\SqT K H a xs/\SqT K H b ys/\xs.all jm=true/\ys.all jm=true/\Q (.bl (decide (xs=ys))) H
def Cu (hu:X.A.units<cLine):OpR X (compareOp .Eq) (BF X.K):=by
 intro pins s σ H x y v u Q I rx ry h
 obtain⟨a,b,xs,ys,rfl,rfl,ha,hb,px,py,q⟩:=h
 cases rx
 cases ry
 obtain⟨its,r1,p1,_⟩:=I.tuple ha
 obtain⟨its2,r2,p2,_⟩:=I.tuple hb
 have l1:=r1.length
 have l2:=r2.length
 refine PySem.SeqAt.eq_tupleAt (e:=fun j=>decide (xs[j]?=ys[j]?)) p1 p2 hu (fun j h1 h2=>?_) ?_
 ·have h1:j<its.length:=by simpa using h1
  have h2:j<its2.length:=by simpa using h2
  have e1:xs[j]?=some xs[j]:=IR (by omega)
  have e2:ys[j]?=some ys[j]:=IR (by omega)
  obtain⟨u1,g1,ru1⟩:=r1.get e1
  obtain⟨u2,g2,ru2⟩:=r2.get e2
  have g1':its.toArray[j]=u1:=by
   rw[IR h1]at g1;simpa using Js g1
  have g2':its2.toArray[j]=u2:=by
   rw[IR h2]at g2;simpa using Js g2
  rw[g1',g2',e1,e2]
  have:decide (some xs[j]=some ys[j])=decide (xs[j]=ys[j]):=by simp
  rw[this]
  exact rJ ru1 ru2 (Kv.mp px _ (MI _)) (Kv.mp py _ (MI _))
 ·have e:=ub (xs:=xs) (ys:=ys)
  rw[l1,l2]at e
  simp only[IX]
  rw[<-e]
  exact⟨.bl _,H,I,rfl,q⟩
def uZ:R2:=fun x y H Q=>match x,y with
 |.str i,.str j=>Q (.bl (!(Oy j i 0 j.length 1).isEmpty)) H
 |_,_=>False
def Hr:OpR X (compareOp .In) uZ:=tO.imp fun x y H Q q=>by
 unfold uZ at q
 split at q
 ·exact⟨_,_,rfl,rfl,q⟩
 ·exact q.elim
def sI:List V->Hp->VK->Prop:=fun xs H Q=>match xs with
 |[.str z]=>∃n,PySem.intText? z=some n/\z.length<=640/\Q (.int n) H
 |[.bl b]=>Q (.int (if b then 1 else 0)) H
 |_=>False
def BL:bI X (.type "int") sI:=fun pins s σ H xs us Q I r h=>by
 unfold sI at h
 split at h
 ·obtain⟨n,h1,h2,q⟩:=h
  obtain⟨u,rfl,ru⟩:=dU r
  obtain⟨t,rfl⟩:=ru
  exact W.KIN.call_text h1 h2 ⟨.int n,H,I.tok _,⟨_,rfl⟩,q⟩
 ·obtain⟨u,rfl,ru⟩:=dU r
  cases ru
  exact call_int_bool ⟨.int _,H,I.tok _,⟨_,rfl⟩,h⟩
 ·exact h.elim
end
end L2
namespace HT
open PySem PyProof.Rows
section
variable {prog:Jd}{w:JL}{A:JK}{E:Gt->IQ->Prop}{s:IQ}
def gC {it t:Addr}{i:Nat}{items:Array Gt}{x:Gt}{Q:Gt->IQ->Prop}(hit:s.heap.IsTupleIter it t i)(ht:s.heap.IsTuple t items)(hx:items[i]?=some x)
  (hQ:∀h',h'.IsTupleIter it t (i+1)->Kh it s.heap h'->Q x {s with heap:=h'}):wpAny (model prog w) A (IZ (.ref it)) Q E s:=by
 obtain⟨o,ho,hc,hd⟩:=id hit
 obtain⟨ol,hol,_,nl,hdl⟩:=ht
 unfold IZ
 refine cW (Jj (name:=JM "__next__") hit.typeIs Mj
  (Jo Mj hit.typeIs PC ?_ (Po _)))
 show wpAny _ _ (field (.ref it) 0>>=_) _ _ s
 refine cW (Jh ho hd (x:=.ref t) rfl ?_)
 show wpAny _ _ (if (Ji t==Kk)=true then _ else _) _ _ s
 rw[if_neg (show ¬((Ji t==Kk)=true)from Jc)]
 show wpAny _ _ (field (.ref it) 1>>=_) _ _ s
 refine cW (Jh ho hd (x:=.int i 0) rfl ?_)
 show wpAny _ _ (seqItems? (.ref t)>>=_) _ _ s
 refine cW (JH hol hdl ?_)
 simp only[Kb,hx]
 refine cW (Lm ho hd (by simp) (tx ⟨x,rfl,tx (hQ _ ?_ (JN ..))⟩))
 exact⟨_,JC _ ho (Kz (JO hd _)),(Me ..).trans hc,by rw[JO hd];simp[rawInt]⟩
def ju {it t:Addr}{i:Nat}{items:Array Gt}{Q:Gt->IQ->Prop}(hh:A.handled=none)(hit:s.heap.IsTupleIter it t i)(ht:s.heap.IsTuple t items)(hx:items[i]?=none)
  (hE:∀h' e,MP it s.heap h'->(∃o,h'.get? e=some o/\o.cls=.type "StopIteration")->E (.ref e) {s with heap:=h'}):wpAny (model prog w) A (IZ (.ref it)) Q E s:=by
 obtain⟨o,ho,hc,hd⟩:=id hit
 obtain⟨ol,hol,_,nl,hdl⟩:=ht
 unfold IZ
 refine cW (Jj (name:=JM "__next__") hit.typeIs Mj
  (Jo Mj hit.typeIs PC ?_ (Po _)))
 show wpAny _ _ (field (.ref it) 0>>=_) _ _ s
 refine cW (Jh ho hd (x:=.ref t) rfl ?_)
 show wpAny _ _ (if (Ji t==Kk)=true then _ else _) _ _ s
 rw[if_neg (show ¬((Ji t==Kk)=true)from Jc)]
 show wpAny _ _ (field (.ref it) 1>>=_) _ _ s
 refine cW (Jh ho hd (x:=.int i 0) rfl ?_)
 show wpAny _ _ (seqItems? (.ref t)>>=_) _ _ s
 refine cW (JH hol hdl ?_)
 simp only[Kb,hx]
 refine cW (KY (cW (Lm ho hd (by simp) ?_)))
 show wpAny _ _ (newExc (.type "StopIteration") []>>=_) _ _ _
 refine cW ?_
 simp only[newExc,newTuple]
 refine cW (JF ?_ (by size_fits))
 refine cW (m:=firstArgMember _ _) (KZ (a:=Kk) (by first|rfl|(simp only[firstArgMember];rfl)) ?_)
 refine JF ?_ (by size_fits)
 simp only[raiseNew]
 refine cW (OH ?_)
 first|rw[show A.in1.handled=none from hh]|rw[hh]
 refine cW (tx (PY ?_))
 exact hE _ _ (((JN ..).extBut.push _).push _) ⟨_,IT _ rfl,rfl⟩
structure kJ (h:Heap)(z TI TO i1 i2 t1 t2:Addr)(xs ys:Array Gt)(f0:Gt)(k:Nat):Prop where
 z:MU h z TI TO f0
 ti:KA h TI (.ref i1) (.ref i2)
 to:∃a b,KA h TO a b
 j1:h.IsTupleIter i1 t1 k
 j2:h.IsTupleIter i2 t2 k
def tM {z TI TO i1 i2 t1 t2:Addr}{k:Nat}{xs ys:Array Gt}{x y:Gt}{Q:Option Gt->IQ->Prop}(D:LU z TI TO i1 i2 t1 t2)(Z:kJ s.heap z TI TO i1 i2 t1 t2 xs ys .none k)
  (ht1:s.heap.IsTuple t1 xs)(ht2:s.heap.IsTuple t2 ys)(hx:xs[k]? =some x)(hy:ys[k]? =some y)
  (hQ:∀h',kJ h' z TI TO i1 i2 t1 t2 xs ys (rawInt s.heap.objs.size) (k+1)->KA h' s.heap.objs.size x y->
   (∀c o,c≠z->c≠TO->c≠i1->c≠i2->s.heap.get? c=some o->h'.get? c=some o)->Q (some (.ref s.heap.objs.size)) {s with heap:=h'}):
  wpAny (model prog w) A (pyNext (.ref z)) Q E s:=by
 obtain⟨hz,hTI,⟨a,b,hTO⟩,h1,h2⟩:=Z
 have hT:s.TypeIs (.ref z) "zip":=⟨_,hz,rfl⟩
 unfold pyNext
 refine cW (Kn (Jj (name:=JM "__next__") hT Ki (Jo Ki hT LV ?_ (LH _))))
 show wpAny _ _ (field (.ref z) 2 >>= _) _ _ _
 refine cW (Jh hz rfl (x:=.bool false) rfl ?_)
 show wpAny _ _ (field (.ref z) 3 >>= _) _ _ _
 refine cW (Jh hz rfl (x:=.ref TI) rfl (cW (JH hTI rfl ?_)))
 show wpAny _ _ (Ja (.ref z) >>= _) _ _ _
 refine cW ?_
 unfold Ja
 refine cW (Jh hz rfl (x:=.none) rfl (tx ?_))
 simp only[if_true]
 refine cW (KY (cW (Jh hz rfl (x:=.ref TO) rfl (cW (Jx hz (by simp) fun ha hza hsa=>cW ?_)))))
 replace hza:MU ha z TI TO .ellipsis:=hza
 simp only[Mk,Mu,KU,LA]
 refine cW (cW (LB ?_))
 show wpAny _ _ (IZ (.ref i1) >>= _) _ _ _
 refine cW (gC (h1.at fun o e=>hsa.extBut _ _ D.i1z e) (ht1.at fun o e=>hsa.extBut _ _ D.l1z e) hx fun hb h1b hsb=>tx ?_)
 have hTOb:KA hb TO a b:=hsb.extBut _ _ D.TOi1 (hsa.extBut _ _ D.TOz hTO)
 refine cW (JH hTOb rfl (cW (Lj hTOb fun hc hTOc hsc=>?_)))
 replace hTOc:KA hc TO x b:=hTOc
 refine cW (Mz (tx ?_))
 refine cW (cW (LB ?_))
 show wpAny _ _ (IZ (.ref i2) >>= _) _ _ _
 refine cW (gC (h2.at fun o e=>hsc.extBut _ _ D.TOi2.symm (hsb.extBut _ _ D.i12.symm (hsa.extBut _ _ D.i2z e)))
  (ht2.at fun o e=>hsc.extBut _ _ D.l2TO (hsb.extBut _ _ D.l2i1 (hsa.extBut _ _ D.l2z e))) hy fun hd h2d hsd=>tx ?_)
 have hTOd:KA hd TO x b:=hsd.extBut _ _ D.TOi2 hTOc
 refine cW (JH hTOd rfl (cW (Lj hTOd fun he hTOe hse=>?_)))
 replace hTOe:KA he TO x y:=hTOe
 refine cW (Mz (tx (tx ?_)))
 refine cW (JH hTOe rfl (cW (Oo ?_)))
 have hsz:he.objs.size=s.heap.objs.size:=by rw[hse.1,hsd.1,hsc.1,hsb.1,hsa.1]
 have hze:MU he z TI TO .ellipsis:=hse.extBut _ _ D.TOz.symm (hsd.extBut _ _ D.i2z.symm (hsc.extBut _ _ D.TOz.symm (hsb.extBut _ _ D.i1z.symm hza)))
 have hke:∀c o,c≠z->c≠TO->c≠i1->c≠i2->s.heap.get? c=some o->he.get? c=some o:=fun c o c1 c2 c3 c4 e=>
  hse.extBut _ _ c2 (hsd.extBut _ _ c4 (hsc.extBut _ _ c2 (hsb.extBut _ _ c3 (hsa.extBut _ _ c1 e))))
 have h1e:he.IsTupleIter i1 t1 (k+1):=h1b.at fun o e=>hse.extBut _ _ D.TOi1.symm (hsd.extBut _ _ D.i12 (hsc.extBut _ _ D.TOi1.symm e))
 have h2e:he.IsTupleIter i2 t2 (k+1):=h2d.at fun o e=>hse.extBut _ _ D.TOi2.symm e
 show wpAny _ _ (JV (.ref z) (.ref he.objs.size) >>= _) _ _ _
 refine cW ?_
 unfold JV
 have hzf:MU (he.push {cls:=.type "tuple",data:=.seq #[x,y]}) z TI TO .ellipsis:=gV _ hze
 refine cW (Jx hzf (by simp) fun hg hzg hsg=>?_)
 replace hzg:MU hg z TI TO (rawInt he.objs.size):=hzg
 refine Jx hzg (by simp) fun hh hzh hsh=>?_
 replace hzh:MU hh z TI TO (rawInt he.objs.size):=hzh
 have up:∀c o,c≠z->he.get? c=some o->hh.get? c=some o:=fun c o c1 e=>hsh.extBut _ _ c1 (hsg.extBut _ _ c1 (gV _ e))
 have hTh:KA hh he.objs.size x y:=hsh.extBut _ _ (Kc (IS hze)) (hsg.extBut _ _ (Kc (IS hze)) (IT _ rfl))
 rw[hsz]at hzh hTh
 have fin:=hQ hh ⟨hzh,up _ _ D.TIz (hke _ _ D.TIz D.TITO D.TIi1 D.TIi2 hTI),⟨x,y,up _ _ D.TOz hTOe⟩,h1e.at fun o e=>up _ o D.i1z e,h2e.at fun o e=>up _ o D.i2z e⟩ hTh fun c o c1 c2 c3 c4 e=>up c o c1 (hke c o c1 c2 c3 c4 e)
 rw[<-hsz]at fin
 exact tx ⟨_,rfl,tx fin⟩
def xb {z TI TO i1 i2 t1 t2:Addr}{k:Nat}{xs ys:Array Gt}{Q:Option Gt->IQ->Prop}(hh:A.handled=none)(D:LU z TI TO i1 i2 t1 t2)(Z:kJ s.heap z TI TO i1 i2 t1 t2 xs ys .none k)
  (ht1:s.heap.IsTuple t1 xs)(ht2:s.heap.IsTuple t2 ys)(hend:xs[k]? =none\/ys[k]? =none)
  (hQ:∀h',(∀c o,c≠z->c≠TO->c≠i1->c≠i2->s.heap.get? c=some o->h'.get? c=some o)->Q none {s with heap:=h'}):wpAny (model prog w) A (pyNext (.ref z)) Q E s:=by
 obtain⟨hz,hTI,⟨a,b,hTO⟩,h1,h2⟩:=Z
 have hT:s.TypeIs (.ref z) "zip":=⟨_,hz,rfl⟩
 have fin:∀h' e,(∀c o,c≠z->c≠TO->c≠i1->c≠i2->s.heap.get? c=some o->h'.get? c=some o)->(∃o,h'.get? e=some o/\o.cls=.type "StopIteration")->
   wpAny (model prog w) A (do if<-isInstance (.ref e) (.type "StopIteration")then pure none else throw (.ref e)) Q E {s with heap:=h'}:=fun h' e hk ⟨o,ho,hc⟩=>
  cW (LY (T:="StopIteration") (b:=true) ⟨o,ho,hc⟩ Nu (tx (hQ _ hk)))
 unfold pyNext
 refine cW (Kn (Jj (name:=JM "__next__") hT Ki (Jo Ki hT LV ?_ (LH _))))
 show wpAny _ _ (field (.ref z) 2 >>= _) _ _ _
 refine cW (Jh hz rfl (x:=.bool false) rfl ?_)
 show wpAny _ _ (field (.ref z) 3 >>= _) _ _ _
 refine cW (Jh hz rfl (x:=.ref TI) rfl (cW (JH hTI rfl ?_)))
 show wpAny _ _ (Ja (.ref z) >>= _) _ _ _
 refine cW ?_
 unfold Ja
 refine cW (Jh hz rfl (x:=.none) rfl (tx ?_))
 simp only[if_true]
 refine cW (KY (cW (Jh hz rfl (x:=.ref TO) rfl (cW (Jx hz (by simp) fun ha hza hsa=>cW ?_)))))
 replace hza:MU ha z TI TO .ellipsis:=hza
 simp only[Mk,Mu,KU,LA]
 refine cW (cW (LB ?_))
 show wpAny _ _ (IZ (.ref i1) >>= _) _ _ _
 cases hx:xs[k]? with
 |none=>
  refine cW (ju hh (h1.at fun o e=>hsa.extBut _ _ D.i1z e) (ht1.at fun o e=>hsa.extBut _ _ D.l1z e) hx fun hb e hsb he=>?_)
  obtain⟨oe,hoe,hce⟩:=he
  have hzb:MU hb z TI TO .ellipsis:=hsb _ _ D.i1z.symm hza
  have hez:e≠z:=fun x=>by subst x;rw[hzb]at hoe;cases hoe;simp at hce
  exact Jx hzb (by simp) fun hc _ hsc=>fin hc e (fun c o c1 _ c3 _ x=>hsc.extBut _ _ c1 (hsb _ _ c3 (hsa.extBut _ _ c1 x))) ⟨oe,hsc.extBut _ _ hez hoe,hce⟩
 |some x=>
  have hy:ys[k]? =none:=by rcases hend with h|h;rw[hx]at h;cases h;exact h
  refine cW (gC (h1.at fun o e=>hsa.extBut _ _ D.i1z e) (ht1.at fun o e=>hsa.extBut _ _ D.l1z e) hx fun hb h1b hsb=>tx ?_)
  have hTOb:KA hb TO a b:=hsb.extBut _ _ D.TOi1 (hsa.extBut _ _ D.TOz hTO)
  refine cW (JH hTOb rfl (cW (Lj hTOb fun hc hTOc hsc=>?_)))
  refine cW (Mz (tx ?_))
  refine cW (cW (LB ?_))
  show wpAny _ _ (IZ (.ref i2) >>= _) _ _ _
  refine cW (ju hh (h2.at fun o e=>hsc.extBut _ _ D.TOi2.symm (hsb.extBut _ _ D.i12.symm (hsa.extBut _ _ D.i2z e)))
   (ht2.at fun o e=>hsc.extBut _ _ D.l2TO (hsb.extBut _ _ D.l2i1 (hsa.extBut _ _ D.l2z e))) hy fun hd e hsd he=>?_)
  obtain⟨oe,hoe,hce⟩:=he
  have hzd:MU hd z TI TO .ellipsis:=hsd _ _ D.i2z.symm (hsc.extBut _ _ D.TOz.symm (hsb.extBut _ _ D.i1z.symm hza))
  have hez:e≠z:=fun x=>by subst x;rw[hzd]at hoe;cases hoe;simp at hce
  exact Jx hzd (by simp) fun hf _ hsf=>fin hf e (fun c o c1 c2 c3 c4 x=>hsf.extBut _ _ c1 (hsd _ _ c4 (hsc.extBut _ _ c2 (hsb.extBut _ _ c3 (hsa.extBut _ _ c1 x))))) ⟨oe,hsf.extBut _ _ hez hoe,hce⟩
end
abbrev itO (t:Addr):Obj:={cls:=.type "tuple_iterator",data:=.fields #[.ref t,.int 0 0]}
abbrev zh1 (h:Heap)(t1:Addr):Heap:=h.push (itO t1)
abbrev zh2 (h:Heap)(t1 t2:Addr):Heap:=(zh1 h t1).push (itO t2)
abbrev zh3 (h:Heap)(t1 t2:Addr):Heap:=(zh2 h t1 t2).push {cls:=.type "tuple",data:=.seq #[.ref h.objs.size,.ref (zh1 h t1).objs.size]}
abbrev zh4 (h:Heap)(t1 t2:Addr):Heap:=(zh3 h t1 t2).push {cls:=.type "tuple",data:=.seq #[.none,.none]}
abbrev zh5 (h:Heap)(t1 t2:Addr):Heap:=(zh4 h t1 t2).push {cls:=.type "zip",data:=.fields #[.none,.bool false,.bool false,.ref (zh2 h t1 t2).objs.size,.ref (zh3 h t1 t2).objs.size]}
def xU (t1 t2:Addr)(xs ys:Array Gt):
  Meets (KF.«zip.__new__» ⟨[.type "zip",.ref t1,.ref t2],[]⟩) (fun _ R s=>s.heap.IsTuple t1 xs/\s.heap.IsTuple t2 ys/\R (.ok (.ret (.ref (zh4 s.heap t1 t2).objs.size))) {s with heap:=zh5 s.heap t1 t2}):=
 .of_wp fun prog w A R s h=>by
  obtain⟨hp,g,d,tk,os⟩:=s;obtain⟨hl1,hl2,h⟩:=h
  have hsub:=sub_zip
  have hL1:Qg (Nd ⟨hp,g,d,tk,os⟩) t1 xs:=hl1
  have hL2:Qg (Nd ⟨hp.push (itO t1),g,d,tk,os⟩) t2 ys:=hl2.at fun o e=>gV _ e
  wp_walk using Nn hL1,Nn hL2
  exact⟨_,rfl,h⟩
section
variable {prog:Jd}{w:JL}{A:JK}{E:Gt->IQ->Prop}{s:IQ}
def uq {t1 t2:Addr}{xs ys:Array Gt}{Q:Gt->IQ->Prop}(hl1:s.heap.IsTuple t1 xs)(hl2:s.heap.IsTuple t2 ys)
  (h:∀h',kJ h' (s.heap.objs.size+4) (s.heap.objs.size+2) (s.heap.objs.size+3) s.heap.objs.size (s.heap.objs.size+1) t1 t2 xs ys .none 0->(∀c o,s.heap.get? c=some o->h'.get? c=some o)->Q (.ref (s.heap.objs.size+4)) {s with heap:=h'}):
  wpAny (model prog w) A (call (.type "zip") [.ref t1,.ref t2]) Q E s:=by
 refine Pg QR (by decide) (Pa _ _) (Pz _ _) (fun obj=>NX obj _ _) PB (xU t1 t2 xs ys) ⟨hl1,hl2,?_⟩
 have z1:(zh1 s.heap t1).objs.size=s.heap.objs.size+1:=JG ..
 have z2:(zh2 s.heap t1 t2).objs.size=s.heap.objs.size+2:=by rw[JG,z1]
 have z3:(zh3 s.heap t1 t2).objs.size=s.heap.objs.size+3:=by rw[JG,z2]
 have z4:(zh4 s.heap t1 t2).objs.size=s.heap.objs.size+4:=by rw[JG,z3]
 have g5:(zh5 s.heap t1 t2).get? (zh4 s.heap t1 t2).objs.size=some _:=IT _ rfl
 have g4:(zh5 s.heap t1 t2).get? (zh3 s.heap t1 t2).objs.size=some _:=gV _ (IT _ rfl)
 have g3:(zh5 s.heap t1 t2).get? (zh2 s.heap t1 t2).objs.size=some _:=gV _ (gV _ (IT _ rfl))
 have g2:(zh5 s.heap t1 t2).get? (zh1 s.heap t1).objs.size=some _:=gV _ (gV _ (gV _ (IT _ rfl)))
 have g1:(zh5 s.heap t1 t2).get? s.heap.objs.size=some _:=gV _ (gV _ (gV _ (gV _ (IT _ rfl))))
 show _/\_
 rw[z2,z3,z4]at g5
 rw[z1,z2]at g3
 rw[z3]at g4
 rw[z1]at g2
 rw[z4]
 exact⟨⟨_,g5,rfl⟩,h _ ⟨g5,g3,⟨_,_,g4⟩,⟨_,g1,rfl,rfl⟩,⟨_,g2,rfl,rfl⟩⟩ fun c o x=>gV _ (gV _ (gV _ (gV _ (gV _ x))))⟩
end
end HT
namespace L2
open PySem PySem.Spec PyProof.Rows
section
variable {X:Cx}{pins:List (Addr×Obj)}{σ:St}{H:Hp}{s:IQ}{h':Heap}
def Inv.turnedL {t':Nat}{fp:List Addr}(I:Inv X pins σ H s)(k:∀b o,b∉fp->s.heap.get? b=some o->h'.get? b=some o)(hf:∀b∈fp,fA X pins H b):Inv X pins σ H {s with heap:=h',toks:=t'}:=by
 have nit:∀b u,H b=some u->b∉fp:=fun b u e z=>by rw[(hf b z).1]at e;cases e
 refine I.step (g':=s.gens) (d':=s.drawn) (ch:=fp) (fun b hb=>?_) (fun b o _ _ hc e _=>k b o hc e) (fun b o _ _ hc e _=>⟨o.slots,k b o hc e⟩) (fun _ _ _ _ n=>n)
  (fun b o hc e=>⟨o,k b o hc e⟩) (fun _ _ e=>e) (fun _ _ _ e=>e) (fun b ps e=>⟨#[],by rw[e];simp⟩) (fun m hm=>?_) (fun b u e=>?_) I.bare
 ·obtain⟨f0,f1,f2,f3,f4,f5⟩:=hf b hb
  exact⟨f3,f1,f4,f5⟩
 ·obtain⟨o,es,ep,ho,r⟩:=hm
  exact⟨o,es,ep,k _ o (fun z=>(hf _ z).2.1 rfl) ho,r⟩
 ·refine(I.hok b u e).stay (fun c v hc q=>k c v ?_ q) (fun _ q=>q) fun _ _ q=>q
  rcases hc with z|z
  ·rw[z];exact nit b u e
  ·exact nit c _ z
end
section
variable {X:Cx}{pins:List (Addr×Obj)}{σ:St}{H H1:Hp}{s s0:IQ}{a:Addr}{o:HO}
def Inv.track2 (I0:Inv X pins σ H1 s0)(I:Inv X pins σ H s)(new:s0.heap.objs.size<=a)(hn:H a=none)(ok:aU X.prog X.w (upd H a o) s.heap a o):Inv X pins σ (upd H a o) s:=by
 have ne:∀b u,s0.heap.get? b=some u->b≠a:=fun b u e=>Jb (Jm (IS e) new)
 have ne0:∀b u,X.s₀.heap.get? b=some u->b≠a:=fun b u e=>Jb (Jm (IS e) (JQ I0.sz new))
 have nL:X.env.locals≠a:=by
  obtain⟨m,⟨o',_,_,e,_⟩,_⟩:=I0.loc
  exact ne _ _ e
 refine⟨I.ok,I.os,I.bare,⟨I.base.keep,I.base.slot,fun b u e n hx=>?_,I.base.there,fun b xs e=>?_,fun b u v e=>?_,fun b ps e=>?_⟩,I.loc,I.cell,?_,fun x c e=>?_,fun p hp=>?_,fun b u e=>?_,I.len⟩
 ·rw[ap (ne0 b u e)];exact I.base.free b u e n hx
 ·have:=I.base.tups b xs e
  rw[ap (ay this hn)];exact this
 ·have:=I.base.frzs b u v e
  rw[ap (ay this hn)];exact this
 ·obtain⟨more,this⟩:=I.base.tbls b ps e
  exact⟨more,by rw[ap (ay this hn)];exact this⟩
 ·rw[ap nL];exact I.free
 ·obtain⟨v,o',e',_⟩:=I0.cell x c e
  rw[ap (ne _ _ e')];exact I.freeC x c e
 ·obtain⟨h1,h2,h3⟩:=I.pin p hp
  exact⟨h1,by rw[ap (ne _ _ (I0.pin p hp).1)];exact h2,h3⟩
 ·by_cases hb:b=a
  ·subst hb
   rw[al]at e;cases e
   exact ok
  ·rw[ap hb]at e
   exact(I.hok b u e).stay (fun c v _ q=>q) (fun c q=>by
    have:c≠a:=ay q hn
    rw[ap this];exact q) fun c xs q=>by
    have:c≠a:=ay q hn
    rw[ap this];exact q
end
def Itz (K:If)(a b:Addr):It where
 go:=fun i H=>∃xs ys x y,SqT K H a xs/\SqT K H b ys/\xs[i]?=some x/\ys[i]?=some y
 yld:=fun i H v H'=>∃p,v=.ref p/\H p=none/\∀xs ys,SqT K H a xs->SqT K H b ys->∃x y,xs[i]?=some x/\ys[i]?=some y/\H'=upd H p (.tup [x,y])
 stop:=fun i H=>∃xs ys,SqT K H a xs/\SqT K H b ys/\(xs.length<=i\/ys.length<=i)
def wN {P:Jd}{w:JL}{K:If}{elts:List Expr}{ek:Nat}{ep:Pos}(a b z TI TO i1 i2:Addr)(D:LU z TI TO i1 i2 a b):
  fW P w K (.Tuple elts ek ep) (Itz K a b) [z,TI,TO,i1,i2] z (fun i h=>HT.kJ h z TI TO i1 i2 a b #[] #[] .none i)where
 mem:=by simp
 obj:=fun i h st c hc=>by
  obtain⟨hz,hTI,⟨x,y,hTO⟩,⟨o1,e1,c1,d1⟩,⟨o2,e2,c2,d2⟩⟩:=st
  simp only[IY,Jl,or_false]at hc
  rcases hc with rfl|rfl|rfl|rfl|rfl
  ·exact⟨_,hz,fun v q=>by cases q⟩
  ·exact⟨_,hTI,fun v q=>by cases q⟩
  ·exact⟨_,hTO,fun v q=>by cases q⟩
  ·exact⟨o1,e1,fun v q=>by rw[d1]at q;cases q⟩
  ·exact⟨o2,e2,fun v q=>by rw[d2]at q;cases q⟩
 keep:=fun i h h' st k=>by
  obtain⟨hz,hTI,⟨x,y,hTO⟩,h1,h2⟩:=st
  exact⟨k z (by simp) _ hz,k TI (by simp) _ hTI,⟨x,y,k TO (by simp) _ hTO⟩,h1.at fun o e=>k i1 (by simp) o e,h2.at fun o e=>k i2 (by simp) o e⟩
 item:=by
  intro X hP hw hK hc i pins s σ H E I hf st hg
  subst hP hw hK
  obtain⟨xs,ys,x,y,hx,hy,ex,ey⟩:=hg
  obtain⟨its,r1,p1,_⟩:=I.tuple hx
  obtain⟨its2,r2,p2,_⟩:=I.tuple hy
  obtain⟨u,gu,ru⟩:=r1.get ex
  obtain⟨u2,gu2,ru2⟩:=r2.get ey
  obtain⟨z1,z2,z3,z4,z5⟩:=st
  refine HT.tM (xs:=its.toArray) (ys:=its2.toArray) (x:=u) (y:=u2) D ⟨z1,z2,z3,z4,z5⟩ p1 p2 (by simpa using gu) (by simpa using gu2) fun h1 Z1 hT hk=>?_
  obtain⟨y1,y2,y3,y4,y5⟩:=Z1
  refine⟨_,rfl,Nt y1 fun h2 hz2 hs2=>?_⟩
  have Tn:∀c∈[z,TI,TO,i1,i2],c≠s.heap.objs.size:=fun c hc e=>by
   obtain⟨o,eo⟩:∃o,s.heap.get? c=some o:=by
    simp only[IY,Jl,or_false]at hc
    rcases hc with rfl|rfl|rfl|rfl|rfl
    ·exact⟨_,z1⟩
    ·exact⟨_,z2⟩
    ·obtain⟨_,_,q⟩:=z3;exact⟨_,q⟩
    ·obtain⟨_,q,_⟩:=z4;exact⟨_,q⟩
    ·obtain⟨_,q,_⟩:=z5;exact⟨_,q⟩
   have:=IS eo
   rw[e]at this;exact KG _ this
  have k2:∀c o,c∉[z,TI,TO,i1,i2]->s.heap.get? c=some o->h2.get? c=some o:=fun c o hc e=>by
   simp only[IY,Jl,or_false,not_or]at hc
   exact hs2.extBut _ _ hc.1 (hk c o hc.1 hc.2.2.1 hc.2.2.2.1 hc.2.2.2.2 e)
  have I1:Inv X pins σ H {s with heap:=h2,toks:=s.toks}:=I.turnedL k2 hf
  have hTz:s.heap.objs.size≠z:=fun e=>Tn z (by simp) e.symm
  have hT2:KA h2 s.heap.objs.size u u2:=hs2.extBut _ _ hTz hT
  have hfr:H s.heap.objs.size=none:=I.hok.fresh (IV _)
  have I2:Inv X pins σ (upd H s.heap.objs.size (.tup [x,y])) {s with heap:=h2,toks:=s.toks}:=
   Inv.track2 I I1 (IV _) hfr ⟨by show 2<=sizeLine;decide,[u,u2],.cons ru (.cons ru2 .nil),⟨_,hT2,rfl,_,rfl⟩⟩
  refine⟨.ref s.heap.objs.size,_,I2,rfl,⟨_,rfl,hfr,fun xs' ys' hx' hy'=>⟨x,y,by rw[I.tuple_inj hx' hx];exact ex,by rw[I.tuple_inj hy' hy];exact ey,rfl⟩⟩,?_,fun c hc=>?_⟩
  ·exact⟨hz2,hs2.extBut _ _ D.TIz y2,(let ⟨m,n,q⟩:=y3;⟨m,n,hs2.extBut _ _ D.TOz q⟩),y4.at fun o e=>hs2.extBut _ _ D.i1z e,y5.at fun o e=>hs2.extBut _ _ D.i2z e⟩
  ·rw[ap (Tn c hc)];exact(hf c hc).1
 done:=by
  intro X hP hw hK hc i pins s σ H E I hf st hg
  subst hP hw hK
  obtain⟨xs,ys,hx,hy,hl⟩:=hg
  obtain⟨its,r1,p1,_⟩:=I.tuple hx
  obtain⟨its2,r2,p2,_⟩:=I.tuple hy
  have l1:=r1.length
  have l2:=r2.length
  obtain⟨z1,z2,z3,z4,z5⟩:=st
  refine HT.xb (xs:=its.toArray) (ys:=its2.toArray) (I.ok.hd hc) D ⟨z1,z2,z3,z4,z5⟩ p1 p2 ?_ fun h1 hk=>⟨rfl,I.turnedL (t':=s.toks) (fun c o hc e=>?_) hf⟩
  ·rcases hl with q|q
   ·exact .inl (by simp;omega)
   ·exact .inr (by simp;omega)
  ·simp only[IY,Jl,or_false,not_or]at hc
   exact hk c o hc.1 hc.2.2.1 hc.2.2.2.1 hc.2.2.2.2 e
 self:=fun _ _ _ _ _ st h=>LX st.z h
section
variable {X:Cx}{a b:Expr}{t:TA}{p pos ep:Pos}{elts:List Expr}{ek:Nat}
def oa:bootBuiltins "zip"=some (.type "zip"):=by decide+kernel
def vW:∀(pins:List (Addr×Obj))(s:IQ)(σ:St)(H:Hp)(us:List Gt)(vs:List V)(R:It->Hp->Prop),Inv X pins σ H s->aX vs us->(∃c d xs ys,vs=[.ref c,.ref d]/\SqT X.K H c xs/\SqT X.K H d ys/\R (Itz X.K c d) H)->
  wpAny (model X.prog X.w) X.A (call (.type "zip") us) (fun v s1=>wpAny (model X.prog X.w) X.A (pyIter v) (PIE X pins σ (.Tuple elts ek ep) R) X.xe s1) X.xe s:=by
 intro pins s σ H us vs R I r h
 obtain⟨c,d,xs,ys,rfl,hx,hy,q⟩:=h
 obtain⟨u,w',rfl,r1,r2⟩:=kS r
 cases r1
 cases r2
 obtain⟨its,rv1,p1,_⟩:=I.tuple hx
 obtain⟨its2,rv2,p2,_⟩:=I.tuple hy
 have lt1:c<s.heap.objs.size:=by obtain⟨o,e,_⟩:=p1;exact IS e
 have lt2:d<s.heap.objs.size:=by obtain⟨o,e,_⟩:=p2;exact IS e
 refine HT.uq (show s.heap.IsTuple c its.toArray from p1) (show s.heap.IsTuple d its2.toArray from p2) fun h' Z hk=>?_
 refine LX Z.z ?_
 refine⟨s.heap.objs.size+4,[s.heap.objs.size+4,s.heap.objs.size+2,s.heap.objs.size+3,s.heap.objs.size,s.heap.objs.size+1],_,Itz X.K c d,H,rfl,I.kept (t':=s.toks) hk,wN c d _ _ _ _ _ (RC lt1 lt2),?_,fun b hb=>?_,q⟩
 ·obtain⟨z1,z2,z3,z4,z5⟩:=Z
  exact⟨z1,z2,z3,z4,z5⟩
 ·have:s.heap.objs.size<=b:=by
   simp only[IY,Jl,or_false]at hb
   rcases hb with rfl|rfl|rfl|rfl|rfl<;>omega
  exact I.fpOk this (I.hok.fresh this)
end
def uN:bootBuiltins "int"=some (.type "int"):=by decide+kernel
section
variable {X:Cx}{a b:Expr}{t:TA}{p pos ep px py:Pos}{elts:List Expr}{ek:Nat}{x y:Str}{iter:Expr}{wi:TI}{tS:TS}
def uI (i j:Nat)(hN:X.N.Nodup){body:List Stmt}(hi:QI X (.Tuple [.Name x px,.Name y py] ek ep) iter wi)(hb:QSs X body tS)(hp:Qb (model X.prog X.w) X.A X.env X.xe)(hc:X.calm=true:=by rfl)
  (hj:X.N[i]?=some x:=by rfl)(hx:Loc X.env.scope x:=by first|exact .inl rfl|exact .inr rfl)(hf:X.fn x=true\/X.env.scope.names.lookup x=some .local:=by first|exact .inl rfl|exact .inr rfl)
  (hj2:X.N[j]?=some y:=by rfl)(hx2:Loc X.env.scope y:=by first|exact .inl rfl|exact .inr rfl)(hf2:X.fn y=true\/X.env.scope.names.lookup y=some .local:=by first|exact .inl rfl|exact .inr rfl)
  (hs:∀x,foldedSetIterable iter X.env x=pure x:=by intro _;rfl):QS X (.For (.Tuple [.Name x px,.Name y py] ek ep) iter body [] pos) (fU wi (iR X.K 2 (bN (au i) (bN (au j) gD))) tS):=
 ⟨sV hp hc hi.out (pP hc (cK (cV hN hj hx hf) (cK (cV hN hj2 hx2 hf2) jB))) hb.out hs⟩
end
mutual
inductive dz (K:If)(H:Hp):V->QB->Prop
 |non:dz K H .non .none
 |bl (b):dz K H (.bl b) (.bool b)
 |int (i):dz K H (.int i) (.int i)
 |str (z):dz K H (.str z) (.str z)
 |lst {a xs ds}:SqL K H a xs->DatVs K H xs ds->dz K H (.ref a) (.list ds)
 |tup {a xs ds}:SqT K H a xs->DatVs K H xs ds->dz K H (.ref a) (.tuple ds)
inductive DatVs (K:If)(H:Hp):List V->List QB->Prop
 |nil:DatVs K H [] []
 |cons {x xs d ds}:dz K H x d->DatVs K H xs ds->DatVs K H (x::xs) (d::ds)
end
section
variable {X:Cx}
mutual
theorem dc {pins:List (Addr×Obj)}{σ:St}{H:Hp}{s:IQ}(I:Inv X pins σ H s):∀{x:V}{d:QB},dz X.K H x d->∀{v:Gt},aY x v->∃as,Reads s.heap v d as
 |_,_,.non,_,r=>by cases r;exact⟨_,.none⟩
 |_,_,.bl b,_,r=>by cases r;exact⟨_,.bool b⟩
 |_,_,.int i,_,r=>by obtain⟨t,rfl⟩:=r;exact⟨_,.int i t⟩
 |_,_,.str z,_,r=>by obtain⟨t,rfl⟩:=r;exact⟨_,.str z t⟩
 |_,_,.lst h hs,_,r=>by
  cases r
  obtain⟨its,r1,⟨o,n,h1,h2,_,h3⟩,_⟩:=I.list h
  obtain⟨as,ra⟩:=datVs_reads I hs r1
  exact⟨_,.list h1 h2 h3 (by simpa using ra)⟩
 |_,_,.tup h hs,_,r=>by
  cases r
  obtain⟨its,r1,⟨o,h1,h2,n,h3⟩,_⟩:=I.tuple h
  obtain⟨as,ra⟩:=datVs_reads I hs r1
  exact⟨_,.tuple h1 h2 h3 (by simpa using ra)⟩
theorem datVs_reads {pins:List (Addr×Obj)}{σ:St}{H:Hp}{s:IQ}(I:Inv X pins σ H s):∀{xs:List V}{ds:List QB},DatVs X.K H xs ds->∀{vs:List Gt},aX xs vs->∃as,ReadsAll s.heap vs ds as
 |_,_,.nil,_,r=>by cases r;exact⟨_,.nil⟩
 |_,_,.cons h hs,_,r=>by
  cases r with
  |cons r1 r2=>
   obtain⟨as,a⟩:=dc I h r1
   obtain⟨bs,b⟩:=datVs_reads I hs r2
   exact⟨_,.cons a b⟩
end
def pG (K:If):R2:=fun x y H Q=>∃d e,dz K H x d/\dz K H y e/\d.canLay0=true/\e.canLay0=true/\d.depth<=150/\Q (.bl (d.eqv e)) H
def vT (K:If):R2:=fun x y H Q=>∃d e,dz K H x d/\dz K H y e/\d.canLay0=true/\e.canLay0=true/\d.depth<=150/\Q (.bl (!d.eqv e)) H
def AC (hu:X.A.units+150<cLine):OpR X (compareOp .Eq) (pG X.K):=by
 intro pins s σ H x y v u Q I rx ry h
 obtain⟨d,e,hd,he,cd,ce,dp,q⟩:=h
 obtain⟨as,ra⟩:=dc I hd rx
 obtain⟨bs,rb⟩:=dc I he ry
 exact PySem.SeqAt.compareEq_reads ra rb cd ce (by have:=Se d.depth e.depth;omega) ⟨.bl _,H,I,rfl,q⟩
def Ci (hu:X.A.units+150<cLine):OpR X (compareOp .NotEq) (vT X.K):=by
 intro pins s σ H x y v u Q I rx ry h
 obtain⟨d,e,hd,he,cd,ce,dp,q⟩:=h
 obtain⟨as,ra⟩:=dc I hd rx
 obtain⟨bs,rb⟩:=dc I he ry
 exact PySem.SeqAt.compareNe_reads ra rb cd ce (by have:=Se d.depth e.depth;omega) ⟨.bl _,H,I,rfl,q⟩
def bC.units150 {k:Nat}{A:JK}(r:bC k A):A.units+150<cLine:=by have:=r.un;omega
def cR (K:If):R2:=fun x y H Q=>match x,y with
 |.ref a,y=>vT K (.ref a) y H Q
 |x,.ref b=>vT K x (.ref b) H Q
 |x,y=>mNe x y H Q
def dZ (hu:X.A.units+150<cLine):OpR X (compareOp .NotEq) (cR X.K):=((Ci hu).or oNe).imp fun x y H Q q=>by
 unfold cR at q
 split at q
 ·exact .inl q
 ·exact .inl q
 ·exact .inr q
def su:V->List V->Hp->VK->Prop:=fun x vs H Q=>match x,vs with|.int i,[]=>Q (.int (Le i)) H|_,_=>False
def Ab:MtR X "int.bit_length" su:=by
 intro pins s σ H x xs v us Q I rx rs q
 unfold su at q
 split at q
 ·obtain⟨t,rfl⟩:=rx
  cases rs
  exact call_int_bit_length ⟨.int _,H,I.tok _,⟨_,rfl⟩,q⟩
 ·exact q.elim
variable {o:Expr}{to:TE}{name:Str}{apos cpos:Pos}{T id:String}{rm:V->List V->Hp->VK->Prop}
def Ep (pa:OZ T)(slot:Slot T name id)(hty:typeOf (.builtin id)=pure (.type "method_descriptor"))(hm:MtR X id rm)(ho:QE X o to)
 (hbase:attributeBase o name X.env (eval o X.env)=eval o X.env:=by rfl)(hline:(apos.endLine==cpos.line)=true:=by rfl):QE X (.Call (.Attribute o name apos) [] [] cpos) (xR X.K T rm to):=⟨AA pa slot hty hm ho.out hbase hline⟩
end
def tR:(("":String):Str)=NH:=by decide
theorem ya:∀xs:List Str,Str.join "" xs=xs.foldr (· ++ ·) NH
 |[]=>rfl
 |[x]=>(RN x).symm
 |x::y::r=>by
  show x++(("":String):Str)++Str.join "" (y::r)=x++(y::r).foldr (· ++ ·) NH
  rw[ya (y::r),tR,RN]
def rg (xs:List Str):Txt.join "" xs=xs.foldr (·++·) NH:=(RJ (join_plain_closes "" xs)).trans (ya xs)
theorem oX:∀xs:List Str,(xs.foldr (· ++ ·) NH).length=(xs.map (·.length)).sum
 |[]=>by decide
 |x::r=>by
  show(x++r.foldr (· ++ ·) NH).length=_
  rw[strLen_append,oX r,JY,Sr]
def aF {n:Nat}(h:n<=1000000):n<=sizeLine:=by rw[KB];omega
def gi (k:Nat):((2^k:Nat):Int)=(2:Int)^k:=by simp
def ir (k:Nat):(0:Int)<2^k:=by have:=Pc k;rw[<-gi];omega
def jQ {k:Nat}(h:k<=60):(2:Int)^k<=2^60:=by
 have b:(2:Nat)^k<=2^60:=ML (by decide) h
 rw[<-gi k];omega
def tJ (ns:List Int)(lo hi:Option Int):∃zs:List Int,eu (ns.map V.int) lo hi=zs.map V.int/\zs.length<=ns.length:=by
 refine⟨(ns.drop (HT.sIx ns.length 0 lo)).take (HT.sIx ns.length ns.length hi- HT.sIx ns.length 0 lo),?_,?_⟩
 ·unfold eu
  rw[IU,Nq,MM]
 ·rw[Jz,Ku];omega
def uT {α:Type}{xs:List α}{i:Int}(h0:0<=i)(h1:i<xs.length):∃c,atI xs i=some c:=by
 unfold atI ixN
 rw[if_pos h0,if_pos h1]
 have:i.toNat<xs.length:=by omega
 exact⟨xs[i.toNat],by show xs[i.toNat]?=_;rw[IR this]⟩
theorem kE:∀(xs:List Str),(∀x∈xs,x.length=1)->(xs.map (·.length)).sum=xs.length
 |[],_=>rfl
 |x::r,h=>by
  rw[JY,Sr,JU,kE r fun y hy=>h y (Je _ hy),h x Jw];omega
def xG {p:Prop}[Decidable p]{a b:Prop}(h1:p->a)(h2:¬p->b):if decide p=true then a else b:=by
 by_cases h:p
 ·rw[if_pos (decide_eq_true h)];exact h1 h
 ·rw[if_neg (by rw[decide_eq_false h];decide)];exact h2 h
def vK (xs:List Str)(h:∀x∈xs,x.length=1):(Txt.join "" xs).length=xs.length:=by rw[rg,oX,kE xs h]
def rG (x y:Nat):x ||| y=(x &&& y)+(x^^^y):=by
 have h:∀n,∀x y:Nat,x<2^n->y<2^n->x ||| y=(x &&& y)+(x^^^y):=by
  intro n
  induction n with
  |zero=>intro x y hx hy;have:x=0:=by simpa using hx
         have:y=0:=by simpa using hy
         subst_vars;rfl
  |succ n ih=>
   intro x y hx hy
   have i:=ih (x/2) (y/2) (by omega) (by omega)
   rw[<-Pd (x ||| y) 2,<-Pd (x &&& y) 2,<-Pd (x^^^y) 2]
   rw[Nat.or_div_two,Nat.and_div_two,Nat.xor_div_two,i]
   have hm:(x ||| y)%2=(x &&& y)%2+(x^^^y)%2:=by
    have a:=@Nat.or_mod_two_pow x y 1
    have b:=@Nat.and_mod_two_pow x y 1
    have c:=@Nat.xor_mod_two_pow x y 1
    rw[Nat.pow_one]at a b c
    rw[a,b,c]
    rcases Pr x with h|h<;>rcases Pr y with h'|h'<;>rw[h,h']<;>rfl
   omega
 have h2:max x y<2^(max x y):=Nat.lt_two_pow_self
 exact h (max x y) x y (by omega) (by omega)
def sr (x y:Nat):Mf x y=((x^^^y:Nat):Int):=by
 unfold Mf Builtin.bitOr
 have e1:Lu x y=((x &&& y:Nat):Int):=by
  unfold Lu
  rw[decide_eq_true (by omega:(0:Int)<=x),decide_eq_true (by omega:(0:Int)<=y)];rfl
 have n (z:Nat):JZ z<0:=by unfold JZ;omega
 have nn (z:Nat):(JZ (JZ z)).toNat=z:=by unfold JZ;omega
 have e2:Lu (JZ x) (JZ y)=JZ ((x ||| y:Nat):Int):=by
  unfold Lu
  rw[decide_eq_false (by have:=n x;omega:¬0<=JZ x),decide_eq_false (by have:=n y;omega:¬0<=JZ y)]
  show JZ (((JZ (JZ x)).toNat ||| (JZ (JZ y)).toNat:Nat):Int)=_
  rw[nn,nn]
 rw[e1,e2,rG]
 unfold JZ
 omega
def rn (x:Nat):Lu x 1=((x%2:Nat):Int):=by
 unfold Lu
 rw[decide_eq_true (by omega:(0:Int)<=x),decide_eq_true (by decide:(0:Int)<=1)]
 show(((x:Int).toNat &&& (1:Int).toNat:Nat):Int)=_
 rw[Kb,show(1:Int).toNat=1 from rfl,Nat.and_one_is_mod]
section
variable {X:Cx}
def bC.units1 {k:Nat}{A:JK}(r:bC k A):A.units+1<cLine:=by have:=r.un;omega
def Bp:R2:=fun x y H Q=>∃a v,x=.ref a/\fz H a y (some v)/\Q v H
def zO (hu:X.A.units+1<cLine):IxR X Bp:=by
 intro value slice pins s σ H x y v u Q I rx ry h hs
 obtain⟨a,w0,rfl,g,q⟩:=h
 obtain rfl:v=Ji a:=rx
 have hT:=qo I g
 have h2:wpAny (model X.prog X.w) X.A (getItem (.ref a) u) (EP X pins σ Q) X.xe s:=ut hu I g ry fun w' s3 I3 rw'=>⟨w0,H,I3,rw',q⟩
 unfold subscriptTail
 refine cW ?_
 rw[getitemInPython_of_ne hT.not_modules]
 refine cW (LL hT PySem.F.slot_dict_getitem.lookup ?_)
 have fin:wpAny (model X.prog X.w) X.A (subscripted slice false (.ref a) u) (fun r s₃=>wpAny (model X.prog X.w) X.A (letTemporaryGo value (.ref a) r>>=fun _=>pure r) (EP X pins σ Q) X.xe s₃) X.xe s:=by
  rw[hs]
  exact wpAny_operating (Ju h2 (fun r s₃ h₃=>cW (wpAny_letTemporaryGo (tx h₃))) fun _ _ x=>x)
 first
  |exact tx (cW fin)
  |exact cW (tx (cW fin))
  |exact cW fin
def az (K:If):R2:=fun x y H Q=>rIx K x y H Q\/Bp x y H Q
def aq (hu:X.A.units+1<cLine):IxR X (az X.K):=By.or (zO hu)
variable {o e:Expr}{to te:TE}{p pos:Pos}
def Bh:R2:=fun y x H Q=>∃a o,x=.ref a/\fz H a y o/\Q (.bl o.isSome) H
def Du (hu:X.A.units+1<cLine):OpR X (compareOp .In) Bh:=by
 intro pins s σ H x y v u Q I rx ry h
 obtain⟨a,ov,rfl,g,q⟩:=h
 obtain rfl:u=Ji a:=ry
 exact ID hu I g rx fun s3 I3=>⟨.bl ov.isSome,H,I3,rfl,q⟩
def Ax (K:If):R2:=fun y x H Q=>∃d ds,dz K H y d/\(dz K H x (.list ds)\/dz K H x (.tuple ds))/\Lg ds=true/\d.canLay0=true/\d.depth<=140/\Q (.bl (ds.any fun e=>e.eqv d)) H
def CF (hu:X.A.units+150<cLine):OpR X (compareOp .In) (Ax X.K):=by
 intro pins s σ H x y v u Q I rx ry h
 obtain⟨d,ds,hd,hx,c1,c2,dp,q⟩:=h
 obtain⟨as,ra⟩:=dc I hd rx
 have hm:X.A.units+1+min (JA ds) d.depth<cLine:=by have:=RP (JA ds) d.depth;omega
 rcases hx with hx|hx
 ·obtain⟨bs,rb⟩:=dc I hx ry
  exact PySem.SeqAt.in_list_reads rb ra c1 c2 hm ⟨.bl _,H,I,rfl,q⟩
 ·obtain⟨bs,rb⟩:=dc I hx ry
  exact PySem.SeqAt.in_tuple_reads rb ra c1 c2 hm ⟨.bl _,H,I,rfl,q⟩
def oB (K:If):R2:=fun y x H Q=>match y,x with
 |y,.ref a=>Bh y (.ref a) H Q\/Ax K y (.ref a) H Q
 |y,x=>uZ y x H Q
def Dl (hu:X.A.units+150<cLine):OpR X (compareOp .In) (oB X.K):=((Du (by omega)).or ((CF hu).or Hr)).imp fun x y H Q q=>by
 unfold oB at q
 split at q
 ·exact q.elim .inl fun z=>.inr (.inl z)
 ·exact .inr (.inr q)
def pQ:TE:=fun σ H Q=>uu σ H Q\/uJ σ H Q
def qK:QE X (.Dict [] [] pos) pQ:=⟨fun pins s σ H Q I h=>h.elim (vY pins s σ H Q I) (vy pins s σ H Q I)⟩
def uV:bI X (.builtin "len") (fun xs H Q=>∃p kvs,xs=[.ref p]/\H p=some (.dT kvs)/\Q (.int kvs.length) H):=by
 intro pins s σ H xs us Q I r h
 obtain⟨a,kvs,rfl,e,q⟩:=h
 obtain⟨u,rfl,r1⟩:=dU r
 cases r1
 obtain⟨z,hd,ps,rel,dd⟩:=yF I.hok e
 have hl:ps.length=kvs.length:=(Paired.length rel).symm
 have hT:s.TypeIs (.ref a) "dict":=dd.typeIs
 obtain⟨o,es,ep,ho,hc,hdat,he,his,hn⟩:=dd
 have hsz:es.size=kvs.length:=by rw[<-hl];have:=congrArg OW he;simpa using this
 have M:MeetsIn X.prog X.w (KF.«dict.__len__» ⟨[.ref a],[]⟩) (fun _ R s=>s.heap.get? a=some o/\R (.ok (.ret (.int kvs.length s.toks))) {s with toks:=s.toks+1}):=
  .of_wp fun A R s ⟨ho,h⟩=>by
   show wpAny _ _ (dictSize a>>=_) _ _ s
   unfold dictSize
   refine cW (cW (SH ho hdat (tx ?_)))
   show wpAny _ _ (Builtin.Dict.pendingCount a>>=_) _ _ s
   refine cW (wpAny_pendingCount_other hd ?_)
   refine wpAny_ret_mkInt ?_
   rw[Nat.add_zero,hsz];exact h
 refine Pb kind_len plain_len entry_len (args_len1 _) ?_
 unfold KF.«len»
 refine cW (m:=oneArg "len" _) (tx ?_)
 refine cW (m:=callSpecial? (.ref a) (JM "__len__")) (Jj (name:=JM "__len__") hT SR
  (Ru SR hT F.entry_dict_len (F.args_dict_len_1 _) M ⟨ho,?_⟩))
 show wpAny _ _ _ _ _ {s with toks:=s.toks+1}
 refine cW (Km (tx ?_))
 refine cW (Mz ?_)
 have zz:kvs.length<=sizeLine:=z
 rw[KB]at zz
 show wpAny _ _ (if ((kvs.length:Nat):Int)<0 then _ else _) _ _ _
 rw[if_neg (by omega)]
 show wpAny _ _ (if ((kvs.length:Nat):Int)>=2^63 then _ else _) _ _ _
 rw[if_neg (by omega)]
 exact cW (RU (tx ⟨_,rfl,⟨.int kvs.length,H,I.tok _,⟨_,rfl⟩,q⟩⟩))
def bS (K:If):List V->Hp->VK->Prop:=fun xs H Q=>CH K xs H Q\/∃p kvs,xs=[.ref p]/\H p=some (.dT kvs)/\Q (.int kvs.length) H
def bX:bI X (.builtin "len") (bS X.K):=Hu.or uV
def Dk (H:Hp)(a:Addr)(y d:V)(r:V)(H':Hp):Prop:=(fz H a y (some r)/\H'=H)\/(fz H a y none/\se H a y d H'/\r=d)
def fi {A:JK}{E:Gt->IQ->Prop}{s:IQ}{P:Jd}{w:JL}{K:Type}[DecidableEq K]{knd:HeapKind P w K}{d a:Addr}{xs:List (K×Addr×Gt)}{k:K}{v:Gt}{Q:Gt->IQ->Prop}(hu:knd.room A)(hkey:knd.is s.heap k a)(hm:s.heap.DictOfH knd d xs)
  (hthere:∀p,atKey xs k=some p->Q p.2 {s with toks:=s.toks+knd.draws k})
  (hQ:atKey xs k=none->∀h',h'.DictOfH knd d (storedH xs k a v)->Kh d s.heap h'->Q v {s with heap:=h',toks:=s.toks+knd.draws k})
  (hsz:xs.length<=sizeLine):
  wpAny (model P w) A (dictSetDefault d (.ref a) v) Q E s:=by
 obtain⟨o,es,ep,ho,hc,hd,he,his,hn⟩:=hm
 unfold dictSetDefault
 try with_reducible refine Km ?_
 refine cW (knd.pyHash hu hkey ?_)
 refine cW (wpAny_dictFind_heap (s:={s with toks:=s.toks+knd.draws k}) hu hkey ho hd he his hn ?_ ?_)
 ·intro hno
  have hnot:k∉xs.map (·.1):=not_mem_keys_of_get hno
  refine cW (KY (cW (wpAny_updateDictKeys (hz:=by have e:=size_of_entries he;omega) (s:={s with toks:=s.toks+knd.draws k}) ho hd (tx (hQ (NA hno) _ ⟨_,_,ep+1,JC _ ho (Obj.isFreed_of_dict (QC hd _)),
   hc.mapDictKeys _,QC hd _,?_,?_,?_⟩ (JN ..))))))
  ·rw[RV (NA hno)]
   simp[he,entryOfKey]
  ·rw[RV (NA hno)]
   intro x hx
   rcases Ka.mp hx with hx|hx
   ·exact knd.keeps (his x hx) ho hd (JN ..)
   ·simp only[JJ]at hx
    subst hx
    exact knd.keeps hkey ho hd (JN ..)
  ·rw[RV (NA hno)]
   rw[JD,Rk]
   refine⟨hn,by simp,?_⟩
   intro x hx y hy
   simp only[JY,OB,JJ]at hy
   subst hy
   exact fun e=>hnot (e▸hx)
 ·intro j p hj
  refine cW (SH (s:={s with toks:=s.toks+knd.draws k}) ho hd ?_)
  rw[entry_at he j,hj]
  exact cW (KY (tx (hthere p (atKey_of_get hn hj))))
end
def dJ {h:Heap}{a:Addr}{its:Array Gt}(p:PlainL h a its):h.IsList a its:=let ⟨o,n,e,c,_,d⟩:=p;⟨o,e,c,n,d⟩
structure Bs (h:Heap)(z TI TO i1 i2 t1 t2:Addr)(k:Nat):Prop where
 z:MU h z TI TO .none
 ti:KA h TI (.ref i1) (.ref i2)
 to:∃a b,KA h TO a b
 j1:h.IsListIter i1 t1 k
 j2:h.IsListIter i2 t2 k
def pO (K:If)(a b:Addr):It where
 go:=fun i H=>∃xs ys x y,SqL K H a xs/\SqL K H b ys/\xs[i]?=some x/\ys[i]?=some y
 yld:=fun i H v H'=>∃p,v=.ref p/\H p=none/\∀xs ys,SqL K H a xs->SqL K H b ys->∃x y,xs[i]?=some x/\ys[i]?=some y/\H'=upd H p (.tup [x,y])
 stop:=fun i H=>∃xs ys,SqL K H a xs/\SqL K H b ys/\(xs.length<=i\/ys.length<=i)
def uc {P:Jd}{w:JL}{K:If}{elts:List Expr}{ek:Nat}{ep:Pos}(a b z TI TO i1 i2:Addr)(D:LU z TI TO i1 i2 a b):
  fW P w K (.Tuple elts ek ep) (pO K a b) [z,TI,TO,i1,i2] z (fun i h=>Bs h z TI TO i1 i2 a b i)where
 mem:=by simp
 obj:=fun i h st c hc=>by
  obtain⟨hz,hTI,⟨x,y,hTO⟩,⟨o1,e1,c1,d1⟩,⟨o2,e2,c2,d2⟩⟩:=st
  simp only[IY,Jl,or_false]at hc
  rcases hc with rfl|rfl|rfl|rfl|rfl
  ·exact⟨_,hz,fun v q=>by cases q⟩
  ·exact⟨_,hTI,fun v q=>by cases q⟩
  ·exact⟨_,hTO,fun v q=>by cases q⟩
  ·exact⟨o1,e1,fun v q=>by rw[d1]at q;cases q⟩
  ·exact⟨o2,e2,fun v q=>by rw[d2]at q;cases q⟩
 keep:=fun i h h' st k=>by
  obtain⟨hz,hTI,⟨x,y,hTO⟩,h1,h2⟩:=st
  exact⟨k z (by simp) _ hz,k TI (by simp) _ hTI,⟨x,y,k TO (by simp) _ hTO⟩,h1.at fun o e=>k i1 (by simp) o e,h2.at fun o e=>k i2 (by simp) o e⟩
 item:=by
  intro X hP hw hK hc i pins s σ H E I hf st hg
  subst hP hw hK
  obtain⟨xs,ys,x,y,hx,hy,ex,ey⟩:=hg
  obtain⟨its,r1,p1,_⟩:=I.list hx
  obtain⟨its2,r2,p2,_⟩:=I.list hy
  obtain⟨u,gu,ru⟩:=r1.get ex
  obtain⟨u2,gu2,ru2⟩:=r2.get ey
  obtain⟨z1,z2,z3,z4,z5⟩:=st
  obtain⟨za,zb,z3'⟩:=z3
  refine wpAny_pyNext_zip_item (xs:=its.toArray) (ys:=its2.toArray) (x:=u) (y:=u2) D z1 z2 z3' z4 z5 (dJ p1) (dJ p2) (by simpa using gu) (by simpa using gu2) fun h1 y1 y3' y4 y5 hT hsz hk=>?_
  have y2:KA h1 TI (.ref i1) (.ref i2):=hk _ _ D.TIz D.TITO D.TIi1 D.TIi2 z2
  have y3:∃a b,KA h1 TO a b:=⟨_,_,y3'⟩
  have z3:∃a b,KA s.heap TO a b:=⟨za,zb,z3'⟩
  refine⟨_,rfl,Nt y1 fun h2 hz2 hs2=>?_⟩
  have Tn:∀c∈[z,TI,TO,i1,i2],c≠s.heap.objs.size:=fun c hc e=>by
   obtain⟨o,eo⟩:∃o,s.heap.get? c=some o:=by
    simp only[IY,Jl,or_false]at hc
    rcases hc with rfl|rfl|rfl|rfl|rfl
    ·exact⟨_,z1⟩
    ·exact⟨_,z2⟩
    ·obtain⟨_,_,q⟩:=z3;exact⟨_,q⟩
    ·obtain⟨_,q,_⟩:=z4;exact⟨_,q⟩
    ·obtain⟨_,q,_⟩:=z5;exact⟨_,q⟩
   have:=IS eo
   rw[e]at this;exact KG _ this
  have k2:∀c o,c∉[z,TI,TO,i1,i2]->s.heap.get? c=some o->h2.get? c=some o:=fun c o hc e=>by
   simp only[IY,Jl,or_false,not_or]at hc
   exact hs2.extBut _ _ hc.1 (hk c o hc.1 hc.2.2.1 hc.2.2.2.1 hc.2.2.2.2 e)
  have I1:Inv X pins σ H {s with heap:=h2,toks:=s.toks}:=I.turnedL k2 hf
  have hTz:s.heap.objs.size≠z:=fun e=>Tn z (by simp) e.symm
  have hT2:KA h2 s.heap.objs.size u u2:=hs2.extBut _ _ hTz hT
  have hfr:H s.heap.objs.size=none:=I.hok.fresh (IV _)
  have I2:Inv X pins σ (upd H s.heap.objs.size (.tup [x,y])) {s with heap:=h2,toks:=s.toks}:=
   Inv.track2 I I1 (IV _) hfr ⟨by show 2<=sizeLine;decide,[u,u2],.cons ru (.cons ru2 .nil),⟨_,hT2,rfl,_,rfl⟩⟩
  refine⟨.ref s.heap.objs.size,_,I2,rfl,⟨_,rfl,hfr,fun xs' ys' hx' hy'=>⟨x,y,by rw[I.list_inj hx' hx];exact ex,by rw[I.list_inj hy' hy];exact ey,rfl⟩⟩,?_,fun c hc=>?_⟩
  ·exact⟨hz2,hs2.extBut _ _ D.TIz y2,(let ⟨m,n,q⟩:=y3;⟨m,n,hs2.extBut _ _ D.TOz q⟩),y4.at fun o e=>hs2.extBut _ _ D.i1z e,y5.at fun o e=>hs2.extBut _ _ D.i2z e⟩
  ·rw[ap (Tn c hc)];exact(hf c hc).1
 done:=by
  intro X hP hw hK hc i pins s σ H E I hf st hg
  subst hP hw hK
  obtain⟨xs,ys,hx,hy,hl⟩:=hg
  obtain⟨its,r1,p1,_⟩:=I.list hx
  obtain⟨its2,r2,p2,_⟩:=I.list hy
  have l1:=r1.length
  have l2:=r2.length
  obtain⟨z1,z2,z3,z4,z5⟩:=st
  obtain⟨za,zb,z3'⟩:=z3
  refine wpAny_pyNext_zip_end (xs:=its.toArray) (ys:=its2.toArray) (I.ok.hd hc) D z1 z2 z3' z4 z5 (dJ p1) (dJ p2) ?_ fun h1 hk=>⟨rfl,I.turnedL (t':=s.toks) (fun c o hc e=>?_) hf⟩
  ·rcases hl with q|q
   ·exact .inl (by simp;omega)
   ·exact .inr (by simp;omega)
  ·simp only[IY,Jl,or_false,not_or]at hc
   exact hk c o hc.1 hc.2.2.1 hc.2.2.2.1 hc.2.2.2.2 e
 self:=fun _ _ _ _ _ st h=>LX st.z h
section
variable {X:Cx}{a b:Expr}{t:TA}{p pos ep:Pos}{elts:List Expr}{ek:Nat}
def sP:∀(pins:List (Addr×Obj))(s:IQ)(σ:St)(H:Hp)(us:List Gt)(vs:List V)(R:It->Hp->Prop),Inv X pins σ H s->aX vs us->(∃c d xs ys,vs=[.ref c,.ref d]/\SqL X.K H c xs/\SqL X.K H d ys/\R (pO X.K c d) H)->
  wpAny (model X.prog X.w) X.A (call (.type "zip") us) (fun v s1=>wpAny (model X.prog X.w) X.A (pyIter v) (PIE X pins σ (.Tuple elts ek ep) R) X.xe s1) X.xe s:=by
 intro pins s σ H us vs R I r h
 obtain⟨c,d,xs,ys,rfl,hx,hy,q⟩:=h
 obtain⟨u,w',rfl,r1,r2⟩:=kS r
 cases r1
 cases r2
 obtain⟨its,rv1,p1,_⟩:=I.list hx
 obtain⟨its2,rv2,p2,_⟩:=I.list hy
 have lt1:c<s.heap.objs.size:=by obtain⟨o,e,_⟩:=(dJ p1);exact IS e
 have lt2:d<s.heap.objs.size:=by obtain⟨o,e,_⟩:=(dJ p2);exact IS e
 refine call_zip_2 (show s.heap.IsList c its.toArray from(dJ p1)) (show s.heap.IsList d its2.toArray from(dJ p2)) fun h' y1 y2 y3 y4 y5 _ hk=>?_
 refine LX y1 ?_
 refine⟨s.heap.objs.size+4,[s.heap.objs.size+4,s.heap.objs.size+2,s.heap.objs.size+3,s.heap.objs.size,s.heap.objs.size+1],_,pO X.K c d,H,rfl,I.kept (t':=s.toks) hk,uc c d _ _ _ _ _ (RC lt1 lt2),?_,fun b hb=>?_,q⟩
 ·exact⟨y1,y2,⟨_,_,y3⟩,y4,y5⟩
 ·have:s.heap.objs.size<=b:=by
   simp only[IY,Jl,or_false]at hb
   rcases hb with rfl|rfl|rfl|rfl|rfl<;>omega
  exact I.fpOk this (I.hok.fresh this)
end
set_option genInjectivity false in
structure cQ where
 qual:Str
 body:FuncBody
 scope:Scope
 ps:List Str
 ys:List Str
def nN (t:cQ)(cs:List Addr)(c:Addr)(fd:Jn):Prop:=
 fd.qualname=t.qual/\fd.body=t.body/\fd.scope=t.scope/\fd.globals=mainGlobals/\fd.closure=t.ys.zip cs/\fd.code=.ref c/\fd.builtins=builtinsNs/\
  (∀us:List Gt,us.length=t.ps.length->bindArgs fd ⟨us,[]⟩=pure (t.ps.zip us))/\cs.Nodup/\cs.length=t.ys.length
def gG (f:Addr)(t:cQ)(cs:List Addr)(c:Addr):HO:=.ext fun h=>∃od fd sl,h.get? f=some ⟨.type "function",od,.func fd,sl⟩/\nN t cs c fd
def gj (c:Addr)(qual:Str):HO:=.ext fun h=>∃o vs tk,h.get? c=some o/\o.data=.fields vs/\vs[1]?=some (.str qual tk)
def cB (c:Addr)(v:V):HO:=.ext fun h=>∃u o,aY v u/\h.get? c=some o/\o.data=.cell (some u)
abbrev cx (H:Hp):List Addr->List V->Prop:=Paired fun c v=>H c=some (cB c v)
structure eY (H:Hp)(f:Addr)(t:cQ)(cs:List Addr)(cvs:List V):Prop where
 ex:∃c,H f=some (gG f t cs c)/\H c=some (gj c t.qual)
 cells:cx H cs cvs
def cx.mem {H:Hp}{cs:List Addr}{cvs:List V}(h:cx H cs cvs):∀c∈cs,∃v,H c=some (cB c v):=by
 induction h with
 |nil=>intro c hc;cases hc
 |cons r t ih=>
  intro c hc
  rcases IY.mp hc with rfl|hc
  ·exact⟨_,r⟩
  ·exact ih c hc
def cx.get {H:Hp}{cs:List Addr}{cvs:List V}(h:cx H cs cvs):∀{i:Nat}{v:V},cvs[i]? =some v->∃c,cs[i]? =some c/\H c=some (cB c v):=by
 induction h with
 |nil=>intro i v e;cases e
 | @cons c w cs ws r t ih=>
   intro i v e
   cases i with
   |zero=>cases e;exact⟨c,rfl,r⟩
   |succ i=>exact ih e
def cZ (cs:List Addr)(H:Hp):Hp:=fun b=>if b∈cs then none else H b
def cG (cs:List Addr)(H H':Hp):Hp:=fun b=>if b∈cs then H b else H' b
def gr {cs:List Addr}{H:Hp}{b:Addr}(h:b∈cs):cZ cs H b=none:=if_pos h
def cI {cs:List Addr}{H:Hp}{b:Addr}(h:b∉cs):cZ cs H b=H b:=if_neg h
def iD {cs:List Addr}{H H':Hp}{b:Addr}(h:b∈cs):cG cs H H' b=H b:=if_pos h
def bZ {cs:List Addr}{H H':Hp}{b:Addr}(h:b∉cs):cG cs H H' b=H' b:=if_neg h
def um {cs:List Addr}{H H':Hp}{d:Addr}{o:HO}(h:d∉cs):cG cs H (upd H' d o)=upd (cG cs H H') d o:=by
 funext b
 by_cases hb:b∈cs
 ·have:b≠d:=fun e=>h (e▸hb)
  rw[iD hb,ap this,iD hb]
 ·rw[bZ hb]
  by_cases e:b=d
  ·subst e;rw[al,al]
  ·rw[ap e,ap e,bZ hb]
def cx.notin {H:Hp}{cs:List Addr}{cvs:List V}(h:cx H cs cvs){b:Addr}{o:HO}(e:H b=some o)(hn:∀φ,o≠.ext φ):b∉cs:=fun hb=>by
 obtain⟨v,ev⟩:=h.mem b hb
 rw[e]at ev
 exact hn _ (Js ev)
def cx.hide {H:Hp}{cs:List Addr}{cvs:List V}(h:cx H cs cvs){b:Addr}{o:HO}(e:H b=some o)(hn:∀φ,o≠.ext φ):cZ cs H b=some o:=by
 rw[cI (h.notin e hn)];exact e
def ar.hide {H H':Hp}(cs:List Addr)(s:ar (cZ cs H) H'):ar H (cG cs H H'):=fun b o e=>by
 by_cases hb:b∈cs
 ·rw[iD hb];exact e
 ·rw[bZ hb];exact s _ _ (by rw[cI hb];exact e)
section
variable {P:Jd}{w:JL}{fs:List Addr}{H H':Hp}{h h':Heap}{cs:List Addr}{cvs:List V}
def Ag (hc:cx H cs cvs)(ok:HOk P w H h):HOk P w (cZ cs H) h:=fun b o e=>by
 by_cases hb:b∈cs
 ·rw[gr hb]at e;cases e
 ·rw[cI hb]at e
  exact(ok b o e).stay (fun c u _ q=>q) (fun c q=>hc.hide q fun φ z=>nomatch z) fun c xs q=>hc.hide q fun φ z=>nomatch z
def qF (hc:cx H cs cvs)(hfs:∀b∈fs,H b=none)(ok:HOk P w H h)(u:Un fs [] (cZ cs H) H' h h')(ok':HOk P w H' h'):Un fs [] H (cG cs H H') h h'/\HOk P w (cG cs H H') h':=by
 have obj:∀c∈cs,∃v o,H c=some (cB c v)/\h.get? c=some o/\h'.get? c=some o/\H' c=none:=fun c hm=>by
  obtain⟨v,ev⟩:=hc.mem c hm
  obtain⟨_,⟨o,eo⟩,_⟩:=(show aU P w H h c (cB c v)from ok c _ ev)
  refine⟨v,o,ev,eo,u.keep c o eo (gr hm) (fun z=>?_) (by simp),u.free c o eo (gr hm) (by simp)⟩
  rw[hfs c z]at ev;cases ev
 have nin:∀b,H b=none->b∉cs:=fun b e hb=>by
  obtain⟨v,ev⟩:=hc.mem b hb
  rw[e]at ev;cases ev
 have nin':∀b o,H' b=some o->b∉cs:=fun b o e hb=>by
  obtain⟨_,_,_,_,_,z⟩:=obj b hb
  rw[e]at z;cases z
 refine⟨⟨fun b o e n hb hx=>u.keep b o e (by rw[cI (nin b n)];exact n) hb hx,fun b o e n hb hx=>u.slot b o e (by rw[cI (nin b n)];exact n) hb hx,
  fun b o e n hx=>by rw[bZ (nin b n)];exact u.free b o e (by rw[cI (nin b n)];exact n) hx,u.there,fun b xs e=>?_,fun b o v e=>?_,fun b ps e=>?_⟩,fun b o e=>?_⟩
 ·have hb:=hc.notin e fun φ z=>nomatch z
  rw[bZ hb];exact u.tups b xs (by rw[cI hb];exact e)
 ·have hb:=hc.notin e fun φ z=>nomatch z
  rw[bZ hb];exact u.frzs b o v (by rw[cI hb];exact e)
 ·have hb:=hc.notin e fun φ z=>nomatch z
  rw[bZ hb];exact u.tbls b ps (by rw[cI hb];exact e)
 ·by_cases hb:b∈cs
  ·rw[iD hb]at e
   obtain⟨v,o',ev,e1,e2,_⟩:=obj b hb
   rw[e]at ev;cases ev
   obtain⟨φ1,_,φ3⟩:=(show aU P w H h b (cB b v)from ok b _ e)
   exact⟨φ3 h h' φ1 fun q hq=>by rw[e1]at hq;cases hq;exact e2,⟨o',e2⟩,φ3⟩
  ·rw[bZ hb]at e
   exact(ok' b o e).stay (fun c u _ q=>q) (fun c q=>by rw[bZ (nin' c _ q)];exact q) fun c xs q=>by rw[bZ (nin' c _ q)];exact q
def CR.back {outer:List Env}{s s':IQ}{Q:VK}{E:XK}{r:Ou}(hc:cx H cs cvs)(hfs:∀b∈frs outer,H b=none)(ok:HOk P w H s.heap)
  (h:CR (CX1 P w) outer P w (cZ cs H) s (fun v H'=>Q v (cG cs H H')) (fun c a H'=>E c a (cG cs H H')) r s'):CR (CX1 P w) outer P w H s Q E r s':=by
 cases r with
 |error e=>
  obtain⟨a,C,d,H',rfl,F,q⟩:=h
  obtain⟨u,k⟩:=qF hc hfs ok F.un F.hok
  have na:a∉cs:=fun hb=>by
   obtain⟨v,ev⟩:=hc.mem a hb
   obtain⟨_,⟨o,eo⟩,_⟩:=(show aU P w H s.heap a (cB a v)from ok a _ ev)
   rw[F.new]at eo;cases eo
  obtain⟨oe,vs,a0,T,oT,ts,t1,t2,td,t3,t4,t5,t6,t7,t8,t9,t10,t11⟩:=F.tr
  have nT:T∉cs:=fun hb=>by
   obtain⟨v,ev⟩:=hc.mem T hb
   obtain⟨_,⟨o,eo⟩,_⟩:=(show aU P w H s.heap T (cB T v)from ok T _ ev)
   rw[t10]at eo;cases eo
  exact⟨a,C,d,_,rfl,⟨F.os,F.bare,u,k,F.new,by rw[bZ na];exact F.free,⟨oe,vs,a0,T,oT,ts,t1,t2,td,t3,t4,t5,t6,t7,t8,t9,t10,by rw[bZ nT];exact t11⟩⟩,q⟩
 |ok fl=>
  cases fl with
  |ret u=>
   obtain⟨v,H',os,bare,un,hok,rv,q⟩:=h
   obtain⟨u',k⟩:=qF hc hfs ok un hok
   exact⟨v,_,os,bare,u',k,rv,q⟩
  |next=>exact Kg h
  |brk=>exact Kg h
  |cont=>exact Kg h
end
structure gL (P:Jd)(w:JL)(K:If)(mg:Str->Option Gt)(base:Heap)(k:Nat)(t:cQ)(sp:Sp):Prop where
 run:∀(A:JK)(outer:List Env)(s:IQ)(H:Hp)(f:Addr)(cs:List Addr)(us:List Gt)(vs cvs:List V)(Q:VK)(E:XK),bC k A->iF P w K mg base A outer s H->eY H f t cs cvs->aX vs us->vs.length=t.ps.length->
  sp (vs++cvs) (cZ cs H) (fun v H'=>Q v (cG cs H H')) (fun c a H'=>E c a (cG cs H H'))->codeAny (model P w) A (.call (.ref f) ⟨us,[]⟩) (CR (CX1 P w) outer P w H s Q E) s
def fN (N:List Str)(vs cvs:List V):St:=vs.map some++(Ps (N.length- vs.length- cvs.length) none++cvs.map some)
def jU (P:Jd)(w:JL)(K:If)(mg:Str->Option Gt)(base:Heap)(N:List Str)(qual:Str)(scope:Scope)(f c:Addr)(cl:List (Str×Addr))(A:JK)(outer:List Env)(s:IQ)(H:Hp)(E:XK):Cx where
 prog:=P
 w:=w
 K:=K
 mg:=mg
 base:=base
 A:=A.deeper (OO qual scope s.heap.objs.size f (.ref c) cl)
 N:=N
 s₀:=s
 H₀:=H
 env:=OO qual scope s.heap.objs.size f (.ref c) cl
 outer:=outer
 stack:=OO qual scope s.heap.objs.size f (.ref c) cl::outer
 ex:=[]
 calm:=true
 fn:=fun _=>false
 pn:=[]
 xe:=fun e s'=>wpAny (model P w) (A.deeper (OO qual scope s.heap.objs.size f (.ref c) cl)) (leaving (OO qual scope s.heap.objs.size f (.ref c) cl) e) (fun _ s''=>CX1 P w outer H s E e s'') (fun e' s''=>CX1 P w outer H s E e' s'') s'
structure gw (N ps ys:List Str)(sc:Scope):Prop where
 kind:sc.kind=.function
 co:sc.isCoroutine=false
 gen:sc.isGenerator=false
 nd:N.Nodup
 pre:N.take ps.length=ps
 suf:N.drop (N.length- ys.length)=ys
 le:ps.length+ys.length<=N.length
 par:∀x∈ps,sc.names.lookup x=some .local
 nocell:∀x∈sc.names,x.2≠.cell
 fr:∀x∈ys,sc.names.lookup x=some .free
 frs:∀y∈sc.names,y.2=.free->y.1∈ys
def kL {ys:List Str}{cs:List Addr}(hl:cs.length=ys.length)(nd:ys.Nodup):∀{i:Nat}{y:Str}{c:Addr},ys[i]? =some y->cs[i]? =some c->(ys.zip cs).lookup y=some c:=by
 induction ys generalizing cs with
 |nil=>intro i y c e;cases e
 |cons a r ih=>
  intro i y c e1 e2
  cases cs with
  |nil=>cases e2
  |cons b cs=>
   cases i with
   |zero=>cases e1;cases e2;show(KO _ ((_,_)::_))=_;rw[Lv];simp
   |succ i=>
    have hne:y≠a:=fun e=>(Ks.mp nd).1 (e▸Jq (show r[i]? =some y from e1))
    show(KO y ((a,b)::r.zip cs))=_
    rw[Lv,show(y==a)=false from by simpa using hne]
    exact ih (by simpa using hl) (Ks.mp nd).2 (show r[i]? =some y from e1) (show cs[i]? =some c from e2)
def fT {ys:List Str}{cs:List Addr}:∀{y:Str}{c:Addr},(ys.zip cs).lookup y=some c->∃i:Nat,ys[i]? =some y/\cs[i]? =some c:=by
 induction ys generalizing cs with
 |nil=>intro y c e;cases e
 |cons a r ih=>
  intro y c e
  cases cs with
  |nil=>cases e
  |cons b cs=>
   have e:(KO y ((a,b)::r.zip cs))=some c:=e
   rw[Lv]at e
   by_cases hy:(y==a)=true
   ·rw[hy]at e;cases e;exact⟨0,by simpa using(RJ hy).symm,rfl⟩
   ·rw[show(y==a)=false from by simpa using hy]at e
    obtain⟨i,h1,h2⟩:=ih e
    exact⟨i+1,h1,h2⟩
def lD {ps:List Str}{us:List Gt}(nd:ps.Nodup):∀{i:Nat}{x:Str}{u:Gt},ps[i]? =some x->us[i]? =some u->(ps.zip us).reverse.lookup x=some u:=by
 induction ps generalizing us with
 |nil=>intro i x u e;cases e
 |cons a r ih=>
  intro i x u e1 e2
  cases us with
  |nil=>cases e2
  |cons b us=>
   show(KO x ((a,b)::r.zip us).reverse)=_
   rw[Ng,List.lookup_append]
   cases i with
   |zero=>
    cases e1;cases e2
    have:(r.zip us).reverse.lookup a=none:=by
     rw[List.lookup_eq_none_iff]
     intro p hp
     have:=(Mv (List.mem_reverse.mp hp)).1
     simp only[beq_eq_false_iff_ne,ne_eq,bne_iff_ne]
     intro e
     exact(Ks.mp nd).1 (by rw[<-e]at this;exact this)
    rw[this];simp
   |succ i=>
    rw[ih (Ks.mp nd).2 (show r[i]? =some x from e1) (show us[i]? =some u from e2)];rfl
section
variable {P:Jd}{w:JL}{K:If}{mg:Str->Option Gt}{base:Heap}{N ps ys:List Str}{qual:Str}{scope:Scope}{f c:Addr}{A:JK}{outer:List Env}{s:IQ}{H:Hp}{E:XK}{us:List Gt}{vs cvs:List V}{cs:List Addr}{h1:Heap}{tk:Nat}
def zw (S:gw N ps ys scope)(hd:A.handled=none)(e0:iF P w K mg base A outer s H)(ca:cx H cs cvs)(hcs:cs.Nodup)(hcl:cs.length=ys.length)(hl:vs.length=ps.length)(r:aX vs us)
  (hns:h1.Ns s.heap.objs.size (fun x=>(ps.zip us).reverse.lookup x))(hk:∀b o,s.heap.get? b=some o->h1.get? b=some o):
  Inv (jU P w K mg base N qual scope f c (ys.zip cs) A outer s (cZ cs H) E) [] (fN N vs cvs) (cZ cs H) {s with heap:=h1,toks:=tk}:=by
 have ndY:ys.Nodup:=by rw[<-S.suf];exact S.nd.sublist (Ro _ _)
 have ndP:ps.Nodup:=by rw[<-S.pre];exact S.nd.sublist (Nf _ _)
 have lcv:cvs.length=ys.length:=by rw[<-hcl];exact(Paired.length ca).symm
 have cellOf:∀c∈cs,∃v,h1.IsCell c v:=fun c hm=>by
  obtain⟨v,ev⟩:=ca.mem c hm
  obtain⟨⟨u,o,_,eo,hd⟩,_,_⟩:=(show aU P w H s.heap c (cB c v)from e0.hok c _ ev)
  exact⟨_,o,hk _ _ eo,hd⟩
 have memC:∀x c,(ys.zip cs).lookup x=some c->c∈cs:=fun x c e=>by
  obtain⟨i,_,e2⟩:=fT e
  exact Jq e2
 have noA:∀b:Addr,b∉(jU P w K mg base N qual scope f c (ys.zip cs) A outer s (cZ cs H) E).ex:=fun b z=>absurd (show b∈([]:List Addr)from z) (by simp)
 have hid:∀b,H b=none->cZ cs H b=none:=fun b e=>by
  by_cases hb:b∈cs
  ·exact gr hb
  ·rw[cI hb];exact e
 refine⟨⟨e0.mod,S.kind,rfl,rfl,IV _,fun y z c h1 h2=>?_,fun y hy=>?_,fun y c hf _=>?_,fun _=>hd,Qc e0.frames,.inr ⟨rfl,rfl⟩,fun b z=>absurd z (noA b),fun b o e=>⟨(e0.bs b o e).1,hid b (e0.bs b o e).2⟩,e0.bsz,fun b _ _=>noA b,fun b z=>absurd z (noA b),e0.funs,fun b hb=>hid b (e0.frf b hb)⟩,
  rfl,e0.bare,Un.kept hk,⟨_,hns,fun i y v q1 q2 q3=>?_⟩,fun y c h=>cellOf c (memC y c h),hid _ (e0.hok.fresh (IV _)),fun y c h=>gr (memC y c h),fun p hp=>absurd (show p∈([]:List (Addr×Obj))from hp) (by simp),(Ag ca e0.hok).kept hk,?_⟩
 ·obtain⟨i,e1,e2⟩:=fT (show(ys.zip cs).lookup y=some c from h1)
  obtain⟨j,e3,e4⟩:=fT (show(ys.zip cs).lookup z=some c from h2)
  have:i=j:=by
   obtain⟨a1,b1⟩:=IW.mp e2
   obtain⟨a2,b2⟩:=IW.mp e4
   exact(RG hcs).mp (b1.trans b2.symm)
  subst this
  rw[e1]at e3;exact Js e3
 ·have hy:scope.names.lookup y=some .cell\/scope.names.lookup y=some .free:=hy
  rcases hy with hy|hy
  ·exact absurd rfl (S.nocell _ (KM hy))
  ·obtain⟨i,hi,e⟩:=MK.mp (S.frs _ (KM hy) rfl)
   have hi2:i<cs.length:=by omega
   exact⟨cs[i],kL hcl ndY (IW.mpr ⟨hi,e⟩) (IR hi2)⟩
 ·exact absurd (show false=true from hf) Jc
 ·unfold fN at q2
  by_cases hi:i<vs.length
  ·rw[Kt (by simpa using hi),Jr]at q2
   have ha:vs[i]?=some v:=by
    cases e:vs[i]? with
    |none=>rw[e]at q2;cases q2
    |some a=>rw[e]at q2;cases q2;rfl
   obtain⟨u,hu,rv⟩:=r.get ha
   have hp:ps[i]?=some y:=by
    rw[<-S.pre,PJ (by omega)];exact q1
   exact⟨u,rv,.inl ⟨S.par y (Jq hp),lD ndP hp hu⟩⟩
  ·rw[Kq (by simpa using hi),IU]at q2
   by_cases hj:i- vs.length<N.length- vs.length- cvs.length
   ·rw[Kt (by simpa using hj),PQ]at q2
    split at q2<;>cases q2
   ·rw[Kq (by simpa using hj),NE,Jr]at q2
    have ha:cvs[i- vs.length- (N.length- vs.length- cvs.length)]?=some v:=by
     cases e:cvs[i- vs.length- (N.length- vs.length- cvs.length)]? with
     |none=>rw[e]at q2;cases q2
     |some a=>rw[e]at q2;cases q2;rfl
    have hle:=S.le
    have hiN:i<N.length:=(IW.mp q1).1
    have hx:i- vs.length- (N.length- vs.length- cvs.length)=i- (N.length- ys.length):=by omega
    rw[hx]at ha
    have hy:ys[i- (N.length- ys.length)]?=some y:=by
     have e1:N.drop (N.length- ys.length)=ys:=S.suf
     have e2:(N.drop (N.length- ys.length))[i- (N.length- ys.length)]?=some y:=by
      rw[List.getElem?_drop]
      rw[show N.length- ys.length+(i- (N.length- ys.length))=i by omega];exact q1
     rw[e1]at e2;exact e2
    obtain⟨c,ec,hc⟩:=ca.get ha
    obtain⟨⟨u,o,ru,eo,hdo⟩,_,_⟩:=(show aU P w H s.heap c (cB c v)from e0.hok c _ hc)
    exact⟨u,ru,.inr ⟨.inr (S.fr y (Jq hy)),c,kL hcl ndY hy ec,o,hk _ _ eo,hdo⟩⟩
 ·unfold fN
  show _=N.length
  have:=S.le
  rw[Jg,Jg,IU,IU,NE]
  omega
end
section
variable {P:Jd}{w:JL}{K:If}{mg:Str->Option Gt}{base:Heap}{k:Nat}{t:cQ}{N:List Str}{sp:Sp}
def lM {body:Expr}(hb:t.body=.expr body)(S:gw N t.ps t.ys t.scope)
  (hbody:∀(f c:Addr)(cl:List (Str×Addr))(A:JK)(outer:List Env)(s:IQ)(H:Hp)(vs cvs:List V)(Q:VK)(E:XK),bC k (A.deeper (OO t.qual t.scope s.heap.objs.size f (.ref c) cl))->vs.length=t.ps.length->cvs.length=t.ys.length->sp (vs++cvs) H Q E->
   ∃te,PE (jU P w K mg base N t.qual t.scope f c cl A outer s H E) body te/\te (fN N vs cvs) H Q):gL P w K mg base (k+1) t sp:=by
 refine⟨fun A outer s H f cs us vs cvs Q E hr e0 ca r hl hsp=>?_⟩
 obtain⟨c,hf,hcc⟩:=ca.ex
 have KX:K.In s.heap:=e0.mod.kin.keeps fun b o e=>(e0.bs b o e).1
 have lim:s.heap.NoLimit:=e0.mod.nolimit.keeps fun b o e=>(e0.bs b o e).1
 obtain⟨⟨od,fd,sl,ho,h1,h2,h3,h4,h5,h6,h7,h8,h9,h10⟩,_,_⟩:=(show aU P w H s.heap f (gG f t cs c)from e0.hok f _ hf)
 obtain⟨⟨o,vs',tk,hco,hdo,hv⟩,_,_⟩:=(show aU P w H s.heap c (gj c t.qual)from e0.hok c _ hcc)
 have hcd:s.heap.CodeRec fd.code fd.qualname:=⟨c,o,vs',tk,h6,hco,hdo,by rw[h1];exact hv⟩
 refine Mh (W.kla_callFunE (R:=CR (CX1 P w) outer P w (cZ cs H) s (fun v H'=>Q v (cG cs H H')) (fun c a H'=>E c a (cG cs H H'))) hr.depth ho rfl (by rw[h3];exact S.co) (by rw[h3];exact S.gen) (h2.trans hb) hcd ?_) fun r s' h=>CR.back ca.cells e0.frf e0.hok h
 rw[h8 us (by rw[<-r.length];exact hl),h3,h4,h5,h1,h6,h7]
 refine tx (Oh S.nocell (fun y hy=>S.par y.1 (Mv hy).1) (fun h' hns hsb=>⟨lim.fresh _ hsb,?_⟩) S.kind)
 have hk:∀b o,s.heap.get? b=some o->h'.get? b=some o:=fun b o e=>hsb.extBut b o (Jb (IS e)) (gV _ e)
 have lcv:cvs.length=t.ys.length:=by rw[<-h10];exact(Paired.length ca.cells).symm
 obtain⟨te,ht,hq⟩:=hbody f c (t.ys.zip cs) A outer s (cZ cs H) vs cvs _ _ (hr.deeper _) hl lcv hsp
 have I:=zw (tk:=s.toks+(t.ps.zip us).length) (qual:=t.qual) (f:=f) (c:=c) (E:=fun c a H'=>E c a (cG cs H H')) S hr.hd e0 ca.cells h9 h10 hl r hns hk
 show codeAny _ _ (.expr body (OO t.qual t.scope s.heap.objs.size f (.ref c) (t.ys.zip cs))) _ _
 refine W.kla_codeExpr ?_
 refine Ju (ht [] _ (fN N vs cvs) _ _ I hq) (fun v s' hs=>?_) fun e s' hs=>hs
 obtain⟨x,H',J,rv,q⟩:=hs
 exact⟨x,H',J.os,J.bare,J.base,J.hok,rv,q⟩
end
def BM (mg:Str->Option Gt)(h:Heap):Prop:=∃bm ob,mg "__builtins__"=some (.ref bm)/\bm≠builtinsNs/\h.get? bm=some ob/\ob.cls=.type "module"/\ob.dict=some builtinsNs/\ob.data=.plain
section
variable {X:Cx}{pins:List (Addr×Obj)}{σ:St}{H:Hp}{s:IQ}{P c:Addr}{ps:Array Gt}{t:cQ}{cs:List Addr}{h':Heap}{tk:Nat}{fd:Jn}
def xo {more:Array Gt}(I:Inv X pins σ H s)(hP:H P=some (.tbl ps))(hx:MP P s.heap h')(hge:s.heap.objs.size<=c)(hlt:c<h'.objs.size)(hrec:h'.CodeRec (.ref c) t.qual)
  (htb:h'.get? P=some (Qm (ps++more)))(hfd:nN t cs c fd):
  Inv X pins σ (upd (upd (upd H P (.tbl (ps++more))) c (gj c t.qual)) h'.objs.size (gG h'.objs.size t cs c)) {s with heap:=h'.push {cls:=.type "function",data:=.func fd},toks:=tk}:=by
 have hcn:H c=none:=I.hok.fresh hge
 have hfn:H h'.objs.size=none:=I.hok.fresh (Lz (Ly hge hlt))
 have ncP:c≠P:=(ay hP hcn).symm
 have nfP:h'.objs.size≠P:=(ay hP hfn).symm
 have ncf:c≠h'.objs.size:=Jb hlt
 have old:∀b o,s.heap.get? b=some o->b≠c/\b≠h'.objs.size:=fun b o e=>⟨Jb (Jm (IS e) hge),Jb (Jm (IS e) (Lz (Ly hge hlt)))⟩
 have keepP:∀b o,b≠P->s.heap.get? b=some o->(h'.push {cls:=.type "function",data:=.func fd}).get? b=some o:=fun b o hb e=>gV _ (hx b o hb e)
 have neP:∀b,H b=none->b≠P:=fun b e z=>by rw[z,hP]at e;cases e
 have obj:∀b o,H b=some o->∃u,s.heap.get? b=some u:=fun b o e=>ku (I.hok b o e)
 have same:∀b o,H b=some o->b≠P->(upd (upd (upd H P (.tbl (ps++more))) c (gj c t.qual)) h'.objs.size (gG h'.objs.size t cs c)) b=some o:=fun b o e hb=>by
  rw[ap (ay e hfn),ap (ay e hcn),ap hb];exact e
 refine I.un ⟨fun b o e n hb hx'=>keepP b o (neP b n) e,fun b o e n hb hx'=>⟨o.slots,keepP b o (neP b n) e⟩,fun b o e n hx'=>?_,fun b o e hx'=>?_,fun b xs e=>same b _ e (de e hP (fun z=>nomatch z)),fun b o u e=>same b _ e (de e hP (fun z=>nomatch z)),fun b qs e=>?_⟩ fun b o e=>?_
 ·rw[ap (old b o e).2,ap (old b o e).1,ap (neP b n)];exact n
 ·by_cases hb:b=P
  ·subst hb;exact⟨_,gV _ htb⟩
  ·exact⟨o,keepP b o hb e⟩
 ·by_cases hb:b=P
  ·subst hb
   rw[hP]at e;cases e
   exact⟨more,by rw[ap nfP.symm,ap ncP.symm,al]⟩
  ·exact⟨#[],by rw[same b _ e hb];simp⟩
 ·by_cases hf:b=h'.objs.size
  ·subst hf
   rw[al]at e;cases e
   refine⟨⟨_,fd,_,IT _ rfl,hfd⟩,⟨_,IT _ rfl⟩,?_⟩
   rintro h1 h2 ⟨od,fd',sl,e1,e2⟩ k
   exact⟨od,fd',sl,k _ e1,e2⟩
  ·rw[ap hf]at e
   by_cases hc:b=c
   ·subst hc
    rw[al]at e;cases e
    obtain⟨c2,oc,vs,tq,e0,e1,e2,e3⟩:=hrec
    cases e0
    refine⟨⟨oc,vs,tq,gV _ e1,e2,e3⟩,⟨_,gV _ e1⟩,?_⟩
    rintro h1 h2 ⟨o,vs,tk,a1,a2,a3⟩ k
    exact⟨o,vs,tk,k _ a1,a2,a3⟩
   ·rw[ap hc]at e
    by_cases hp:b=P
    ·subst hp
     rw[al]at e;cases e
     exact gV _ htb
    ·rw[ap hp]at e
     refine(I.hok b o e).stay (fun a u ha q=>keepP a u ?_ q) (fun a q=>same a _ q (de q hP (fun z=>nomatch z))) fun a xs q=>same a _ q (de q hP (fun z=>nomatch z))
     rcases ha with rfl|ha
     ·exact hp
     ·exact de ha hP (fun z=>nomatch z)
def wC (I:Inv X pins σ H s)(hk:∀b o,s.heap.get? b=some o->h'.get? b=some o)(hsz:s.heap.objs.size<=h'.objs.size)(hfd:nN t cs c fd):
  Inv X pins σ (upd H h'.objs.size (gG h'.objs.size t cs c)) {s with heap:=h'.push {cls:=.type "function",data:=.func fd},toks:=tk}:=by
 refine I.laid (a:=h'.objs.size) (o:=gG h'.objs.size t cs c) (fun b u e=>gV _ (hk b u e)) hsz ⟨⟨_,fd,_,IT _ rfl,hfd⟩,⟨_,IT _ rfl⟩,?_⟩
 rintro h1 h2 ⟨od,fd',sl,e1,e2⟩ k
 exact⟨od,fd',sl,k _ e1,e2⟩
end
def pZ (P:Addr)(pos:Pos)(t:cQ)(cs:List Addr):TE:=fun _ H Q=>∃ps,H P=some (.tbl ps)/\TriplesOk ps.toList/\
 ((codeAmong pos ps.toList=none/\∀c f,H c=none->H f=none->c≠f->Q (.ref f) (upd (upd (upd H P (.tbl (ps++#[rawInt pos.line,rawInt pos.col,.ref c]))) c (gj c t.qual)) f (gG f t cs c)))\/
  ∃c,codeAmong pos ps.toList=some (.ref c)/\∀f,H f=none->Q (.ref f) (upd H f (gG f t cs c)))
section
variable {X:Cx}{c0 P:Addr}{params:Arguments}{scope:Scope}{pos:Pos}{t:cQ}{cs:List Addr}
def zF {pins:List (Addr×Obj)}{σ:St}{H:Hp}{s:IQ}{ps:Array Gt}(I:Inv X pins σ H s)(hP:H P=some (.tbl ps))(B:BM X.mg X.base):
  s.heap.get? P=some (Qm ps)/\s.heap.Ns mainGlobals X.mg/\mainGlobals≠P/\s.heap.BuiltinsAt X.mg P:=by
 have hPo:s.heap.get? P=some (Qm ps):=I.hok P _ hP
 have hg:s.heap.Ns mainGlobals X.mg:=I.mod.glob.keeps I.bk
 have hgP:mainGlobals≠P:=fun q=>by
  obtain⟨o,es,ep,e,hd,_⟩:=hg
  rw[q,hPo]at e;cases e;cases hd
 obtain⟨bm,ob,b1,b2,b3,b4,b5,b6⟩:=B
 have b3':=I.bk _ _ b3
 refine⟨hPo,hg,hgP,bm,ob,b1,b2,fun q=>?_,fun q=>?_,b3',b4,b5,b6⟩
 ·obtain⟨o,es,ep,e,hd,_⟩:=hg
  rw[q,e]at b3';cases b3';rw[hd]at b6;cases b6
 ·rw[q,hPo]at b3';cases b3';cases b4
def ss {body:Expr}(B:BM X.mg X.base)(C:NR X.base c0 P)(hcode:X.env.code=.ref c0)(hcl:closureFor scope X.env=pure (t.ys.zip cs))(nd:cs.Nodup)(hl:cs.length=t.ys.length)
  (hq:X.env.qual++"<lambda>"=t.qual)(hb:t.body=.expr body)(hs:t.scope=scope)
  (hbind:∀(cl:List (Str×Addr))(pm cdv ct:Gt)(us:List Gt),us.length=t.ps.length->bindArgs (W.kla_fn "<lambda>" t.qual params body scope cl pm cdv ct) ⟨us,[]⟩=pure (t.ps.zip us))
  (hdef:defaultsOf params X.env=([],[]):=by rfl):QE X (.Lambda params body scope pos) (pZ P pos t cs):=⟨fun pins s σ H Q I h=>by
 obtain⟨ps,hP,ht,h⟩:=h
 obtain⟨hPo,hg,hgP,hB⟩:=zF I hP B
 have hfd:∀(pm ct:Gt)(c:Addr),nN t cs c (W.kla_fn "<lambda>" t.qual params body scope (t.ys.zip cs) pm (.ref c) ct):=fun pm ct c=>⟨rfl,hb.symm,hs.symm,rfl,rfl,rfl,rfl,hbind _ _ _ _,nd,hl⟩
 refine W.kla_eval hdef ?_
 rw[hq]
 rcases h with⟨hn,q⟩|⟨c,hf,q⟩
 ·refine W.kla_makeFunction hcl I.ok.glob hg hcode (C.keeps I.bk) hPo ht hn hgP hB fun c ctv h' tk hx hge hlt hrec htb=>?_
  exact⟨.ref h'.objs.size,_,xo I hP hx hge hlt hrec htb (hfd _ _ _),rfl,q c h'.objs.size (I.hok.fresh hge) (I.hok.fresh (Lz (Ly hge hlt))) (Jb hlt)⟩
 ·refine W.kla_makeFunctionHit hcl I.ok.glob hg hcode (C.keeps I.bk) hPo ht hf hB fun ctv h' tk hk hsz=>?_
  exact⟨.ref h'.objs.size,_,wC I hk hsz (hfd _ _ _),rfl,q h'.objs.size (I.hok.fresh hsz)⟩⟩
end
section
variable {X:Cx}{k:Nat}{E:St->XK}{x:Str}{p pos:Pos}{e:Expr}{es:List Expr}{ta:TE}
abbrev lc:=List (cQ×Sp)
def rP (ks:lc)(f:Addr)(vs:List V)(H:Hp)(Q:VK)(E:XK):Prop:=∃ts∈ks,∃cs cvs,eY H f ts.1 cs cvs/\vs.length=ts.1.ps.length/\ts.2 (vs++cvs) (cZ cs H) (fun v H'=>Q v (cG cs H H')) (fun c a H'=>E c a (cG cs H H'))
def dj (ks:lc)(E:St->XK)(ta:TE)(t:TA):TE:=fun σ H Q=>ta σ H fun x H1=>∃f,x=.ref f/\(∃ts∈ks,∃cs cvs,eY H1 f ts.1 cs cvs)/\t σ H1 fun vs H2=>rP ks f vs H2 Q (E σ)
def tX {P:Jd}{w:JL}{H:Hp}{h:Heap}{f:Addr}{t:cQ}{cs:List Addr}{cvs:List V}(ok:HOk P w H h)(c:eY H f t cs cvs):W.FnAt f h:=by
 obtain⟨c',hf,_⟩:=c.ex
 obtain⟨⟨od,fd,sl,ho,_⟩,_,_⟩:=(show aU P w H h f (gG f t cs c')from ok f _ hf)
 exact⟨_,_,_,_,ho⟩
def qH (P:Jd)(w:JL)(K:If)(mg:Str->Option Gt)(base:Heap)(k:Nat)(ks:lc):Prop:=∀ts∈ks,gL P w K mg base k ts.1 ts.2
def cD {ks:lc}{t:TA}(hk:qH X.prog X.w X.K X.mg X.base k ks)(hr:bC k X.A)(hx:iC (CX1 X.prog X.w) X E)(hg:QE X (.Name x p) ta)(ha:QA X (e::es) t)(hs:bh (e::es)=true:=by rfl):
  QE X (.Call (.Name x p) (e::es) [] pos) (dj ks E ta t):=⟨fun pins s σ H Q I h=>by
 have h':(bP e&&bh es)=true:=hs
 refine Ke (thn (hg.out pins s σ H _ I h) fun u s1 ⟨y,H1,I1,ry,f,ey,⟨ts,hts,cs,cvs,ca⟩,q⟩=>?_)
 subst ey
 obtain rfl:u=Ji f:=ry
 refine W.callWith_F (tX I1.hok ca) (thn (ha.out pos pins s1 σ H1 _ I1 q) fun us s2 ⟨vs,H2,I2,rv,ts2,hm2,cs2,cvs2,ca2,hl,hsp⟩=>⟨tX I2.hok ca2,?_⟩)
  (bc (Jf.mp h').1 es X.env) (bW (Jf.mp h').2)
 refine NZ (Mh ((hk ts2 hm2).run X.A X.stack s2 H2 f cs2 us vs cvs2 Q (E σ) hr I2.env0 ca2 rv hl hsp) fun r s' hq=>?_)
 cases r with
 |error e=>exact hx pins σ H2 s2 e s' I2 hq
 |ok fl=>
  cases fl with
  |ret u=>exact I2.after hq
  |next=>exact Kg hq
  |brk=>exact Kg hq
  |cont=>exact Kg hq⟩
end
structure kP where
 nx:St->Hp->Prop
 rt:St->VK
abbrev TSM:=kP->St->Hp->Prop
def SPM (X:Cx)(pins:List (Addr×Obj))(D:kP)(f:Flow)(s':IQ):Prop:=
 match f with
 |.next=>∃σ' H',Inv X pins σ' H' s'/\D.nx σ' H'
 |.ret u=>∃v σ' H',Inv X pins σ' H' s'/\aY v u/\D.rt σ' v H'
 |_=>False
structure QM (X:Cx)(st:Stmt)(t:TSM):Prop where
 out:∀(pins:List (Addr×Obj))(s:IQ)(σ:St)(H:Hp)(D:kP),Inv X pins σ H s->t D σ H->wpAny (model X.prog X.w) X.A (exec st X.env) (SPM X pins D) X.xe s
structure QMs (X:Cx)(st:List Stmt)(t:TSM):Prop where
 out:∀(pins:List (Addr×Obj))(s:IQ)(σ:St)(H:Hp)(D:kP),Inv X pins σ H s->t D σ H->wpAny (model X.prog X.w) X.A (execs st X.env) (SPM X pins D) X.xe s
def sG:TSM:=fun D σ H=>D.nx σ H
def vH (t u:TSM):TSM:=fun D σ H=>t {D with nx:=fun σ' H'=>u D σ' H'} σ H
def rH (te:TE):TSM:=fun D σ H=>te σ H (D.rt σ)
def xq (c:TT)(t u:TSM):TSM:=fun D σ H=>c σ H fun b H1=>Sel b (t D σ H1) (u D σ H1)
section
variable {X:Cx}{st:Stmt}{sts l m:List Stmt}{t u:TSM}{tS:TS}{e c:Expr}{te:TE}{tc:TT}{pos:Pos}
def sF (h:QE X e te):QM X (.Return (some e) pos) (rH te):=⟨fun pins s σ H D I hq=>
 SJ (thn (h.out pins s σ H _ I hq) fun v s1 ⟨x,H1,I1,r1,q1⟩=>⟨x,σ,H1,I1,r1,q1⟩)⟩
def Da (hc:QT X c tc)(ha:QMs X l t)(hb:QMs X m u):QM X (.If c l m pos) (xq tc t u):=⟨fun pins s σ H D I h=>by
 refine wpAny_If (thn (hc.out pins s σ H _ I h) fun d s1 ⟨H1,I1,q1⟩=>?_)
 have q1:=dP q1
 cases d with
 |true=>exact ha.out pins s1 σ H1 D I1 q1
 |false=>exact hb.out pins s1 σ H1 D I1 q1⟩
def yf:QMs X [] sG:=⟨fun _ _ σ H _ I h=>MC ⟨σ,H,I,h⟩⟩
def uO (h1:QM X st t)(h2:QMs X sts u):QMs X (st::sts) (vH t u):=⟨fun pins s σ H D I h=>by
 refine NK (thn (h1.out pins s σ H _ I h) fun f s1 q=>?_)
 cases f with
 |next=>
  obtain⟨σ',H',I',q⟩:=q
  exact h2.out pins s1 σ' H' D I' q
 |ret v=>exact q
 |brk=>exact q
 |cont=>exact q⟩
def sD (h1:QM X st t):QMs X [st] t:=⟨fun pins s σ H D I h=>by
 refine NK (thn (h1.out pins s σ H D I h) fun f s1 q=>?_)
 cases f with
 |next=>exact MC q
 |ret v=>exact q
 |brk=>exact q
 |cont=>exact q⟩
end
def eK:List (Nat×Addr)->St->Hp->Hp
 |[],_,H=>H
 |(i,c)::r,σ,H=>match σ[i]? with
  |some (some v)=>eK r σ (upd H c (cB c v))
  |_=>eK r σ H
theorem ki {P:Jd}{w:JL}{fs:List Addr}{H:Hp}{h h':Heap}{σ:St}:∀(cs:List (Nat×Addr))(H':Hp),(cs.map (·.2)).Nodup->(∀p∈cs,H' p.2=none/\h.objs.size<=p.2/\∀v,σ[p.1]? =some (some v)->∃u o,aY v u/\h'.get? p.2=some o/\o.data=.cell (some u))->
  Un fs [] H H' h h'->HOk P w H' h'->Un fs [] H (eK cs σ H') h h'/\HOk P w (eK cs σ H') h'
 |[],H',_,_,u,ok=>⟨u,ok⟩
 |(i,c)::r,H',nd,hc,u,ok=>by
  unfold eK
  have ndr:=(Ks.mp nd).2
  have hcr:∀p∈r,H' p.2=none/\h.objs.size<=p.2/\∀v,σ[p.1]? =some (some v)->∃u o,aY v u/\h'.get? p.2=some o/\o.data=.cell (some u):=fun p hp=>hc p (Je _ hp)
  split
  ·rename_i v hv
   obtain⟨hn,hge,hcell⟩:=hc (i,c) Jw
   have hn:H' c=none:=hn
   have hge:h.objs.size<=c:=hge
   obtain⟨uv,o,ru,eo,hd⟩:=hcell v hv
   have eo:h'.get? c=some o:=eo
   refine ki r (upd H' c (cB c v)) ndr (fun p hp=>⟨?_,(hcr p hp).2⟩) ⟨u.keep,u.slot,fun b ob e n hx=>?_,u.there,fun b xs e=>?_,fun b ob z e=>?_,fun b ps e=>?_⟩ fun b ob e=>?_
   ·have:p.2≠c:=fun z=>(Ks.mp nd).1 (by rw[<-z];exact Ky.mpr ⟨p,hp,rfl⟩)
    rw[ap this];exact(hcr p hp).1
   ·rw[ap (Jb (Jm (IS e) hge))];exact u.free b ob e n hx
   ·have z:=u.tups b xs e;rw[ap (ay z hn)];exact z
   ·have z:=u.frzs b ob _ e;rw[ap (ay z hn)];exact z
   ·obtain⟨more,z⟩:=u.tbls b ps e;exact⟨more,by rw[ap (ay z hn)];exact z⟩
   ·by_cases hb:b=c
    ·subst hb
     rw[al]at e;cases e
     refine⟨⟨uv,o,ru,eo,hd⟩,⟨o,eo⟩,?_⟩
     rintro h1 h2 ⟨u',o',r',e',d'⟩ k
     exact⟨u',o',r',k _ e',d'⟩
    ·rw[ap hb]at e
     exact(ok b ob e).stay (fun a q _ z=>z) (fun a q=>by rw[ap (ay q hn)];exact q) fun a xs q=>by rw[ap (ay q hn)];exact q
  ·exact ki r H' ndr hcr u ok
def Fun.okM {P:Jd}{w:JL}{K:If}{mg:Str->Option Gt}{base:Heap}{x qual:Str}{st:Stmt}{f c0:Addr}{fd:Jn}{N ps:List Str}{k:Nat}{sp:Sp}{caps:Nat->List (Nat×Addr)}(F:Fun K x qual st f fd)(hcd:fd.code=.ref c0)(S:aC N ps (am st))(len:∀vs H Q E,sp vs H Q E->vs.length=ps.length)
  (hcaps:∀(L:Nat)(p:Nat×Addr),p∈caps L->∃y,N[p.1]? =some y/\(am st).names.lookup y=some .cell/\(cellsFrom (L+1) (am st).names []).lookup y=some p.2)(hnd:∀L,((caps L).map (·.2)).Nodup)
  (hbody:∀(A:JK)(outer:List Env)(s:IQ)(H:Hp)(vs:List V)(Q:VK)(E:XK),bC k (A.deeper (envOfC qual (am st) s.heap.objs.size f (.ref c0)))->sp vs H Q E->
   ∃t,QMs (dR (CX1 P w) P w K mg base N qual (am st) f (.ref c0) A outer s H E) (ba st) t/\t {nx:=fun σ H'=>(∀p∈caps s.heap.objs.size,H' p.2=none)->Q .non (eK (caps s.heap.objs.size) σ H'),rt:=fun σ v H'=>(∀p∈caps s.heap.objs.size,H' p.2=none)->Q v (eK (caps s.heap.objs.size) σ H')} (start N vs) H):aV P w K mg base (CX1 P w) (k+1) f fd ps sp:=by
 obtain⟨oc,od,kV,doc,pm,an,cdv,ct,osl,rfl,lk,hcd'⟩:=F.ex
 obtain rfl:cdv=.ref c0:=hcd
 refine⟨len,fun A outer s H args us vs Q E hr e0 hb r hsp=>?_⟩
 have hl:=len _ _ _ _ hsp
 have KX:K.In s.heap:=e0.mod.kin.keeps fun b o e=>(e0.bs b o e).1
 have lim:s.heap.NoLimit:=e0.mod.nolimit.keeps fun b o e=>(e0.bs b o e).1
 have hkind:∀y∈ps.zip us,(am st).names.lookup y.1=some .local\/((am st).names.lookup y.1=some .cell/\((cellsFrom (s.heap.objs.size+1) (am st).names []).lookup y.1).isSome=true):=fun⟨n,v⟩ hy=>by
  rcases S.par n (Mv hy).1 with q|q
  ·exact .inl q
  ·exact .inr ⟨q,OY _ _ _ (.inl q)⟩
 refine Rt hr.depth (KX _ _ lk) rfl S.co S.gen rfl (W.codeRec_of KX hcd') (hb _ _ _ _ ?_)
 refine Qf S.kind hkind fun env he s1 x=>?_
 subst he
 refine⟨lim.keeps x.toInCall.keep,codeAny_func ?_⟩
 obtain⟨t,ht,hq⟩:=hbody A outer s H vs Q E (hr.deeper _) hsp
 have I:Inv (dR (CX1 P w) P w K mg base N qual (am st) f (.ref c0) A outer s H E) [] (start N vs) H s1:=lT S hr.hd e0 hl r x
 refine Ju (ht.out [] s1 (start N vs) H _ I hq) (fun fl s' hs=>?_) fun e s' hs=>hs
 have fin:∀{σ':St}{H':Hp}{v:V}{u:Gt},Inv (dR (CX1 P w) P w K mg base N qual (am st) f (.ref c0) A outer s H E) [] σ' H' s'->aY v u->((∀p∈caps s.heap.objs.size,H' p.2=none)->Q v (eK (caps s.heap.objs.size) σ' H'))->CE outer P w H s Q u s':=
  fun{σ' H' v u} J rv q=>by
   have free:∀p∈caps s.heap.objs.size,H' p.2=none:=fun p hp=>by
    obtain⟨y,_,_,hc⟩:=hcaps _ p hp
    exact J.freeC y p.2 hc
   have hcond:∀p∈caps s.heap.objs.size,H' p.2=none/\s.heap.objs.size<=p.2/\∀v,σ'[p.1]? =some (some v)->∃u o,aY v u/\s'.heap.get? p.2=some o/\o.data=.cell (some u):=fun p hp=>by
    obtain⟨y,hy,hk,hc⟩:=hcaps _ p hp
    refine⟨free p hp,J.ok.cab y p.2 rfl hc,fun v hv=>?_⟩
    obtain⟨m,_,hloc⟩:=J.loc
    obtain⟨u',r',lk'⟩:=hloc p.1 y v hy hv (.inr (.inl hk))
    rcases lk' with⟨z,_⟩|⟨_,c,ec,o,eo,hd⟩
    ·have z:(am st).names.lookup y=some .local:=z
     rw[hk]at z;cases z
    ·have ec:(cellsFrom (s.heap.objs.size+1) (am st).names []).lookup y=some c:=ec
     rw[hc]at ec;cases ec
     exact⟨u',o,r',eo,hd⟩
   obtain⟨un,ok⟩:=ki (P:=P) (w:=w) (σ:=σ') (caps s.heap.objs.size) H' (hnd _) hcond J.base J.hok
   exact⟨v,_,J.os,J.bare,un,ok,rv,q free⟩
 cases fl with
 |ret u=>
  obtain⟨v,σ',H',J,rv,q⟩:=hs
  exact fin J rv q
 |next=>
  obtain⟨σ',H',J,q⟩:=hs
  exact fin (v:=V.non) (u:=Kk) J rfl q
 |brk=>exact Kg hs
 |cont=>exact Kg hs
def uo {P:Jd}{w:JL}{K:If}{mg mb:Str->Option Gt}{CX:CXT}{k:Nat}{fa a:Addr}{fd:Jn}{x:Str}{sp:Sp}{s₁:IQ}{vs:List Gt}{ns:List Int}{tabs:List (Addr×Addr)}
  (KX:K.In s₁.heap)(hns:s₁.heap.Ns mainGlobals mg)(hb:s₁.heap.Ns builtinsNs mb)(hbb:∀x:Str,x≠"__name__"->mb x=bootBuiltins x)(hlim:s₁.heap.NoLimit)(hg:s₁.gens=#[])(hB:BM mg s₁.heap)
  (hT:∀q∈tabs,NR s₁.heap q.1 q.2/\s₁.heap.get? q.2=some (Qm #[]))(hKT:Qo K=true)
  (ha:s₁.heap.get? a=some {cls:=.type "list",data:=.seq vs.toArray})(hi:OA vs ns)(hl:ns.length<=sizeLine)(hr:bC k callerA)
  (F:∀base:Heap,K.In base->base.Ns mainGlobals mg->BM mg base->(∀q∈tabs,NR base q.1 q.2)->aV P w K mg base CX k fa fd [x] sp)(hbind:∀(s:IQ)(u:Gt),QU s fd ⟨[u],[]⟩ [(x,u)])
  (hsp:∀H:Hp,(∀q∈tabs,H q.2=some (.tbl #[]))->SqL K H a (ns.map V.int)->sp [.ref a] H (fun v _=>v=.bl true) fun _ _ _=>False)
  (hCX:∀H e s',CX [] H s₁ (fun _ _ _=>False) e s'->False):
  codeAny (model P w) callerA (.call (.ref fa) ⟨[.ref a],[]⟩) (fun r s'=>r=.ok (.ret (.bool true))/\OldK s₁.heap s'.heap/\s'.os=s₁.os/\NJ s'.gens) s₁:=by
 have rv:=jy hi
 have lenV:=hi.length
 have tabK:∀q∈tabs,K.lookup q.2=none:=fun q hq=>by
  cases e:K.lookup q.2 with
  |none=>rfl
  |some o=>
   have e2:=KX _ _ e
   rw[(hT q hq).2]at e2;cases e2
   have:=Kv.mp hKT _ (W.mem_of_lookupK e)
   exact absurd (show false=true from this) Jc
 have tabA:∀q∈tabs,q.2≠a:=fun q hq e=>by
  have e2:=(hT q hq).2
  rw[e,ha]at e2;cases e2
 have core:∀H:Hp,(∀q∈tabs,H q.2=some (.tbl #[]))->SqL K H a (ns.map V.int)->HOk P w H s₁.heap->(∀b,H b≠none->(b=a/\∃o xs,H b=some (.frz o (.lst xs)))\/∃q∈tabs,q.2=b)->(∀b,H b≠none->K.lookup b=none)->
   codeAny (model P w) callerA (.call (.ref fa) ⟨[.ref a],[]⟩) (fun r s'=>r=.ok (.ret (.bool true))/\OldK s₁.heap s'.heap/\s'.os=s₁.os/\NJ s'.gens) s₁:=by
  intro H hO hS hok hA hK
  have base_of:∀{b:Addr}{o:Obj},s₁.heap.get? b=some o->H b=none->(gp s₁.heap H).get? b=some o:=fun e n=>ve e n
  have noA:∀{b:Addr}{o:Obj},s₁.heap.get? b=some o->o.cls≠.none->o.cls≠.type "list"->H b=none:=fun{b o} e c1 c2=>by
   cases q:H b with
   |none=>rfl
   |some u=>
    rcases hA b (by rw[q];simp)with⟨rfl,_⟩|⟨p,hp,rfl⟩
    ·rw[ha]at e;cases e;exact absurd rfl c2
    ·rw[(hT p hp).2]at e;cases e;exact absurd rfl c1
  have noD:∀{b:Addr}{o:Obj}{es:Array DictEntry}{ep:Nat},s₁.heap.get? b=some o->o.data=.dict es ep->H b=none:=fun{b o es ep} e d=>by
   cases q:H b with
   |none=>rfl
   |some u=>
    rcases hA b (by rw[q];simp)with⟨rfl,_⟩|⟨p,hp,rfl⟩
    ·rw[ha]at e;cases e;cases d
    ·rw[(hT p hp).2]at e;cases e;cases d
  have nsK:∀{b:Addr}{m:Str->Option Gt},s₁.heap.Ns b m->(gp s₁.heap H).Ns b m:=fun{b m}⟨o,es,ep,e,d,r⟩=>⟨o,es,ep,base_of e (noD e d),d,r⟩
  have hKb:K.In (gp s₁.heap H):=fun b o e=>base_of (KX b o e) (by
   cases q:H b with
   |none=>rfl
   |some u=>rw[hK b (by rw[q];simp)]at e;cases e)
  have hBb:BM mg (gp s₁.heap H):=by
   obtain⟨bm,ob,b1,b2,b3,b4,b5,b6⟩:=hB
   exact⟨bm,ob,b1,b2,base_of b3 (noA b3 (by rw[b4];intro z;cases z) (by rw[b4];intro z;exact absurd (Ot z) (by decide))),b4,b5,b6⟩
  have hCb:∀q∈tabs,NR (gp s₁.heap H) q.1 q.2:=fun q hq=>by
   obtain⟨o,vs,file,tf,flags,tg,inF,text,tt,e1,e2,r⟩:=(hT q hq).1
   exact⟨o,vs,file,tf,flags,tg,inF,text,tt,base_of e1 (noA e1 (by rw[e2];intro z;cases z) (by rw[e2];intro z;exact absurd (Ot z) (by decide))),e2,r⟩
  have hM:Mod K mg (gp s₁.heap H):=⟨hKb,nsK hns,⟨mb,nsK hb,hbb⟩,let ⟨mc,h1,h2⟩:=hlim;⟨mc,nsK h1,h2⟩⟩
  have e0:iF P w K mg (gp s₁.heap H) callerA [] s₁ H:=⟨rfl,hM,fun b o e=>zN e,MX (tK _ _),trivial,fun b hb=>absurd (show b∈([]:List Addr)from hb) (by simp),hok,.of_eq hg⟩
  refine Mh ((F _ hKb (nsK hns) hBb hCb).run callerA [] s₁ H ⟨[.ref a],[]⟩ [.ref a] [.ref a] _ _ hr e0 (hbind s₁ (.ref a)) (.cons rfl .nil) (hsp H hO hS)) fun r s' h=>?_
  cases r with
  |error e=>exact(hCX H e s' h).elim
  |ok fl=>
   cases fl with
   |next=>exact Kg h
   |brk=>exact Kg h
   |cont=>exact Kg h
   |ret u=>
    obtain⟨v,H',os,bare,un,hok',r',q⟩:=h
    have q':v=.bl true:=q
    subst q'
    obtain rfl:u=Lh true:=r'
    have all:∀b o,s₁.heap.get? b=some o->s'.heap.get? b=some o\/∃q∈tabs,q.2=b/\∃more,s'.heap.get? b=some (Qm more):=fun b o e=>by
     cases q:H b with
     |none=>exact .inl (un.keep b o e q (by intro z;exact absurd (show b∈([]:List Addr)from z) (by simp)) (by simp))
     |some u=>
      rcases hA b (by rw[q];simp)with⟨rfl,ob,xs,z⟩|⟨p,hp,rfl⟩
      ·have z2:=un.frzs b ob _ z
       obtain⟨e1,_⟩:=hok b _ z
       obtain⟨e2,_⟩:=hok' b _ z2
       rw[e]at e1;cases e1
       exact .inl e2
      ·obtain⟨more,z2⟩:=un.tbls p.2 _ (hO p hp)
       exact .inr ⟨p,hp,rfl,_,hok' p.2 _ z2⟩
    refine⟨rfl,⟨fun b o e=>?_,fun b o e=>?_⟩,os,bare⟩
    ·rcases all b o e with z|⟨p,hp,rfl,more,z⟩
     ·exact .inl z
     ·have e2:=(hT p hp).2
      rw[e]at e2;cases e2
      exact .inr (.inl ⟨((hT p hp).1.tab (hT p hp).2).isCodeTable,rfl,#[],more,rfl,by rw[Array.empty_append];exact z⟩)
    ·rcases all b o e with z|⟨p,hp,rfl,more,z⟩
     ·exact⟨_,z⟩
     ·exact⟨_,z⟩
 cases hk:K.lookup a with
 |some o=>
  have e:=KX a o hk
  rw[ha]at e
  cases e
  refine core (fun b=>if b∈tabs.map (·.2)then some (.tbl #[])else none) (fun q hq=>if_pos (Ky.mpr ⟨q,hq,rfl⟩)) (.inr ⟨_,vs.toArray,_,hk,rfl,rfl,rfl,by rw[IX,lenV];exact hl,by simpa using rv⟩) (fun b u z=>?_) (fun b z=>?_) fun b z=>?_
  ·by_cases hb:b∈tabs.map (·.2)
   ·have z':=(if_pos hb).symm.trans z
    cases z'
    obtain⟨q,hq,rfl⟩:=Ky.mp hb
    exact(hT q hq).2
   ·have z':=(if_neg hb).symm.trans z
    cases z'
  ·by_cases hb:b∈tabs.map (·.2)
   ·obtain⟨q,hq,e⟩:=Ky.mp hb
    exact .inr ⟨q,hq,e⟩
   ·exact absurd (if_neg hb) z
  ·by_cases hb:b∈tabs.map (·.2)
   ·obtain⟨q,hq,rfl⟩:=Ky.mp hb
    exact tabK q hq
   ·exact absurd (if_neg hb) z
 |none=>
  refine core (fun b=>if b=a then some (.frz {cls:=.type "list",data:=.seq vs.toArray} (.lst (ns.map V.int)))else if b∈tabs.map (·.2)then some (.tbl #[])else none)
   (fun q hq=>by show(if q.2=a then _ else _)=_;rw[if_neg (tabA q hq),if_pos (Ky.mpr ⟨q,hq,rfl⟩)]) (.inl (.inr ⟨{cls:=.type "list",data:=.seq vs.toArray},if_pos rfl⟩)) (fun b u z=>?_) (fun b z=>?_) fun b z=>?_
  ·by_cases hb:b=a
   ·have z':=(if_pos hb).symm.trans z
    cases z'
    subst hb
    exact⟨ha,by rw[IU];exact hl,vs,_,rv,ha⟩
   ·have z':(if b∈tabs.map (·.2)then some (HO.tbl #[])else none)=some u:=(if_neg hb).symm.trans z
    by_cases hb2:b∈tabs.map (·.2)
    ·rw[if_pos hb2]at z';cases z'
     obtain⟨q,hq,rfl⟩:=Ky.mp hb2
     exact(hT q hq).2
    ·rw[if_neg hb2]at z';cases z'
  ·by_cases hb:b=a
   ·exact .inl ⟨hb,_,_,if_pos hb⟩
   ·by_cases hb2:b∈tabs.map (·.2)
    ·obtain⟨q,hq,e⟩:=Ky.mp hb2
     exact .inr ⟨q,hq,e⟩
    ·exact absurd ((if_neg hb).trans (if_neg hb2)) z
  ·by_cases hb:b=a
   ·rw[hb];exact hk
   ·by_cases hb2:b∈tabs.map (·.2)
    ·obtain⟨q,hq,rfl⟩:=Ky.mp hb2
     exact tabK q hq
    ·exact absurd ((if_neg hb).trans (if_neg hb2)) z
def xT {l:W.OpenLaw}{n k:Nat}{q:Jd}{loose:List Str}{XP:(Str->Option Gt)->Heap->Prop}{YP:JL->Heap->Prop}{d:DefRec}{K:Params->If}{CX:JL->CXT}{x:Str}{names:List Str}
  (hn:l.most=some n)(hn2:n<=sizeLine)(hdf:d.params.defaults=[])(hr:bC k callerA)
  (hY:∀(w:JL)(h:Heap),YP w h->(K w.params).In h)
  (hq:∀y∈names,((OR q).find? fun e=>e.name==y).isSome=true)
  (F:∀(w:JL)(mg:Str->Option Gt)(fa:Addr)(h:Heap),(K w.params).In h->h.Ns mainGlobals mg->mg d.name=some (.ref fa)->
   ∃(fd:Jn)(tabs:List (Addr×Addr))(sp:Sp),(∀(s:IQ)(u:Gt),QU s fd ⟨[u],[]⟩ [(x,u)])/\Qo (K w.params)=true/\(∀t∈tabs,∃y∈names,Qn (K w.params) y=some t)/\
    (∀base:Heap,(K w.params).In base->base.Ns mainGlobals mg->BM mg base->(∀t∈tabs,NR base t.1 t.2)->aV l.prog w (K w.params) mg base (CX w) k fa fd [x] sp)/\
    ∀(H:Hp)(a:Addr)(ns:List Int),ns.length<=n->(∀t∈tabs,H t.2=some (.tbl #[]))->SqL (K w.params) H a (ns.map V.int)->sp [.ref a] H (fun v _=>v=.bl true) fun _ _ _=>False)
  (hCX:∀(w:JL)(H:Hp)(s:IQ)(e:Gt)(s':IQ),CX w [] H s (fun _ _ _=>False) e s'->False):
  W.WalkO q loose XP YP l.row.toRowW d [] (fun f vs=>QP f vs):=by
 refine Att.attach_call hn hdf fun w s₀ s₁ mg mb fa o pm cd doc a vs ns G Y ho hd hcd hmg hobj hints hlen hg=>?_
 have KX:=hY w _ Y
 obtain⟨fd,tabs,sp,hb,hKT,htabs,hF,hsp⟩:=F w mg fa _ KX G.T.g hmg
 refine uo (tabs:=tabs) KX G.T.g G.T.b G.T.builtins G.T.nolimit hg G.T.bmain (fun t ht=>?_) hKT hobj hints (JQ hlen hn2) hr hF hb (fun H hO hS=>hsp H a ns hlen hO hS) fun H e s'=>hCX w H s₁ e s'
 obtain⟨y,hy,e⟩:=htabs t ht
 obtain⟨dd,hdd⟩:=JR.mp (hq y hy)
 exact W.tab_of G.T KX hdd e
section
variable {X:Cx}
def SPM.unwish {E:Gt->IQ->Prop}{pins:List (Addr×Obj)}{D:kP}{f:Flow}{s':IQ}(h:SPM (X.wish E) pins D f s'):SPM X pins D f s':=by
 cases f with
 |next=>obtain⟨σ',H',I,q⟩:=h;exact⟨σ',H',I.unwish,q⟩
 |brk=>exact h
 |cont=>exact h
 |ret u=>obtain⟨v,σ',H',I,r,q⟩:=h;exact⟨v,σ',H',I.unwish,r,q⟩
def QMs.nox {st:List Stmt}{t:TSM}(h:QMs X.nox st t):QMs X st t:=⟨fun pins s σ H D I hw=>
 Ju (h.out pins s σ H D (I.wish _) hw) (fun _ _ q=>SPM.unwish q) fun _ _ z=>Kg z⟩
def gL.mono {P:Jd}{w:JL}{K:If}{mg:Str->Option Gt}{base:Heap}{j k:Nat}{t:cQ}{sp:Sp}(F:gL P w K mg base j t sp)(h:j<=k):gL P w K mg base k t sp:=
 ⟨fun A outer s H f cs us vs cvs Q E hr=>F.run A outer s H f cs us vs cvs Q E (hr.mono h)⟩
def jN:V->List V->Hp->VK->Prop:=fun x vs H Q=>∃a y d r H',x=.ref a/\vs=[y,d]/\Dk H a y d r H'/\Q r H'
def jh (hu:X.A.units+1<cLine):MtR X "dict.setdefault" jN:=by
 intro pins s σ H x xs v us Q I rx rs h
 obtain⟨a,y,d,r,H',rfl,rfl,g,q⟩:=h
 obtain rfl:v=Ji a:=rx
 obtain⟨uy,ud,rfl,ry,rd⟩:=kS rs
 rcases g with⟨g,rfl⟩|⟨g,p,rfl⟩
 ·rcases g with⟨kvs,k,e,rfl,l⟩|⟨kvs,k,b,e,rfl,eb,l⟩
  ·obtain⟨z,hd,vs,rel,dd⟩:=jM I.hok e
   obtain⟨w',hw,rw'⟩:=cM.some_of (v:=r) (o:=valueAt vs k) (by rw[l];exact rel.val k)
   exact Ru Kj dd.typeIs LG (LC _ _ _) (RW (bY X.prog X.w) a (kQ ry) hd ud)
    ⟨vs,dd,by rw[<-rel.length];exact z,(fun v' hv'=>by rw[hw]at hv';cases hv';exact⟨r,H',I.tok _,rw',q⟩),(fun hn=>by rw[hw]at hn;cases hn)⟩
  ·cases (show uy=Ji b from ry)
   obtain⟨z,hd,xs,rel,dd⟩:=lq I.hok e
   obtain⟨w',hw,rw'⟩:=cM.some_of (v:=r) (o:=(atKey xs k).map (·.2)) (by rw[l];exact rel.val k)
   obtain⟨pp,hp,hp2⟩:=PF.mp hw
   refine Jo Kj dd.typeIs LG ?_ (LC _ _ _)
   unfold KF.«dict.setdefault»
   refine cW ?_
   unfold NY
   refine cW (Rp dd.typeIs ?_)
   show wpAny _ _ (pure (a,Ji b,some ud)) _ _ s
   refine tx ?_
   show wpAny _ _ (if (a==sysModules)=true then _ else(dictSetDefault a (.ref b) ud>>=_)) _ _ s
   rw[if_neg (by rw[hd];exact Jc)]
   refine cW (fi (Np hu) (jg I.hok eb) dd (fun p' hp'=>?_) (fun hn=>?_) (by rw[<-Paired.length rel];exact z))
   ·rw[hp]at hp';cases hp'
    exact tx ⟨_,rfl,⟨r,H',I.tok _,by rw[hp2];exact rw',q⟩⟩
   ·rw[hp]at hn;cases hn
 ·rcases g with⟨kvs,k,e,rfl,l⟩|⟨kvs,k,b,e,rfl,eb,l⟩
  ·rcases p with⟨kvs',k',e',ey,lz,rfl⟩|⟨kvs',k',b',e',ey,_⟩
   ·have ek:k=k':=by cases k<;>cases k'<;>first|(cases ey;rfl)|cases ey
    subst ek
    obtain⟨z,hd,vs,rel,dd⟩:=EL I.hok e'
    have ee:kvs=kvs':=by
     rcases e with e|⟨o,e⟩
     ·rw[e']at e;cases e;rfl
     ·rw[e']at e;cases e
    subst ee
    have hn:valueAt vs k=none:=cM.none_of (by rw[l];exact rel.val k)
    refine Ru Kj dd.typeIs LG (LC _ _ _) (RW (bY X.prog X.w) a (kQ ry) hd ud)
     ⟨vs,dd,by rw[<-rel.length];exact z,(fun v' hv'=>by rw[hn]at hv';cases hv'),fun _ h' dd' hs=>?_⟩
    have he:∃q,h'.get? a=some q:=let ⟨q,_,_,hq,_⟩:=dd';⟨q,hq⟩
    have hl:(dw kvs k r).length<=sizeLine:=by have:=gT kvs k r;omega
    exact⟨r,_,qR I (by rw[e'];exact LQ) hs he (BD hl hd (rel.put k rd) dd'),rd,q⟩
   ·cases k<;>cases ey
  ·rcases p with⟨kvs',k',e',ey,_⟩|⟨kvs',k',b',e',ey,eb',lz,rfl⟩
   ·cases k'<;>cases ey
   ·cases ey
    have ek:k=k':=ib (HO.tup.inj (Js (eb.symm.trans eb')))
    subst ek
    cases (show uy=Ji b from ry)
    obtain⟨z,hd,xs,rel,dd⟩:=yF I.hok e'
    have ee:kvs=kvs':=by
     rcases e with e|⟨o,e⟩
     ·rw[e']at e;cases e;rfl
     ·rw[e']at e;cases e
    subst ee
    have hn:atKey xs k=none:=by
     have:=cM.none_of (o:=(atKey xs k).map (·.2)) (by rw[l];exact rel.val k)
     exact Option.map_eq_none_iff.mp this
    refine Jo Kj dd.typeIs LG ?_ (LC _ _ _)
    unfold KF.«dict.setdefault»
    refine cW ?_
    unfold NY
    refine cW (Rp dd.typeIs ?_)
    show wpAny _ _ (pure (a,Ji b,some ud)) _ _ s
    refine tx ?_
    show wpAny _ _ (if (a==sysModules)=true then _ else(dictSetDefault a (.ref b) ud>>=_)) _ _ s
    rw[if_neg (by rw[hd];exact Jc)]
    refine cW (fi (Np hu) (jg I.hok eb) dd (fun p' hp'=>?_) (fun _ h' dd' hs=>?_) (by rw[<-Paired.length rel];exact z))
    ·rw[hn]at hp';cases hp'
    ·obtain⟨q',es,ep,hq,h2,h3,h4,_,h5⟩:=dd'
     have hl:(dw kvs k r).length<=sizeLine:=by have:=gT kvs k r;omega
     refine tx ⟨_,rfl,⟨r,_,qR (ob:=.dT (dw kvs k r)) I (by rw[e'];exact LQ) hs ⟨q',hq⟩ ⟨hl,hd,_,(rel.put k eb rd).keeps fun c ys ec=>?_,q',es,ep,hq,h2,h3,h4,h5⟩,rd,q⟩⟩
     rw[ap (de ec e' (fun z=>nomatch z))]
     exact ec
def Its (z:Str):It:=⟨fun i _=>i<z.length,fun i H x H'=>H'=H/\∃c,z.cps[i]?=some c/\x=.str ⟨#[c]⟩,fun i _=>z.length<=i⟩
def wZ {P:Jd}{w:JL}{K:If}{tg:Expr}(z:Str)(t:Tok)(it:Addr):fW P w K tg (Its z) [it] it (fun i h=>h.IsStrIter it "str_ascii_iterator" z t i)where
 mem:=by simp
 obj:=fun i h st b hb=>by
  have e:b=it:=by simpa using hb
  subst e
  obtain⟨o,e,c,d⟩:=st
  exact⟨o,e,fun v z=>by rw[d]at z;cases z⟩
 keep:=fun i h h' st k=>let ⟨o,ho,r⟩:=st;⟨o,k it (by simp) o ho,r⟩
 item:=by
  intro X hP hw hK hc i pins s σ H E I hf st hg
  subst hP hw hK
  obtain⟨f0,f1,f2,f3,f4,f5⟩:=hf it (by simp)
  have hi:i<z.cps.size:=hg
  refine wpAny_pyNext_ascii_item st (c:=z.cps[i]) (Jp hi) fun h' st' sb=>?_
  have I1:Inv X pins σ H {s with heap:=h',toks:=s.toks+1}:=I.turned (t':=s.toks+1) (fun b o hb e=>(sb.2 b hb).trans e) f0 f1 f3 f4 f5
  obtain⟨o,e,c,d⟩:=id st'
  exact⟨_,rfl,jP (s:={s with heap:=h',toks:=s.toks+1}) e c d (by decide) ⟨.str ⟨#[z.cps[i]]⟩,H,I1,⟨_,rfl⟩,⟨rfl,_,Jp hi,rfl⟩,st',fun b hb=>(hf b hb).1⟩⟩
 done:=by
  intro X hP hw hK hc i pins s σ H E I hf st hg
  subst hP hw hK
  obtain⟨f0,f1,f2,f3,f4,f5⟩:=hf it (by simp)
  exact wpAny_pyNext_ascii_end (I.ok.hd hc) st (Lk (show z.cps.size<=i from hg)) fun h' eb=>⟨rfl,I.turned (t':=s.toks) (fun b o hb e=>eb b o hb e) f0 f1 f3 f4 f5⟩
 self:=fun A i s Q E st h=>by
  refine Ny st.typeIs OQ (Jo OQ st.typeIs F.entry_str_ascii_iterator_iter ?_ (F.args_str_ascii_iterator_iter_1 _))
  show wpAny _ _ (ret (.ref it)) _ _ s
  exact tx ⟨_,rfl,"str_ascii_iterator",_,st.typeIs,F.slot_str_ascii_iterator_next.lookup,h⟩
variable {a:Expr}{ta:TE}{tg:Expr}
def gI (K:If)(tl:TE):TI:=fun σ H R=>tl σ H fun x H1=>match x with
 |.str z=>z.cps.all (·<128)=true/\R (Its z) H1
 |x=>∃a,x=.ref a/\(((∃xs,SqL K H1 a xs)/\R (Itl K a) H1)\/((∃xs,SqT K H1 a xs)/\R (Itt K a) H1))
def gF (h:QE X a ta):QI X tg a (gI X.K ta):=⟨fun pins s σ H R I hw=>by
 refine thn (h.out pins s σ H _ I hw) fun v s1 ⟨x,H1,I1,r1,q1⟩=>?_
 cases x with
 |str z=>
  obtain⟨t,rfl⟩:=r1
  refine wpAny_pyIter_ascii q1.1 ?_
  refine⟨s1.heap.objs.size,[s1.heap.objs.size],_,_,H1,rfl,I1.kept (t':=s1.toks) fun b o e=>gV _ e,wZ z t _,⟨_,IT _ rfl,rfl,rfl⟩,fun b hb=>?_,q1.2⟩
  have e:b=s1.heap.objs.size:=by simpa using hb
  subst e
  exact I1.fpOk (IV _) (I1.hok.fresh (IV _))
 |ref c=>
  obtain⟨a,e,q⟩:=q1
  cases e
  cases r1
  rcases q with⟨⟨xs,hq⟩,q⟩|⟨⟨xs,hq⟩,q⟩
  ·obtain⟨its,rv,p,hz⟩:=I1.list hq
   refine Nz (dJ p) ?_
   refine⟨s1.heap.objs.size,[s1.heap.objs.size],_,_,H1,rfl,I1.kept (t':=s1.toks) fun b o e=>gV _ e,uQ _ _,⟨_,IT _ rfl,rfl,rfl⟩,fun b hb=>?_,q⟩
   have e:b=s1.heap.objs.size:=by simpa using hb
   subst e
   exact I1.fpOk (IV _) (I1.hok.fresh (IV _))
  ·obtain⟨its,rv,p,hz⟩:=I1.tuple hq
   refine Nn (show s1.heap.IsTuple c its.toArray from p) ?_
   refine⟨s1.heap.objs.size,[s1.heap.objs.size],_,_,H1,rfl,I1.kept (t':=s1.toks) fun b o e=>gV _ e,rD _ _,⟨_,IT _ rfl,rfl,rfl⟩,fun b hb=>?_,q⟩
   have e:b=s1.heap.objs.size:=by simpa using hb
   subst e
   exact I1.fpOk (IV _) (I1.hok.fresh (IV _))
 |_=>obtain⟨_,e,_⟩:=q1;cases e⟩
def Aq:OpR X (binaryOp .Mult) (fun x y H Q=>∃z n,x=.str z/\y=.int n/\(-1000<=n/\n<=1000/\z.length<=1000)/\Q (.str (Txt.mul z n)) H):=by
 intro pins s σ H x y v u Q I rx ry h
 obtain⟨z,n,rfl,rfl,⟨h1,h2,h3⟩,q⟩:=h
 obtain⟨t,rfl⟩:=rx
 obtain⟨t',rfl⟩:=ry
 refine SB.mul ⟨?_,fun hn _=>?_,fun hn _=>?_⟩ fun t' k=>⟨.str _,H,I.tok k,⟨_,rfl⟩,q⟩
 ·rw[decide_eq_false (by omega),decide_eq_false (by omega)];rfl
 ·intro hgt
  have h5:(1000:Int)<=(2^63- 1)/n:=Int.le_ediv_of_mul_le (by omega) (by omega)
  omega
 ·have h6:z.length*n.toNat<=1000*1000:=Nat.mul_le_mul h3 (by omega)
  exact decide_eq_false (by rw[KB];omega)
end
def kU {J:It}{n:Nat}{it:Nat->V}{Pk:Hp->Prop}{g:TG}{tb:TS}{D:eO}{σ:St}{H:Hp}(T:ci J n it Pk)(Pv:Nat->St->Hp->Prop)(h0:Pv 0 σ H)(hl:∀i σ H,i<=n->Pv i σ H->Pk H)
  (hs:∀i σ H,i<n->Pv i σ H->g (it i) σ H fun σ2 H2=>tb {D with nx:=Pv (i+1),ct:=Pv (i+1),bk:=D.nx} σ2 H2)(hd:∀σ H,Pv n σ H->D.nx σ H):
  ∃W:Nat->Nat->St->Hp->Prop,(∃m,W 0 m σ H)/\∀i m σ H,W i m σ H->
   (J.stop i H/\D.nx σ H)\/(J.go i H/\∃N:St->Hp->Prop,(∀σ' H',N σ' H'->∃m',m'<m/\W (i+1) m' σ' H')/\∀x H',J.yld i H x H'->g x σ H' fun σ2 H2=>tb {D with nx:=N,ct:=N,bk:=D.nx} σ2 H2):=by
 refine⟨fun i m σ H=>m=n- i/\i<=n/\Pv i σ H,⟨n,by simp,Kf _,h0⟩,?_⟩
 rintro i m σ H ⟨rfl,hi,p⟩
 have q:=hl i σ H hi p
 by_cases hlt:i<n
 ·refine .inr ⟨T.go i H hlt q,Pv (i+1),fun σ' H' p'=>⟨n- (i+1),by omega,rfl,hlt,p'⟩,fun x H' y=>?_⟩
  obtain⟨rfl,rfl⟩:=T.yld i H x H' hlt q y
  exact hs i σ _ hlt p
 ·have e:i=n:=by omega
  subst e
  exact .inl ⟨T.stop H q,hd σ H p⟩
def ci.str (z:Str):ci (Its z) z.length (fun i=>.str ⟨#[z.cps.getD i 0]⟩) (fun _=>True)where
 go:=fun i H hi _=>hi
 yld:=fun i H x H' hi _ y=>⟨y.1,by obtain⟨_,c,hc,rfl⟩:=y;simp[ON,hc]⟩
 stop:=fun H _=>IV _
def kH {α β:Type}(f:β->α->β)(b:β)(l:List α)(i:Nat)(x:α)(h:l[i]?=some x):(l.take (i+1)).foldl f b=f ((l.take i).foldl f b) x:=by
 rw[Sf,h];simp
def jV {α β:Type}{f:α->β}{l:List α}{i:Nat}{x:β}(h:(l.map f)[i]?=some x):∃a,l[i]?=some a/\x=f a:=by
 rw[Jr]at h
 cases e:l[i]? with
 |none=>rw[e]at h;cases h
 |some a=>rw[e]at h;cases h;exact⟨a,rfl,rfl⟩
def eY.keep {H H':Hp}{f:Addr}{t:cQ}{cs:List Addr}{cvs:List V}(k:∀b φ,H b=some (.ext φ)->H' b=some (.ext φ))(c:eY H f t cs cvs):eY H' f t cs cvs:=by
 obtain⟨⟨a,h1,h2⟩,h3⟩:=c
 refine⟨⟨a,k _ _ h1,k _ _ h2⟩,?_⟩
 clear h1 h2
 induction h3 with
 |nil=>exact .nil
 |cons r t ih=>exact .cons (k _ _ r) ih
def mj (k:List Key):(k.map kV).all jm=true:=by
 rw[List.all_map,Kv]
 intro x _
 cases x<;>rfl
def bA:Key->QB
 |.inl i=>.int i
 |.inr z=>.str z
theorem iL {K:If}{H:Hp}:∀k:List Key,DatVs K H (k.map kV) (k.map bA)
 |[]=>.nil
 |.inl i::r=>.cons (.int i) (iL r)
 |.inr z::r=>.cons (.str z) (iL r)
def fm {K:If}{H:Hp}{a:Addr}{k:List Key}(h:H a=some (.tup (k.map kV))):dz K H (.ref a) (.tuple (k.map bA)):=.tup (SqT.of h) (iL k)
theorem cH:∀k l:List Key,KN (k.map bA) (l.map bA)=decide (k=l)
 |[],[]=>by rfl
 |[],_::_=>by rw[decide_eq_false (by simp)];rfl
 |_::_,[]=>by rw[decide_eq_false (by simp)];rfl
 |a::r,b::s=>by
  show((bA a).eqv (bA b)&&KN (r.map bA) (s.map bA))=_
  rw[cH r s]
  have e:(bA a).eqv (bA b)=decide (a=b):=by
   cases a<;>cases b
   ·rename_i i j
    show decide (i=j)=decide (LR i=LR j)
    simp
   ·show false=_;simp
   ·show false=_;simp
   ·rename_i i j
    show(i==j)=decide ((Mn i:Key)=Mn j)
    by_cases h:i=j<;>simp[h]
  rw[e]
  by_cases h1:a=b<;>by_cases h2:r=s<;>simp[h1,h2]
def uz:Key->Bool
 |.inl _=>true
 |.inr z=>MR z
theorem cJ:∀{k:List Key},k.all uz=true->Lg (k.map bA)=true
 |[],_=>rfl
 |.inl i::r,h=>cJ (k:=r) (by rw[PU]at h;exact h)
 |.inr z::r,h=>by
  rw[PU,Jt]at h
  show(MR z&&Lg (r.map bA))=true
  rw[show MR z=true from h.1,cJ h.2];rfl
theorem eX:∀k:List Key,JA (k.map bA)=0
 |[]=>rfl
 |.inl i::r=>by show max 0 (JA (r.map bA))=0;rw[eX r];rfl
 |.inr i::r=>by show max 0 (JA (r.map bA))=0;rw[eX r];rfl
def tc1 {i:Nat}{σ:St}{x:V}{H:Hp}{R:List V->Hp->Prop}(e:σ[i]?=some (some x))(h:R [x] H):af (ae i) ak σ H R:=by
 unfold af ak ae
 rw[e];exact h
def CI (k:List Key):(Lt (k.map bA)).depth<=150:=by show JA (k.map bA)+1<=150;rw[eX];decide
def sR {k l:List Key}(h:(!(Lt (k.map bA)).eqv (.tuple (l.map bA)))=true):k≠l:=fun e=>by
 have h:(!PyData.eqvAll (k.map bA) (l.map bA))=true:=h
 rw[cH,decide_eq_true e]at h;cases h
def DA {k l:List Key}(h:(!(Lt (k.map bA)).eqv (.tuple (l.map bA)))=false):k=l:=by
 have h:(!PyData.eqvAll (k.map bA) (l.map bA))=false:=h
 rw[cH]at h
 simpa using h
def mi (K:If)(ns:List Str):Bool:=decide ((ns.map fun n=>(Qn K n).map (·.2)).Nodup)
def xf {l:List Addr}(h:(l.map some).Nodup):l.Nodup:=Tl some (fun a b h e=>h (congrArg some e)) h
section
variable {X:Cx}
def yT:R2:=fun _ _ _ _=>False
def Aa:OpR X (binaryOp .Mult) yT:=fun _ _ _ _ _ _ _ _ _ _ _ _ h=>h.elim
def dq:R2:=fun x y H Q=>match x,y with
 |.str z,.int n=>(-1000<=n/\n<=1000/\z.length<=1000)/\Q (.str (Txt.mul z n)) H
 |.ref a,.int n=>yT (.ref a) (.int n) H Q
 |x,y=>xA x y H Q
def dW:OpR X (binaryOp .Mult) dq:=(Aq.or (Aa.or IK)).imp fun x y H Q q=>by
 unfold dq at q
 split at q
 ·exact .inl ⟨_,_,rfl,rfl,q.1,q.2⟩
 ·exact .inr (.inl q)
 ·exact .inr (.inr q)
end
section
variable {X:Cx}
def Bm:OpR X (compareOp .Is) (fun x y H Q=>∃b c,x=.bl b/\y=.bl c/\Q (.bl (decide (b=c))) H):=by
 intro pins s σ H x y v u Q I rx ry h
 obtain⟨b,c,rfl,rfl,q⟩:=h
 cases rx
 cases ry
 refine wpAny_is_plain (by rfl) (bn I q ?_)
 cases b<;>cases c<;>rfl
def sf:R2:=fun x y H Q=>match x,y with
 |.bl b,.bl c=>Q (.bl (decide (b=c))) H
 |x,y=>we x y H Q
def AT:OpR X (compareOp .Is) sf:=(Bm.or oIs).imp fun x y H Q q=>by
 unfold sf at q
 split at q
 ·exact .inl ⟨_,_,rfl,rfl,q⟩
 ·exact .inr q
def pS {x y:Str}{px py ep pos:Pos}{ek:Nat}{e:Expr}{te:TE}(i j:Nat)(hN:X.N.Nodup)(hc:X.calm=true)(he:QE X e te)(hi:X.N[i]?=some x:=by rfl)(hj:X.N[j]?=some y:=by rfl)
  (hx:Loc X.env.scope x:=by first|exact .inl rfl|exact .inr rfl)(hy:Loc X.env.scope y:=by first|exact .inl rfl|exact .inr rfl)
  (fx:X.fn x=true\/X.env.scope.names.lookup x=some .local:=by first|exact .inl rfl|exact .inr rfl)(fy:X.fn y=true\/X.env.scope.names.lookup y=some .local:=by first|exact .inl rfl|exact .inr rfl)
  (hs:swapsWithSole [.Tuple [.Name x px,.Name y py] ek ep] e pos.line X.env=pure false:=by rfl)(hw:swappedStores [.Tuple [.Name x px,.Name y py] ek ep] e X.env=pure none:=by rfl):
  QS X (.Assign [.Tuple [.Name x px,.Name y py] ek ep] e pos) (aE te (iR X.K 2 (bN (au i) (bN (au j) gD)))):=
 ⟨uU he.out (pP hc (cK (cV hN hi hx fx) (cK (cV hN hj hy fy) jB))) hs hw⟩
end
end L2
namespace HT
open PySem PyProof.Rows
def sub_tuple_dict:isSubtype (.type "tuple") (.type "dict")=pure false:=by rw[LD];kernel_rfl
def lH:isSubtype (.type "dict") (.type "tuple")=pure false:=by rw[LD];kernel_rfl
def rZ (l b:Addr)(o:Obj)(hc:o.cls=.type "dict")(o2:Obj)(hc2:o2.cls=.type "tuple"):
  Meets (KF.«dict.__eq__» ⟨[.ref l,.ref b],[]⟩) (fun _ R s=>s.heap.get? l=some o/\s.heap.get? b=some o2/\R (.ok (.ret .notImplemented)) s):=
 .of_wp fun prog w A R s h=>by
  obtain⟨hp,g,d,tk,os⟩:=s;obtain⟨hl,hb,h⟩:=h;obtain⟨cls,dd,data,sl⟩:=o;obtain⟨cls2,dd2,data2,sl2⟩:=o2
  simp only at hc hc2;subst hc hc2
  have f1:=sub_tuple_dict;wp_walk using NW hl,NW hb;exact⟨_,rfl,h⟩
def qj (l b:Addr)(o:Obj)(hc:o.cls=.type "tuple")(o2:Obj)(hc2:o2.cls=.type "dict"):
  Meets (KF.«tuple.__eq__» ⟨[.ref l,.ref b],[]⟩) (fun _ R s=>s.heap.get? l=some o/\s.heap.get? b=some o2/\R (.ok (.ret .notImplemented)) s):=
 .of_wp fun prog w A R s h=>by
  obtain⟨hp,g,d,tk,os⟩:=s;obtain⟨hl,hb,h⟩:=h;obtain⟨cls,dd,data,sl⟩:=o;obtain⟨cls2,dd2,data2,sl2⟩:=o2
  simp only at hc hc2;subst hc hc2
  have f1:=lH;wp_walk using NW hl,NW hb;exact⟨_,rfl,h⟩
end HT
namespace L2
open PySem PySem.Spec PyProof.Rows
section
variable {X:Cx}
def yH (K:If):R2:=fun x y H Q=>∃a b ys,x=.ref a/\y=.ref b/\((∃kvs,H a=some (.dK kvs))\/∃kvs,H a=some (.dT kvs))/\SqT K H b ys/\Q (.bl false) H
def zP (hu:X.A.units<cLine):OpR X (compareOp .Eq) (yH X.K):=by
 intro pins s σ H x y v u Q I rx ry h
 obtain⟨a,b,ys,rfl,rfl,ha,hb,q⟩:=h
 cases rx
 cases ry
 obtain⟨its,_,p1,_⟩:=I.tuple hb
 obtain⟨o2,ho2,hc2,_⟩:=id p1
 obtain⟨o,ho,hc⟩:∃o,s.heap.get? a=some o/\o.cls=.type "dict":=by
  rcases ha with⟨kvs,e⟩|⟨kvs,e⟩
  ·obtain⟨_,_,_,_,o,_,_,h1,h2,_⟩:=(show aU X.prog X.w H s.heap a (.dK kvs)from I.hok a _ e)
   exact⟨o,h1,h2.1⟩
  ·obtain⟨_,_,_,_,o,_,_,h1,h2,_⟩:=(show aU X.prog X.w H s.heap a (.dT kvs)from I.hok a _ e)
   exact⟨o,h1,h2.1⟩
 have hne:a≠b:=fun e=>by
  subst e
  rw[ho]at ho2;cases ho2
  rw[hc]at hc2;exact absurd hc2 (by simp)
 show wpAny _ _ (richCompare .Eq (.ref a) (.ref b)) _ _ s
 exact SeqAt.rc_eq_decline_or (k:=false) ⟨_,ho,hc⟩ ⟨_,ho2,hc2⟩ (by decide) F.sub_tuple_dict F.slot_dict_eq Rg
  (fun _ hq=>SM F.slot_dict_eq ⟨_,ho,hc⟩ F.entry_dict_eq (F.args_dict_eq_2 _ _) (HT.rZ a b o hc o2 hc2) ⟨ho,ho2,hq⟩)
  (fun _ hq=>SM Rg ⟨_,ho2,hc2⟩ F.entry_tuple_eq (F.args_tuple_eq_2 _ _) (HT.qj b a o2 hc2 o hc) ⟨ho2,ho,hq⟩)
  (fun _ hq=>wpAny_isSame_ref_other hne ho ho2 (by rw[hc];simp) hq) (.inr hu) ⟨.bl false,H,I,rfl,q⟩
def bw (K:If):R2:=fun x y H Q=>match x,y with
 |.ref a,.ref b=>BF K (.ref a) (.ref b) H Q\/pG K (.ref a) (.ref b) H Q\/yH K (.ref a) (.ref b) H Q
 |.ref a,y=>pG K (.ref a) y H Q
 |x,.ref b=>pG K x (.ref b) H Q
 |x,y=>mEq x y H Q
def bJ (hu:X.A.units+150<cLine):OpR X (compareOp .Eq) (bw X.K):=((Cu (by omega)).or ((AC hu).or ((zP (by omega)).or oEq))).imp fun x y H Q q=>by
 unfold bw at q
 split at q
 ·exact q.elim .inl fun z=>z.elim (fun z=>.inr (.inl z)) fun z=>.inr (.inr (.inl z))
 ·exact .inr (.inl q)
 ·exact .inr (.inl q)
 ·exact .inr (.inr (.inr q))
end
end L2
namespace HT
open PySem PyProof.Rows
def ky:typeLookup (.type "tuple") "__reversed__"=pure none:=by rw[LM,KC];kernel_rfl
def mh:QD.lookup (RK ['d','e','s','r','e','v','e','r'].reverse)=some Manifest.sig_reversed:=by kernel_rfl
def cC:Slot "reversed" "__next__" "reversed.__next__":=
 .of (owner:="reversed") (n:="__next__") (by rw[LM,KC];kernel_rfl) (by decide+kernel) (by decide+kernel) (by decide+kernel)
  (by first|exact .inl (by decide+kernel)|exact .inr (by decide+kernel)) (by rw[LD];kernel_rfl)
def fF:entryFor table "reversed.__next__"=some KF.«reversed.__next__»:=entryFor_of_tree (by kernel_rfl)
def fX (a:Gt):argsOk "reversed.__next__" ⟨[a],[]⟩:=by
 unfold argsOk;rw[OI (id:="reversed.__next__") (n:=['_','_','t','x','e','n','_','_']) (o:=['d','e','s','r','e','v','e','r']) (by kernel_rfl) mh];kernel_rfl
def iS:Slot "reversed" "__iter__" "reversed.__iter__":=
 .of (owner:="reversed") (n:="__iter__") (by rw[LM,KC];kernel_rfl) (by decide+kernel) (by decide+kernel) (by decide+kernel)
  (by first|exact .inl (by decide+kernel)|exact .inr (by decide+kernel)) (by rw[LD];kernel_rfl)
def mH (a:Gt):argsOk "reversed.__iter__" ⟨[a],[]⟩:=by
 unfold argsOk;rw[OI (id:="reversed.__iter__") (n:=['_','_','r','e','t','i','_','_']) (o:=['d','e','s','r','e','v','e','r']) (by kernel_rfl) mh];kernel_rfl
def lL:entryFor table "reversed.__iter__"=some KF.«dict_keyiterator.__iter__»:=
 Ql (id':="dict_keyiterator.__iter__") (by kernel_rfl) (by first|rfl|decide+kernel|(unfold String.splitOn;simp+decide [String.splitOnAux])) (by decide+kernel) (by kernel_rfl)
def mG:Slot "reversed" "__init__" "object.__init__":=
 .of (owner:="object") (n:="__init__") (by rw[LM,KC];kernel_rfl) (by decide+kernel) (by decide+kernel) (by decide+kernel)
  (by first|exact .inl (by decide+kernel)|exact .inr (by decide+kernel)) (by rw[LD];kernel_rfl)
def sL:TypeCalled "reversed" "reversed.__new__" "object.__init__":=
 ⟨by decide+kernel,PySem.F.create_reversed,⟨_,_,PySem.F.mro_reversed⟩,PySem.F.made_reversed,by decide+kernel,PySem.F.sub_reversed_self,mG⟩
def nZ:isSubtype (.type "tuple") (.type "dict")=pure false:=by rw[LD];kernel_rfl
def iy (t:Addr)(i:Int):Obj:={cls:=.type "reversed",data:=.fields #[.ref t,rawInt i]}
def mJ (t:Addr)(items:Array Gt):Meets (KF.«reversed.__new__» ⟨[.type "reversed",.ref t],[]⟩) (fun _ R s=>NP s.heap t items/\(items.size:Int)<2^63/\
  R (.ok (.ret (.ref s.heap.objs.size))) {s with heap:=s.heap.push (iy t ((items.size:Int)- 1)),toks:=s.toks+1+1}):=
 .of_wp fun prog w A R s h=>by
  obtain⟨ht,hz,h⟩:=h
  unfold KF.«reversed.__new__»
  refine cW (KZ (newClass_reversed _) ?_)
  try dsimp only
  refine cW (KZ (a:=()) (by first|rfl|kernel_rfl) ?_)
  refine cW (KZ (a:=()) (by first|rfl|kernel_rfl) ?_)
  try dsimp only
  refine cW (LL ht.typeIs ky ?_)
  try dsimp only
  refine cW (cW (LY (T:="tuple") (b:=false) ht.typeIs nZ ?_))
  rw[if_neg (by simp)]
  refine cW (LL (r:=some (.builtin "tuple.__getitem__")) ht.typeIs slot_tuple_getitem.lookup ?_)
  show wpAny _ _ (if (["tuple.__getitem__","str.__getitem__","bytes.__getitem__","bytearray.__getitem__","memoryview.__getitem__","numpy.ndarray.__getitem__","sqlite3.Row.__getitem__"].contains "tuple.__getitem__")=true then _ else _) _ _ s
  rw[if_pos (by decide)]
  refine tx ?_
  rw[if_neg (by simp)]
  refine cW (len_tuple ht hz ?_)
  refine cW (KZ (a:=some ((items.size:Nat):Int)) rfl ?_)
  show wpAny _ _ (newObj (.type "reversed") (.fields #[.ref t,rawInt ((items.size:Int)- 1)])>>=_) _ _ _
  exact cW (JF (tx ⟨_,rfl,h⟩))
section
variable {prog:Jd}{w:JL}{A:JK}{E:Gt->IQ->Prop}{s:IQ}
def fh {t:Addr}{items:Array Gt}{Q:Gt->IQ->Prop}(ht:NP s.heap t items)(hz:(items.size:Int)<2^63)
  (h:Q (.ref s.heap.objs.size) {s with heap:=s.heap.push (iy t ((items.size:Int)- 1)),toks:=s.toks+1+1}):wpAny (model prog w) A (call (.type "reversed") [.ref t]) Q E s:=
 Pg sL (by decide) (PySem.F.typeCall_reversed_1 _) (PySem.F.newCall_reversed_1 _) (fun obj=>PySem.F.args_object_init_2 obj _) PySem.F.entry_reversed_new (mJ t items) ⟨ht,hz,⟨_,IT _ rfl,rfl⟩,h⟩
def cY (h:Heap)(a t:Addr)(i:Int):Prop:=h.get? a=some (iy t i)
def cY.typeIs {a t:Addr}{i:Int}(x:cY s.heap a t i):s.TypeIs (.ref a) "reversed":=⟨_,x,rfl⟩
def mE {it t:Addr}{i:Nat}{items:Array Gt}{x:Gt}{Q:Option Gt->IQ->Prop}(hit:cY s.heap it t (i:Int))(ht:NP s.heap t items)(hz:(items.size:Int)<2^63)(hx:items[i]?=some x)
  (hQ:∀h',cY h' it t ((i:Int)- 1)->Kh it s.heap h'->Q (some x) {s with heap:=h',toks:=s.toks+1}):wpAny (model prog w) A (pyNext (.ref it)) Q E s:=by
 have hi:i<items.size:=by
  rcases LK i items.size with h|h
  ·exact h
  ·rw[Lk h]at hx;cases hx
 unfold pyNext
 refine cW (Kn (Jj (name:=JM "__next__") hit.typeIs cC
  (Jo cC hit.typeIs fF ?_ (fX _))))
 unfold KF.«reversed.__next__»
 refine cW (KZ (a:=(Ji it,[])) rfl ?_)
 try dsimp only
 refine cW (Jh hit rfl (x:=.ref t) rfl ?_)
 refine cW (Jh hit rfl (x:=rawInt (i:Int)) rfl ?_)
 show wpAny _ _ (if (i:Int)<0 then _ else _) _ _ s
 rw[if_neg (by omega)]
 refine cW (LL (r:=some (.builtin "tuple.__getitem__")) ht.typeIs slot_tuple_getitem.lookup ?_)
 rw[if_neg (by simp)]
 refine cW (RU ?_)
 refine cW (Kn (QV (j:=i) (x:=x) ht (by omega) (by omega) ?_ hx ?_))
 ·unfold seqIndex?
  simp
  omega
 ·refine cW (Jh (s:={s with toks:=s.toks+1}) hit rfl (x:=rawInt (i:Int)) rfl ?_)
  refine cW (Jx hit (by simp) fun h' y sb=>?_)
  exact tx ⟨x,rfl,tx (hQ h' y sb)⟩
def oR {it t:Addr}{Q:Option Gt->IQ->Prop}(hh:A.handled=none)(hit:cY s.heap it t (-1))
  (hQ:∀h',MP it s.heap h'->Q none {s with heap:=h'}):wpAny (model prog w) A (pyNext (.ref it)) Q E s:=by
 unfold pyNext
 refine cW (Kn (Jj (name:=JM "__next__") hit.typeIs cC
  (Jo cC hit.typeIs fF ?_ (fX _))))
 unfold KF.«reversed.__next__»
 refine cW (KZ (a:=(Ji it,[])) rfl ?_)
 try dsimp only
 refine cW (Jh hit rfl (x:=.ref t) rfl ?_)
 refine cW (Jh hit rfl (x:=rawInt (-1)) rfl ?_)
 show wpAny _ _ (if (-1:Int)<0 then _ else _) _ _ s
 rw[if_pos (by decide)]
 refine cW (KY ?_)
 refine cW (cW (Jx hit (by simp) fun h1 y1 s1=>?_))
 refine Jx y1 (by simp) fun h2 y2 s2=>?_
 first
 |show wpAny _ _ (newExc (.type "StopIteration") []>>=_) _ _ _
 |(refine cW ?_;show wpAny _ _ (newExc (.type "StopIteration") []>>=_) _ _ _)
 refine cW ?_
 simp only[newExc,newTuple]
 refine cW (JF ?_ (by size_fits))
 refine cW (m:=firstArgMember _ _) (KZ (a:=Kk) (by first|rfl|(simp only[firstArgMember];rfl)) ?_)
 refine JF ?_ (by size_fits)
 simp only[raiseNew]
 refine cW (OH ?_)
 first|rw[show A.in1.handled=none from hh]|rw[hh]
 refine cW (tx (PY ?_))
 refine cW (LY (T:="StopIteration") (b:=true) ⟨_,IT _ rfl,rfl⟩ Nu ?_)
 have eb:MP it s.heap h2:=fun c o hc e=>s2.extBut _ _ hc (s1.extBut _ _ hc e)
 exact tx (hQ _ ((eb.push _).push _))
def kC {it t:Addr}{i:Int}{Q:Gt->IQ->Prop}(hit:cY s.heap it t i)(h:Q (.ref it) s):wpAny (model prog w) A (pyIter (.ref it)) Q E s:=by
 refine Ny hit.typeIs iS (Jo iS hit.typeIs lL ?_ (mH _))
 show wpAny _ _ (ret (.ref it)) _ _ s
 exact tx ⟨_,rfl,"reversed",_,hit.typeIs,cC.lookup,h⟩
end
end HT
namespace L2
open PySem PySem.Spec PyProof.Rows
def vD (K:If)(a:Addr)(xs:List V):It:=
 ⟨fun i H=>SqT K H a xs/\i<xs.length,fun i H x H'=>H'=H/\xs.reverse[i]?=some x,fun i _=>xs.length<=i⟩
def vP {P:Jd}{w:JL}{K:If}{tg:Expr}(a it:Addr)(xs:List V):fW P w K tg (vD K a xs) [it] it (fun i h=>i<=xs.length/\HT.cY h it a ((xs.length:Int)- 1- i))where
 mem:=by simp
 obj:=fun i h st b hb=>by
  have e:b=it:=by simpa using hb
  subst e
  exact⟨_,st.2,fun v z=>by cases z⟩
 keep:=fun i h h' st k=>⟨st.1,k it (by simp) _ st.2⟩
 item:=by
  intro X hP hw hK hc i pins s σ H E I hf st hg
  subst hP hw hK
  obtain⟨hq,hi⟩:=hg
  obtain⟨its,rv,p,hz⟩:=I.tuple hq
  obtain⟨f0,f1,f2,f3,f4,f5⟩:=hf it (by simp)
  have hl:=rv.length
  obtain⟨x,hx⟩:∃x,xs[xs.length- 1- i]?=some x:=⟨_,IR (by omega)⟩
  obtain⟨u,hu,ru⟩:=rv.get hx
  have hrx:xs.reverse[i]?=some x:=by rw[KR hi];exact hx
  have e1:(xs.length:Int)- 1- i=((xs.length- 1- i:Nat):Int):=by omega
  have st2:=st.2
  rw[e1]at st2
  refine HT.mE st2 (show NP s.heap a its.toArray from p) (by rw[IX];rw[KB]at hz;omega) (x:=u) (by simpa using hu) fun h' st' sb=>?_
  have I1:Inv X pins σ H {s with heap:=h',toks:=s.toks+1}:=I.turned (t':=s.toks+1) (fun b o hb e=>(sb.2 b hb).trans e) f0 f1 f3 f4 f5
  have e2:((xs.length- 1- i:Nat):Int)- 1=(xs.length:Int)- 1- ((i+1:Nat):Int):=by omega
  rw[e2]at st'
  exact⟨u,rfl,jP (s:={s with heap:=h',toks:=s.toks+1}) st' rfl rfl (by decide) ⟨x,H,I1,ru,⟨rfl,hrx⟩,⟨hi,st'⟩,fun b hb=>(hf b hb).1⟩⟩
 done:=by
  intro X hP hw hK hc i pins s σ H E I hf st hg
  subst hP hw hK
  obtain⟨f0,f1,f2,f3,f4,f5⟩:=hf it (by simp)
  have hi:xs.length<=i:=hg
  have e1:(xs.length:Int)- 1- i= -1:=by have:=st.1;omega
  have st2:=st.2
  rw[e1]at st2
  exact HT.oR (I.ok.hd hc) st2 fun h' eb=>⟨rfl,I.turned (t':=s.toks) (fun b o hb e=>eb b o hb e) f0 f1 f3 f4 f5⟩
 self:=fun A i s Q E st h=>HT.kC st.2 h
def gS:bootBuiltins "reversed"=some (.type "reversed"):=by decide+kernel
section
variable {X:Cx}{a:Expr}{t:TA}{p pos:Pos}{tg:Expr}
def ci.rev {K:If}{c:Addr}{xs:List V}(d:V):ci (vD K c xs) xs.length (fun i=>xs.reverse.getD i d) (fun H=>SqT K H c xs)where
 go:=fun i H hi h=>⟨h,hi⟩
 yld:=fun i H x H' hi h y=>⟨y.1,by rw[Jk,y.2];rfl⟩
 stop:=fun H h=>IV _
def vf:OpR X (binaryOp .FloorDiv) (rI (fun _ j=>0<j/\j<1267650600228229401496703205376) fun i j=>.int (i/j)):=opI fun i j _ _ _ _ _ hc q=>by
 have h1:(0:Int)<j:=hc.1
 have h2:j<1267650600228229401496703205376:=hc.2
 have h3:j.natAbs.log2<100:=(Ra (by omega)).mpr (Nat.lt_of_lt_of_eq (m:=1267650600228229401496703205376) (by omega) (by decide))
 exact floordiv_int (by omega) (by rw[Pw i (by omega)];exact q) (.inl (PyProof.noPylong_of_log2 (by omega)))
def di:R2:=fun x y H Q=>match x,y with|.int i,.int j=>(0<j/\j<1267650600228229401496703205376)/\Q (.int (i/j)) H|_,_=>False
def dL:OpR X (binaryOp .FloorDiv) di:=vf.imp fun x y H Q q=>by
 unfold di at q
 split at q
 ·exact⟨_,_,rfl,rfl,q.1,q.2⟩
 ·exact q.elim
end
section
variable {α:Type}{l:List α}
def GS (h:l.length=0):l=[]:=Mw.mp h
def fL (h:l.length=1):∃a0,l=[a0]:=by
 cases l with
 |nil=>simp at h
 |cons a l=>
  obtain rfl:=GS (l:=l) (by simpa using h)
  exact⟨a,rfl⟩
def yt (h:l.length=2):∃a0 a1,l=[a0,a1]:=by
 cases l with
 |nil=>simp at h
 |cons a l=>
  obtain⟨b0,rfl⟩:=fL (l:=l) (by simpa using h)
  exact⟨a,b0,rfl⟩
def sB (h:l.length=3):∃a0 a1 a2,l=[a0,a1,a2]:=by
 cases l with
 |nil=>simp at h
 |cons a l=>
  obtain⟨b0,b1,rfl⟩:=yt (l:=l) (by simpa using h)
  exact⟨a,b0,b1,rfl⟩
def ye (h:l.length=4):∃a0 a1 a2 a3,l=[a0,a1,a2,a3]:=by
 cases l with
 |nil=>simp at h
 |cons a l=>
  obtain⟨b0,b1,b2,rfl⟩:=sB (l:=l) (by simpa using h)
  exact⟨a,b0,b1,b2,rfl⟩
def yP (h:l.length=5):∃a0 a1 a2 a3 a4,l=[a0,a1,a2,a3,a4]:=by
 cases l with
 |nil=>simp at h
 |cons a l=>
  obtain⟨b0,b1,b2,b3,rfl⟩:=ye (l:=l) (by simpa using h)
  exact⟨a,b0,b1,b2,b3,rfl⟩
def yp (h:l.length=6):∃a0 a1 a2 a3 a4 a5,l=[a0,a1,a2,a3,a4,a5]:=by
 cases l with
 |nil=>simp at h
 |cons a l=>
  obtain⟨b0,b1,b2,b3,b4,rfl⟩:=yP (l:=l) (by simpa using h)
  exact⟨a,b0,b1,b2,b3,b4,rfl⟩
def Et (h:l.length=7):∃a0 a1 a2 a3 a4 a5 a6,l=[a0,a1,a2,a3,a4,a5,a6]:=by
 cases l with
 |nil=>simp at h
 |cons a l=>
  obtain⟨b0,b1,b2,b3,b4,b5,rfl⟩:=yp (l:=l) (by simpa using h)
  exact⟨a,b0,b1,b2,b3,b4,b5,rfl⟩
end
def bC.le {A:JK}{m n:Nat}(h:bC m A)(d:n<=m:=by first|decide|omega):bC n A:=h.mono d
def scF {N P:List Str}{sc:Scope}(h1:sc.kind=.function:=by rfl)(h2:sc.isCoroutine=false:=by rfl)(h3:sc.isGenerator=false:=by rfl)(h4:N.Nodup:=by decide+kernel)(h5:N.take P.length=P:=by rfl)
 (h6:∀x∈P,sc.names.lookup x=some .local\/sc.names.lookup x=some .cell:=by decide+kernel)(h7:∀y∈sc.names,y.2≠.free:=by decide+kernel):aC N P sc:=⟨h1,h2,h3,h4,h5,h6,h7⟩
structure Fm (K:If)(mg:Str->Option Gt)(x qual:Str)(st:Stmt)(a:Addr)(d:Jn)(ps:List Str):Prop where
 f:Fun K x qual st a d
 m:mg x=some (.ref a)
 b:dG K d ps []
structure Fa (K:If)(x qual:Str)(st:Stmt)(a:Addr)(d:Jn):Prop where
 m:MO K mainGlobals x=some (some (.ref a))
 f:Fun K x qual st a d
section
variable {P:Jd}{w:JL}{K:If}{mg:Str->Option Gt}{base h:Heap}{x qual:Str}{st:Stmt}{a:Addr}{d:Jn}{ps:List Str}
def aW {oc:Gt}{od an:Option Addr}{osl:Array (Option Gt)}{kV doc pm cdv ct:Gt}(m:MO K mainGlobals x=some (some (.ref a)))(l:K.lookup a=some ⟨oc,od,.func (Mo x qual (bF st) (ba st) (am st) .none kV doc pm an cdv ct),osl⟩)
 (c:RM K cdv qual=true)(k:Ph K (.ref a)=true):Fa K x qual st a (Mo x qual (bF st) (ba st) (am st) .none kV doc pm an cdv ct):=⟨m,ur l c k⟩
def Fa.code (F:Fa K x qual st a d)(X:K.In h)(G:h.Ns mainGlobals mg){z t:Addr}(ht:Qn K x=some (z,t)):d.code=.ref z:=by
 obtain⟨oc,od,kV,doc,pm,an,cdv,ct,osl,e,lk,hcd⟩:=F.f.ex
 exact W.law_code X G ht (NB X G F.m) (X _ _ lk) rfl
def Fun.bt {p:Str}(F:Fun K x qual st a d)(hb:∀(kV doc pm:Gt)(an:Option Addr)(cdv ct v:Gt),bindArgs (Mo x qual (bF st) (ba st) (am st) .none kV doc pm an cdv ct) ⟨[v],[]⟩=pure [(p,v)]:=by intros;rfl)(s:IQ)(v:Gt):QU s d ⟨[v],[]⟩ [(p,v)]:=by
 obtain⟨oc,od,kV,doc,pm,an,cdv,ct,osl,rfl,lk,hcd⟩:=F.ex
 exact .of_eq (hb kV doc pm an cdv ct v)
def Fun.b1 {p0:Str}(F:Fun K x qual st a d)(hb:∀(kV doc pm:Gt)(an:Option Addr)(cdv ct u0:Gt),bindArgs (Mo x qual (bF st) (ba st) (am st) .none kV doc pm an cdv ct) ⟨[u0],[]⟩=pure (Ml [p0] [u0]):=by intros;rfl):dG K d [p0] []:=F.binds fun kV doc pm an cdv ct us hl=>by
 obtain⟨u0,rfl⟩:=L2.fL hl
 exact hb kV doc pm an cdv ct u0
def Fa.fm1 {p0:Str}(F:Fa K x qual st a d)(X:K.In h)(G:h.Ns mainGlobals mg)(hb:∀(kV doc pm:Gt)(an:Option Addr)(cdv ct u0:Gt),bindArgs (Mo x qual (bF st) (ba st) (am st) .none kV doc pm an cdv ct) ⟨[u0],[]⟩=pure (Ml [p0] [u0]):=by intros;rfl):Fm K mg x qual st a d [p0]:=⟨F.f,NB X G F.m,F.f.b1 hb⟩
def Fun.b2 {p0 p1:Str}(F:Fun K x qual st a d)(hb:∀(kV doc pm:Gt)(an:Option Addr)(cdv ct u0 u1:Gt),bindArgs (Mo x qual (bF st) (ba st) (am st) .none kV doc pm an cdv ct) ⟨[u0,u1],[]⟩=pure (Ml [p0,p1] [u0,u1]):=by intros;rfl):dG K d [p0,p1] []:=F.binds fun kV doc pm an cdv ct us hl=>by
 obtain⟨u0,u1,rfl⟩:=L2.yt hl
 exact hb kV doc pm an cdv ct u0 u1
def Fa.fm2 {p0 p1:Str}(F:Fa K x qual st a d)(X:K.In h)(G:h.Ns mainGlobals mg)(hb:∀(kV doc pm:Gt)(an:Option Addr)(cdv ct u0 u1:Gt),bindArgs (Mo x qual (bF st) (ba st) (am st) .none kV doc pm an cdv ct) ⟨[u0,u1],[]⟩=pure (Ml [p0,p1] [u0,u1]):=by intros;rfl):Fm K mg x qual st a d [p0,p1]:=⟨F.f,NB X G F.m,F.f.b2 hb⟩
def Fun.b3 {p0 p1 p2:Str}(F:Fun K x qual st a d)(hb:∀(kV doc pm:Gt)(an:Option Addr)(cdv ct u0 u1 u2:Gt),bindArgs (Mo x qual (bF st) (ba st) (am st) .none kV doc pm an cdv ct) ⟨[u0,u1,u2],[]⟩=pure (Ml [p0,p1,p2] [u0,u1,u2]):=by intros;rfl):dG K d [p0,p1,p2] []:=F.binds fun kV doc pm an cdv ct us hl=>by
 obtain⟨u0,u1,u2,rfl⟩:=L2.sB hl
 exact hb kV doc pm an cdv ct u0 u1 u2
def Fa.fm3 {p0 p1 p2:Str}(F:Fa K x qual st a d)(X:K.In h)(G:h.Ns mainGlobals mg)(hb:∀(kV doc pm:Gt)(an:Option Addr)(cdv ct u0 u1 u2:Gt),bindArgs (Mo x qual (bF st) (ba st) (am st) .none kV doc pm an cdv ct) ⟨[u0,u1,u2],[]⟩=pure (Ml [p0,p1,p2] [u0,u1,u2]):=by intros;rfl):Fm K mg x qual st a d [p0,p1,p2]:=⟨F.f,NB X G F.m,F.f.b3 hb⟩
def Fun.b4 {p0 p1 p2 p3:Str}(F:Fun K x qual st a d)(hb:∀(kV doc pm:Gt)(an:Option Addr)(cdv ct u0 u1 u2 u3:Gt),bindArgs (Mo x qual (bF st) (ba st) (am st) .none kV doc pm an cdv ct) ⟨[u0,u1,u2,u3],[]⟩=pure (Ml [p0,p1,p2,p3] [u0,u1,u2,u3]):=by intros;rfl):dG K d [p0,p1,p2,p3] []:=F.binds fun kV doc pm an cdv ct us hl=>by
 obtain⟨u0,u1,u2,u3,rfl⟩:=L2.ye hl
 exact hb kV doc pm an cdv ct u0 u1 u2 u3
def Fa.fm4 {p0 p1 p2 p3:Str}(F:Fa K x qual st a d)(X:K.In h)(G:h.Ns mainGlobals mg)(hb:∀(kV doc pm:Gt)(an:Option Addr)(cdv ct u0 u1 u2 u3:Gt),bindArgs (Mo x qual (bF st) (ba st) (am st) .none kV doc pm an cdv ct) ⟨[u0,u1,u2,u3],[]⟩=pure (Ml [p0,p1,p2,p3] [u0,u1,u2,u3]):=by intros;rfl):Fm K mg x qual st a d [p0,p1,p2,p3]:=⟨F.f,NB X G F.m,F.f.b4 hb⟩
def Fun.b5 {p0 p1 p2 p3 p4:Str}(F:Fun K x qual st a d)(hb:∀(kV doc pm:Gt)(an:Option Addr)(cdv ct u0 u1 u2 u3 u4:Gt),bindArgs (Mo x qual (bF st) (ba st) (am st) .none kV doc pm an cdv ct) ⟨[u0,u1,u2,u3,u4],[]⟩=pure (Ml [p0,p1,p2,p3,p4] [u0,u1,u2,u3,u4]):=by intros;rfl):dG K d [p0,p1,p2,p3,p4] []:=F.binds fun kV doc pm an cdv ct us hl=>by
 obtain⟨u0,u1,u2,u3,u4,rfl⟩:=L2.yP hl
 exact hb kV doc pm an cdv ct u0 u1 u2 u3 u4
def Fa.fm5 {p0 p1 p2 p3 p4:Str}(F:Fa K x qual st a d)(X:K.In h)(G:h.Ns mainGlobals mg)(hb:∀(kV doc pm:Gt)(an:Option Addr)(cdv ct u0 u1 u2 u3 u4:Gt),bindArgs (Mo x qual (bF st) (ba st) (am st) .none kV doc pm an cdv ct) ⟨[u0,u1,u2,u3,u4],[]⟩=pure (Ml [p0,p1,p2,p3,p4] [u0,u1,u2,u3,u4]):=by intros;rfl):Fm K mg x qual st a d [p0,p1,p2,p3,p4]:=⟨F.f,NB X G F.m,F.f.b5 hb⟩
def Fun.b6 {p0 p1 p2 p3 p4 p5:Str}(F:Fun K x qual st a d)(hb:∀(kV doc pm:Gt)(an:Option Addr)(cdv ct u0 u1 u2 u3 u4 u5:Gt),bindArgs (Mo x qual (bF st) (ba st) (am st) .none kV doc pm an cdv ct) ⟨[u0,u1,u2,u3,u4,u5],[]⟩=pure (Ml [p0,p1,p2,p3,p4,p5] [u0,u1,u2,u3,u4,u5]):=by intros;rfl):dG K d [p0,p1,p2,p3,p4,p5] []:=F.binds fun kV doc pm an cdv ct us hl=>by
 obtain⟨u0,u1,u2,u3,u4,u5,rfl⟩:=L2.yp hl
 exact hb kV doc pm an cdv ct u0 u1 u2 u3 u4 u5
def Fa.fm6 {p0 p1 p2 p3 p4 p5:Str}(F:Fa K x qual st a d)(X:K.In h)(G:h.Ns mainGlobals mg)(hb:∀(kV doc pm:Gt)(an:Option Addr)(cdv ct u0 u1 u2 u3 u4 u5:Gt),bindArgs (Mo x qual (bF st) (ba st) (am st) .none kV doc pm an cdv ct) ⟨[u0,u1,u2,u3,u4,u5],[]⟩=pure (Ml [p0,p1,p2,p3,p4,p5] [u0,u1,u2,u3,u4,u5]):=by intros;rfl):Fm K mg x qual st a d [p0,p1,p2,p3,p4,p5]:=⟨F.f,NB X G F.m,F.f.b6 hb⟩
def Fun.b7 {p0 p1 p2 p3 p4 p5 p6:Str}(F:Fun K x qual st a d)(hb:∀(kV doc pm:Gt)(an:Option Addr)(cdv ct u0 u1 u2 u3 u4 u5 u6:Gt),bindArgs (Mo x qual (bF st) (ba st) (am st) .none kV doc pm an cdv ct) ⟨[u0,u1,u2,u3,u4,u5,u6],[]⟩=pure (Ml [p0,p1,p2,p3,p4,p5,p6] [u0,u1,u2,u3,u4,u5,u6]):=by intros;rfl):dG K d [p0,p1,p2,p3,p4,p5,p6] []:=F.binds fun kV doc pm an cdv ct us hl=>by
 obtain⟨u0,u1,u2,u3,u4,u5,u6,rfl⟩:=L2.Et hl
 exact hb kV doc pm an cdv ct u0 u1 u2 u3 u4 u5 u6
def Fa.fm7 {p0 p1 p2 p3 p4 p5 p6:Str}(F:Fa K x qual st a d)(X:K.In h)(G:h.Ns mainGlobals mg)(hb:∀(kV doc pm:Gt)(an:Option Addr)(cdv ct u0 u1 u2 u3 u4 u5 u6:Gt),bindArgs (Mo x qual (bF st) (ba st) (am st) .none kV doc pm an cdv ct) ⟨[u0,u1,u2,u3,u4,u5,u6],[]⟩=pure (Ml [p0,p1,p2,p3,p4,p5,p6] [u0,u1,u2,u3,u4,u5,u6]):=by intros;rfl):Fm K mg x qual st a d [p0,p1,p2,p3,p4,p5,p6]:=⟨F.f,NB X G F.m,F.f.b7 hb⟩
def Fun.okS {CX:CXT}{N:List Str}{k:Nat}{sp:Sp}{t:TS}(F:Fun K x qual st a d)(S:aC N ps (am st))(len:∀vs H Q E,sp vs H Q E->vs.length=ps.length)
  (hrd:∀(vs:List V)(H:Hp)(Q:VK)(E:XK),sp vs H Q E->t {nx:=fun _ H'=>Q .non H',rt:=Q} (start N vs) H)
  (hq:∀(cdv:Gt)(A:JK)(outer:List Env)(s:IQ)(H:Hp)(E:XK),bC k (A.deeper (envOfC qual (am st) s.heap.objs.size a cdv))->QSs (dR CX P w K mg base N qual (am st) a cdv A outer s H E).nox (ba st) t):aV P w K mg base CX (k+1) a d ps sp:=
 F.okN S len fun cdv A outer s H vs Q E hr h=>⟨t,(hq cdv A outer s H E hr).out,hrd vs H Q E h⟩
end
section
variable {X:Cx}{x q:Str}{e:Expr}{es:List Expr}{t:TA}{p pos:Pos}{st:Stmt}{f:Addr}{fd:Jn}{ps:List Str}{k:Nat}{sp:Sp}
def aH {P:Jd}{w:JL}(F:aV X.prog X.w X.K X.mg X.base (CX1 P w) k f fd ps sp)(hr:bC k X.A)(M:Fm X.K X.mg x q st f fd ps)
 (ha:QA X (e::es) t)(hg:Gl X x:=by rfl)(hdb:(x==("__debug__":Str))=false:=by decide)(hs:bh (e::es)=true:=by rfl):QE X (.Call (.Name x p) (e::es) [] pos) (ax sp (fun _=>E0) t):=lF F hr M.m M.f.kp M.b cX ha hg hdb hs
end
section
variable {X:Cx}{a:Expr}{t:TA}{p1 p2 pos1 pos2:Pos}
def zc:bootBuiltins "list"=some (.type "list"):=by decide+kernel
end
section
variable {X:Cx}{a b:Expr}{t:TA}{p pos ep:Pos}{elts:List Expr}{ek:Nat}
def yR (K:If)(t:TA):TI:=fun σ H R=>t σ H fun vs H1=>(∃c d xs ys,vs=[.ref c,.ref d]/\SqT K H1 c xs/\SqT K H1 d ys/\R (Itz K c d) H1)\/(∃c d xs ys,vs=[.ref c,.ref d]/\SqL K H1 c xs/\SqL K H1 d ys/\R (pO K c d) H1)
def AQ (hm:X.mg "zip"=none)(ha:QA X [a,b] t)(hg:Gl X "zip":=by rfl)(hs:bh [a,b]=true:=by rfl):QI X (.Tuple elts ek ep) (.Call (.Name "zip" p) [a,b] [] pos) (yR X.K t):=⟨fun pins s σ H R I h=>by
 have h':(bP a&&bh [b])=true:=hs
 refine Ke (eA I hg hm oa ?_ (by decide) (by decide))
 exact JP (thn (ha.out pos pins s σ H _ I h) fun us s1 ⟨vs,H1,I1,r1,q1⟩=>q1.elim (vW pins s1 σ H1 us vs R I1 r1) (sP pins s1 σ H1 us vs R I1 r1))
  (bc (Jf.mp h').1 [b] X.env) (bW (Jf.mp h').2)⟩
end
end L2
namespace HT
open PySem PyProof.Rows
abbrev iO (f0 f1:Gt)(TI TO:Addr):Obj:={cls:=.type "zip",dict:=none,data:=.fields #[f0,f1,.bool false,.ref TI,.ref TO],slots:=#[]}
structure fG (h:Heap)(z TI TO i1 i2 l t S:Addr)(k:Nat):Prop where
 z:(k=0/\h.get? z=some (iO .none (.bool false) TI TO))\/∃T f oT,h.get? z=some (iO (rawInt (T:Addr)) (.bool f) TI TO)/\h.get? T=some oT/\T≠z/\T≠TO/\T≠i1/\T≠i2/\T≠S
 ti:KA h TI (.ref i1) (.ref i2)
 to:∃a b,KA h TO a b
 j1:h.IsListIter i1 l k
 j2:h.IsTupleIter i2 t k
section
variable {prog:Jd}{w:JL}{A:JK}{E:Gt->IQ->Prop}{s:IQ}
def qM {z TI TO T:Addr}{f:Bool}{oT:Obj}(hz:s.heap.get? z=some (iO (rawInt T) (.bool f) TI TO))(hTt:s.heap.get? T=some oT):
  wpAny (model prog w) A (Ja (.ref z)) (fun b s1=>b=false/\∃h₁,s1={s with heap:=h₁}/\h₁.get? z=some (iO (rawInt T) (.bool true) TI TO)/\Kh z s.heap h₁) (fun _ _=>False) s:=by
 unfold Ja
 refine cW (Jh hz rfl (x:=rawInt T) rfl ?_)
 show wpAny _ _ (loadIfAlive ((T:Int).toNat) >>= _) _ _ _
 rw[Kb]
 refine cW (W.kdx_alive hTt ?_)
 simp only[Option.isNone_some,KD,if_false]
 refine cW (Jh hz rfl (x:=.bool f) rfl ?_)
 cases f with
 |true=>
  rw[if_neg (show ¬((Lh true !=Lh true)=true)from Jc)]
  exact tx ⟨rfl,s.heap,rfl,hz,Pn _ _⟩
 |false=>
  rw[if_pos (show(Lh false !=Lh true)=true from rfl)]
  exact cW (Jx hz (by simp) fun h₃ he₃ hs₃=>tx ⟨rfl,h₃,rfl,he₃,hs₃⟩)
def rT {z TI TO i1 i2 l t S:Addr}{k:Nat}{xs ys:Array Gt}{x y a b:Gt}{Q:Option Gt->IQ->Prop}(D:LU z TI TO i1 i2 l t)(hz:MU s.heap z TI TO .none)(hTI:KA s.heap TI (.ref i1) (.ref i2))(hTO:KA s.heap TO a b)
  (h1:s.heap.IsListIter i1 l k)(h2:s.heap.IsTupleIter i2 t k)(ht1:s.heap.IsList l xs)(ht2:s.heap.IsTuple t ys)(hx:xs[k]? =some x)(hy:ys[k]? =some y)(hS:S<s.heap.objs.size)
  (hQ:∀h',fG h' z TI TO i1 i2 l t S (k+1)->KA h' s.heap.objs.size x y->
   (∀c o,c≠z->c≠TO->c≠i1->c≠i2->s.heap.get? c=some o->h'.get? c=some o)->Q (some (.ref s.heap.objs.size)) {s with heap:=h'}):
  wpAny (model prog w) A (pyNext (.ref z)) Q E s:=by
 have hT:s.TypeIs (.ref z) "zip":=⟨_,hz,rfl⟩
 unfold pyNext
 refine cW (Kn (Jj (name:=JM "__next__") hT Ki (Jo Ki hT LV ?_ (LH _))))
 show wpAny _ _ (field (.ref z) 2 >>= _) _ _ _
 refine cW (Jh hz rfl (x:=.bool false) rfl ?_)
 show wpAny _ _ (field (.ref z) 3 >>= _) _ _ _
 refine cW (Jh hz rfl (x:=.ref TI) rfl (cW (JH hTI rfl ?_)))
 show wpAny _ _ (Ja (.ref z) >>= _) _ _ _
 refine cW ?_
 unfold Ja
 refine cW (Jh hz rfl (x:=.none) rfl (tx ?_))
 simp only[if_true]
 refine cW (KY (cW (Jh hz rfl (x:=.ref TO) rfl (cW (Jx hz (by simp) fun ha hza hsa=>cW ?_)))))
 replace hza:MU ha z TI TO .ellipsis:=hza
 simp only[Mk,Mu,KU,LA]
 refine cW (cW (LB ?_))
 show wpAny _ _ (IZ (.ref i1) >>= _) _ _ _
 refine cW (Rc (h1.at fun o e=>hsa.extBut _ _ D.i1z e) (ht1.at fun o e=>hsa.extBut _ _ D.l1z e) hx fun hb h1b hsb=>tx ?_)
 have hTOb:KA hb TO a b:=hsb.extBut _ _ D.TOi1 (hsa.extBut _ _ D.TOz hTO)
 refine cW (JH hTOb rfl (cW (Lj hTOb fun hc hTOc hsc=>?_)))
 replace hTOc:KA hc TO x b:=hTOc
 refine cW (Mz (tx ?_))
 refine cW (cW (LB ?_))
 show wpAny _ _ (IZ (.ref i2) >>= _) _ _ _
 refine cW (gC (h2.at fun o e=>hsc.extBut _ _ D.TOi2.symm (hsb.extBut _ _ D.i12.symm (hsa.extBut _ _ D.i2z e)))
  (ht2.at fun o e=>hsc.extBut _ _ D.l2TO (hsb.extBut _ _ D.l2i1 (hsa.extBut _ _ D.l2z e))) hy fun hd h2d hsd=>tx ?_)
 have hTOd:KA hd TO x b:=hsd.extBut _ _ D.TOi2 hTOc
 refine cW (JH hTOd rfl (cW (Lj hTOd fun he hTOe hse=>?_)))
 replace hTOe:KA he TO x y:=hTOe
 refine cW (Mz (tx (tx ?_)))
 refine cW (JH hTOe rfl (cW (Oo ?_)))
 have hsz:he.objs.size=s.heap.objs.size:=by rw[hse.1,hsd.1,hsc.1,hsb.1,hsa.1]
 have hze:MU he z TI TO .ellipsis:=hse.extBut _ _ D.TOz.symm (hsd.extBut _ _ D.i2z.symm (hsc.extBut _ _ D.TOz.symm (hsb.extBut _ _ D.i1z.symm hza)))
 have hke:∀c o,c≠z->c≠TO->c≠i1->c≠i2->s.heap.get? c=some o->he.get? c=some o:=fun c o c1 c2 c3 c4 e=>
  hse.extBut _ _ c2 (hsd.extBut _ _ c4 (hsc.extBut _ _ c2 (hsb.extBut _ _ c3 (hsa.extBut _ _ c1 e))))
 have h1e:he.IsListIter i1 l (k+1):=h1b.at fun o e=>hse.extBut _ _ D.TOi1.symm (hsd.extBut _ _ D.i12 (hsc.extBut _ _ D.TOi1.symm e))
 have h2e:he.IsTupleIter i2 t (k+1):=h2d.at fun o e=>hse.extBut _ _ D.TOi2.symm e
 show wpAny _ _ (JV (.ref z) (.ref he.objs.size) >>= _) _ _ _
 refine cW ?_
 unfold JV
 have hzf:MU (he.push {cls:=.type "tuple",data:=.seq #[x,y]}) z TI TO .ellipsis:=gV _ hze
 refine cW (Jx hzf (by simp) fun hg hzg hsg=>?_)
 replace hzg:MU hg z TI TO (rawInt he.objs.size):=hzg
 refine Jx hzg (by simp) fun hh hzh hsh=>?_
 replace hzh:MU hh z TI TO (rawInt he.objs.size):=hzh
 have up:∀c o,c≠z->he.get? c=some o->hh.get? c=some o:=fun c o c1 e=>hsh.extBut _ _ c1 (hsg.extBut _ _ c1 (gV _ e))
 have hTh:KA hh he.objs.size x y:=hsh.extBut _ _ (Kc (IS hze)) (hsg.extBut _ _ (Kc (IS hze)) (IT _ rfl))
 have n1:he.objs.size≠z:=Kc (IS hze)
 have n2:he.objs.size≠TO:=Kc (IS hTOe)
 have n3:he.objs.size≠i1:=by obtain⟨o,eo,_⟩:=h1e;exact Kc (IS eo)
 have n4:he.objs.size≠i2:=by obtain⟨o,eo,_⟩:=h2e;exact Kc (IS eo)
 have n5:he.objs.size≠S:=by rw[hsz];exact Kc hS
 rw[hsz]at hzh hTh n1 n2 n3 n4 n5
 have fin:=hQ hh ⟨.inr ⟨s.heap.objs.size,false,_,hzh,hTh,n1,n2,n3,n4,n5⟩,up _ _ D.TIz (hke _ _ D.TIz D.TITO D.TIi1 D.TIi2 hTI),⟨x,y,up _ _ D.TOz hTOe⟩,h1e.at fun o e=>up _ o D.i1z e,h2e.at fun o e=>up _ o D.i2z e⟩ hTh fun c o c1 c2 c3 c4 e=>up c o c1 (hke c o c1 c2 c3 c4 e)
 rw[<-hsz]at fin
 exact tx ⟨_,rfl,tx fin⟩
def uk {z TI TO i1 i2 l t S T:Addr}{f:Bool}{oT:Obj}{k:Nat}{xs ys:Array Gt}{x y:Gt}{Q:Option Gt->IQ->Prop}(D:LU z TI TO i1 i2 l t)(hz:s.heap.get? z=some (iO (rawInt T) (.bool f) TI TO))(hTt:s.heap.get? T=some oT)
  (nT:T≠z/\T≠TO/\T≠i1/\T≠i2/\T≠S)(hTI:KA s.heap TI (.ref i1) (.ref i2))(hTO:∃a b,KA s.heap TO a b)
  (h1:s.heap.IsListIter i1 l k)(h2:s.heap.IsTupleIter i2 t k)(ht1:s.heap.IsList l xs)(ht2:s.heap.IsTuple t ys)(hx:xs[k]? =some x)(hy:ys[k]? =some y)
  (hQ:∀h',fG h' z TI TO i1 i2 l t S (k+1)->KA h' s.heap.objs.size x y->
   (∀c o,c≠z->c≠TO->c≠i1->c≠i2->s.heap.get? c=some o->h'.get? c=some o)->Q (some (.ref s.heap.objs.size)) {s with heap:=h'}):
  wpAny (model prog w) A (pyNext (.ref z)) Q E s:=by
 have hT:s.TypeIs (.ref z) "zip":=⟨_,hz,rfl⟩
 unfold pyNext
 refine cW (Kn (Jj (name:=JM "__next__") hT Ki (Jo Ki hT LV ?_ (LH _))))
 show wpAny _ _ (field (.ref z) 2 >>= _) _ _ _
 refine cW (Jh hz rfl (x:=.bool false) rfl ?_)
 show wpAny _ _ (field (.ref z) 3 >>= _) _ _ _
 refine cW (Jh hz rfl (x:=.ref TI) rfl (cW (JH hTI rfl ?_)))
 show wpAny _ _ (Ja (.ref z) >>= _) _ _ _
 refine cW (Ju (qM hz hTt) (fun b s1 hb=>?_) fun _ _ e=>e.elim)
 obtain⟨rfl,ha,rfl,hza,hsa⟩:=hb
 simp only[KD,if_false]
 refine cW ?_
 rw[<-QK]
 simp only[KU,LA]
 refine cW (cW (Km ?_))
 show wpAny _ _ (IZ (.ref i1) >>= _) _ _ _
 refine cW (Rc (h1.at fun o e=>hsa.extBut _ _ D.i1z e) (ht1.at fun o e=>hsa.extBut _ _ D.l1z e) hx fun hb h1b hsb=>tx (tx ?_))
 refine cW (cW (Km ?_))
 show wpAny _ _ (IZ (.ref i2) >>= _) _ _ _
 refine cW (gC (h2.at fun o e=>hsb.extBut _ _ D.i12.symm (hsa.extBut _ _ D.i2z e)) (ht2.at fun o e=>hsb.extBut _ _ D.l2i1 (hsa.extBut _ _ D.l2z e)) hy fun hd h2d hsd=>tx (tx (tx ?_)))
 refine cW (Oo (hsz:=by show 2<=sizeLine;decide) ?_)
 have hsz:hd.objs.size=s.heap.objs.size:=by rw[hsd.1,hsb.1,hsa.1]
 have hk:∀c o,c≠z->c≠TO->c≠i1->c≠i2->s.heap.get? c=some o->(hd.push {cls:=.type "tuple",data:=.seq #[x,y]}).get? c=some o:=fun c o c1 c2 c3 c4 e=>
  gV _ (hsd.extBut _ _ c4 (hsb.extBut _ _ c3 (hsa.extBut _ _ c1 e)))
 obtain⟨a,b,hTO⟩:=hTO
 have fin:=hQ (hd.push {cls:=.type "tuple",data:=.seq #[x,y]}) ⟨.inr ⟨T,true,oT,gV _ (hsd.extBut _ _ D.i2z.symm (hsb.extBut _ _ D.i1z.symm hza)),hk T oT nT.1 nT.2.1 nT.2.2.1 nT.2.2.2.1 hTt,nT⟩,
  hk _ _ D.TIz D.TITO D.TIi1 D.TIi2 hTI,⟨a,b,gV _ (hsd.extBut _ _ D.TOi2 (hsb.extBut _ _ D.TOi1 (hsa.extBut _ _ D.TOz hTO)))⟩,
  h1b.at fun o e=>gV _ (hsd.extBut _ _ D.i12 e),h2d.at fun o e=>gV _ e⟩ (by rw[<-hsz];exact IT _ rfl) hk
 rw[<-hsz]at fin
 exact tx ⟨_,rfl,tx fin⟩
def xn {z TI TO i1 i2 l t S:Addr}{k:Nat}{xs:Array Gt}{Q:Option Gt->IQ->Prop}(hh:A.handled=none)(D:LU z TI TO i1 i2 l t)(Z:fG s.heap z TI TO i1 i2 l t S k)
  (ht1:s.heap.IsList l xs)(hend:xs[k]?=none)
  (hQ:∀h',(∀c o,c≠z->c≠TO->c≠i1->c≠i2->s.heap.get? c=some o->h'.get? c=some o)->Q none {s with heap:=h'}):wpAny (model prog w) A (pyNext (.ref z)) Q E s:=by
 obtain⟨Zz,hTI,⟨a,b,hTO⟩,h1,h2⟩:=Z
 have hT:s.TypeIs (.ref z) "zip":=by rcases Zz with⟨_,e⟩|⟨_,_,_,e,_⟩<;>exact⟨_,e,rfl⟩
 have fin:∀h' e,(∀c o,c≠z->c≠TO->c≠i1->c≠i2->s.heap.get? c=some o->h'.get? c=some o)->(∃o,h'.get? e=some o/\o.cls=.type "StopIteration")->
   wpAny (model prog w) A (do if<-isInstance (.ref e) (.type "StopIteration")then pure none else throw (.ref e)) Q E {s with heap:=h'}:=fun h' e hk ⟨o,ho,hc⟩=>
  cW (LY (T:="StopIteration") (b:=true) ⟨o,ho,hc⟩ Nu (tx (hQ _ hk)))
 unfold pyNext
 refine cW (Kn (Jj (name:=JM "__next__") hT Ki (Jo Ki hT LV ?_ (LH _))))
 show wpAny _ _ (field (.ref z) 2>>=_) _ _ _
 rcases Zz with⟨_,hz⟩|⟨T,f,oT,hz,hTt,nT⟩
 ·refine cW (Jh hz rfl (x:=.bool false) rfl ?_)
  show wpAny _ _ (field (.ref z) 3>>=_) _ _ _
  refine cW (Jh hz rfl (x:=.ref TI) rfl (cW (JH hTI rfl ?_)))
  show wpAny _ _ (Ja (.ref z)>>=_) _ _ _
  refine cW ?_
  unfold Ja
  refine cW (Jh hz rfl (x:=.none) rfl (tx ?_))
  simp only[if_true]
  refine cW (KY (cW (Jh hz rfl (x:=.ref TO) rfl (cW (Jx hz (by simp) fun ha hza hsa=>cW ?_)))))
  replace hza:MU ha z TI TO .ellipsis:=hza
  simp only[Mk,Mu,KU,LA]
  refine cW (cW (LB ?_))
  show wpAny _ _ (IZ (.ref i1)>>=_) _ _ _
  refine cW (Rq hh (h1.at fun o e=>hsa.extBut _ _ D.i1z e) (ht1.at fun o e=>hsa.extBut _ _ D.l1z e) hend fun hb e hsb he=>?_)
  obtain⟨oe,hoe,hce⟩:=he
  have hzb:MU hb z TI TO .ellipsis:=hsb _ _ D.i1z.symm hza
  have hez:e≠z:=fun x=>by subst x;rw[hzb]at hoe;cases hoe;simp at hce
  exact Jx hzb (by simp) fun hc _ hsc=>fin hc e (fun c o c1 _ c3 _ x=>hsc.extBut _ _ c1 (hsb _ _ c3 (hsa.extBut _ _ c1 x))) ⟨oe,hsc.extBut _ _ hez hoe,hce⟩
 ·refine cW (Jh hz rfl (x:=.bool false) rfl ?_)
  show wpAny _ _ (field (.ref z) 3>>=_) _ _ _
  refine cW (Jh hz rfl (x:=.ref TI) rfl (cW (JH hTI rfl ?_)))
  show wpAny _ _ (Ja (.ref z)>>=_) _ _ _
  refine cW (Ju (qM hz hTt) (fun b s1 hb=>?_) fun _ _ e=>e.elim)
  obtain⟨rfl,ha,rfl,hza,hsa⟩:=hb
  simp only[KD,if_false]
  refine cW ?_
  rw[<-QK]
  simp only[KU,LA]
  refine cW (cW (Km ?_))
  show wpAny _ _ (IZ (.ref i1)>>=_) _ _ _
  refine cW (Rq hh (h1.at fun o e=>hsa.extBut _ _ D.i1z e) (ht1.at fun o e=>hsa.extBut _ _ D.l1z e) hend fun hb e hsb he=>?_)
  exact fin hb e (fun c o c1 _ c3 _ x=>hsb _ _ c3 (hsa.extBut _ _ c1 x)) he
structure jA (xs ys:Array Gt)(lo:Addr)(h:Heap)(as:List Addr):Prop where
 rise:as.Pairwise (·<·)
 above:∀a∈as,lo<=a
 pairs:∀(j:Nat)(a:Addr),as[j]?=some a->∃x y,xs[j]?=some x/\ys[j]?=some y/\KA h a x y
def jA.there {xs ys:Array Gt}{lo:Addr}{h:Heap}{as:List Addr}(g:jA xs ys lo h as){a:Addr}(ha:a∈as):a<h.objs.size:=by
 obtain⟨j,hj⟩:=Lx.mp ha
 obtain⟨_,_,_,_,e⟩:=g.pairs j a hj
 exact IS e
def fG.keepS {h h':Heap}{z TI TO i1 i2 l t S:Addr}{k:Nat}(Z:fG h z TI TO i1 i2 l t S k)(nS:S≠z/\S≠TI/\S≠TO/\S≠i1/\S≠i2)(hk:∀b o,b≠S->h.get? b=some o->h'.get? b=some o):fG h' z TI TO i1 i2 l t S k:=by
 obtain⟨Zz,hTI,⟨a,b,hTO⟩,h1,h2⟩:=Z
 refine⟨?_,hk _ _ nS.2.1.symm hTI,⟨a,b,hk _ _ nS.2.2.1.symm hTO⟩,h1.at fun o e=>hk _ o nS.2.2.2.1.symm e,h2.at fun o e=>hk _ o nS.2.2.2.2.symm e⟩
 rcases Zz with⟨e,hz⟩|⟨T,f,oT,hz,hTt,nT⟩
 ·exact .inl ⟨e,hk _ _ nS.1.symm hz⟩
 ·exact .inr ⟨T,f,oT,hk _ _ nS.1.symm hz,hk _ _ nT.2.2.2.2 hTt,nT⟩
def fG.item {z TI TO i1 i2 l t S:Addr}{k:Nat}{xs ys:Array Gt}{x y:Gt}{Q:Option Gt->IQ->Prop}(Z:fG s.heap z TI TO i1 i2 l t S k)(D:LU z TI TO i1 i2 l t)
  (ht1:s.heap.IsList l xs)(ht2:s.heap.IsTuple t ys)(hx:xs[k]? =some x)(hy:ys[k]? =some y)(hS:S<s.heap.objs.size)
  (hQ:∀h',fG h' z TI TO i1 i2 l t S (k+1)->KA h' s.heap.objs.size x y->
   (∀c o,c≠z->c≠TO->c≠i1->c≠i2->s.heap.get? c=some o->h'.get? c=some o)->Q (some (.ref s.heap.objs.size)) {s with heap:=h'}):
  wpAny (model prog w) A (pyNext (.ref z)) Q E s:=by
 obtain⟨Zz,hTI,⟨a,b,hTO⟩,h1,h2⟩:=Z
 rcases Zz with⟨_,hz⟩|⟨T,f,oT,hz,hTt,nT⟩
 ·exact rT D hz hTI hTO h1 h2 ht1 ht2 hx hy hS hQ
 ·exact uk D hz hTt nT hTI ⟨a,b,hTO⟩ h1 h2 ht1 ht2 hx hy hQ
end
section
variable {prog:Jd}{w:JL}{A:JK}{s:IQ}{R:Ou->IQ->Prop}{xs ys:Array Gt}
def uC {z TI TO i1 i2 l t S lo:Addr}(hh:A.handled=none)(D:LU z TI TO i1 i2 l t)(nS:S≠z/\S≠TI/\S≠TO/\S≠i1/\S≠i2)(nl:l≠S)(nt:t≠S)(below:∀b∈[z,TI,TO,i1,i2,S],b<lo)(hn:xs.size<=sizeLine)(hlen:xs.size=ys.size)(res:Gt){h₁:Heap}
  (hR:∀h' tk acc c as,(∀b o,b∉[z,TI,TO,i1,i2,S]->h₁.get? b=some o->h'.get? b=some o)->h'.get? S=some {cls:=.type "list",dict:=none,data:=.seq acc c,slots:=#[]}->as.length=xs.size->jA xs ys lo h' as->
   acc.toList=as.map Ji->R (.ok (.ret res)) {s with heap:=h',toks:=tk}):
  ∀(k i:Nat)(h:Heap)(tk c:Nat)(acc:Array Gt)(as:List Addr),xs.size- i=k->i<=xs.size->fG h z TI TO i1 i2 l t S i->h.IsList l xs->h.IsTuple t ys->(∀b o,b∉[z,TI,TO,i1,i2,S]->h₁.get? b=some o->h.get? b=some o)->
   h.get? S=some {cls:=.type "list",dict:=none,data:=.seq acc c,slots:=#[]}->acc.toList=as.map Ji->as.length=i->jA xs ys lo h as->lo<=h.objs.size->
   codeAny (model prog w) A (.builtin "list.extend.loop" ⟨[.ref S,.ref z,res],[]⟩) R {s with heap:=h,toks:=tk}:=by
 have inb:∀b,b∉[z,TI,TO,i1,i2,S]->b≠z/\b≠TO/\b≠i1/\b≠i2/\b≠S:=fun b hb=>by
  simp only[IY,Jl,or_false,not_or]at hb
  exact⟨hb.1,hb.2.2.1,hb.2.2.2.1,hb.2.2.2.2.1,hb.2.2.2.2.2⟩
 have above:∀b,lo<=b->b≠z/\b≠TO/\b≠i1/\b≠i2/\b≠S:=fun b hb=>by
  have f:∀c∈[z,TI,TO,i1,i2,S],b≠c:=fun c hc=>Kc (Jm (below c hc) hb)
  exact⟨f z (by simp),f TO (by simp),f i1 (by simp),f i2 (by simp),f S (by simp)⟩
 intro k
 induction k with
 |zero=>
  intro i h tk c acc as hk hi hst hl ht hkeep hS hacc hal hG hIs
  have hin:i=xs.size:=by omega
  refine LN OL ?_
  rw[Lc La _]
  show wpAny _ A.in1 (pyNext (.ref z) >>= _) _ _ _
  refine cW (xn (s:={s with heap:=h,toks:=tk}) (A:=A.in1) hh D hst hl (Lk (by omega)) fun h' he=>?_)
  refine tx (hR h' tk acc c as (fun b o h1 e=>?_) (he S _ nS.1 nS.2.2.1 nS.2.2.2.1 nS.2.2.2.2 hS) (by omega) ⟨hG.rise,hG.above,fun j a hj=>?_⟩ hacc)
  ·obtain⟨n1,n2,n3,n4,n5⟩:=inb b h1
   exact he b o n1 n2 n3 n4 (hkeep b o h1 e)
  ·obtain⟨x,y,e1,e2,e3⟩:=hG.pairs j a hj
   obtain⟨n1,n2,n3,n4,n5⟩:=above a (hG.above a (Jq hj))
   exact⟨x,y,e1,e2,he a _ n1 n2 n3 n4 e3⟩
 |succ k ih=>
  intro i h tk c acc as hk hi hst hl ht hkeep hS hacc hal hG hIs
  have hlt:i<xs.size:=by omega
  obtain⟨x,hx⟩:∃p,xs[i]? =some p:=⟨xs[i],Jp hlt⟩
  obtain⟨y,hy⟩:∃p,ys[i]? =some p:=⟨ys[i],Jp (by omega)⟩
  have hsz:acc.size=i:=by rw[<-Ko,hacc,IU,hal]
  refine LN OL ?_
  rw[Lc La _]
  show wpAny _ A.in1 (pyNext (.ref z) >>= _) _ _ _
  refine cW (fG.item (s:={s with heap:=h,toks:=tk}) (S:=S) hst D hl ht hx hy (IS hS) fun h' hst' hT hkp=>?_)
  dsimp only at hT hkp⊢
  have hS':=hkp S _ nS.1 nS.2.2.1 nS.2.2.2.1 nS.2.2.2.2 hS
  have up:∀b o,b≠S->h'.get? b=some o->(h'.update S (Lb (·.push (Ji h.objs.size)))).get? b=some o:=fun b o hb e=>(JX _ _ (KQ hb)).trans e
  obtain⟨m1,m2,m3,m4,m5⟩:=above h.objs.size hIs
  have kl:∀o,h.get? l=some o->(h'.update S (Lb (·.push (Ji h.objs.size)))).get? l=some o:=fun o e=>up l o nl (hkp l o D.l1z D.l1TO D.l1i1 D.l1i2 e)
  have kt:∀o,h.get? t=some o->(h'.update S (Lb (·.push (Ji h.objs.size)))).get? t=some o:=fun o e=>up t o nt (hkp t o D.l2z D.l2TO D.l2i1 D.l2i2 e)
  show wpAny _ A.in1 (updateSeq S (·.push (Ji h.objs.size)) >>= _) _ _ _
  refine cW ?_
  refine MB hS' rfl (tx ⟨MD La _,ih (i+1) _ tk _ (acc.push (Ji h.objs.size)) (as++[h.objs.size]) (by omega) hlt (hst'.keepS nS up) (hl.at kl) (ht.at kt)
   (fun b o h1 e=>?_) (JC _ hS' rfl) (by rw[Ol,hacc,JD];rfl) (by rw[Jg,hal];rfl) ⟨?_,?_,?_⟩ ?_⟩) (by rw[hsz];omega) (by show(acc.push (Ji h.objs.size)).size<=sizeLine+1;rw[Array.size_push,hsz];omega)
  ·obtain⟨n1,n2,n3,n4,n5⟩:=inb b h1
   exact up b o n5 (hkp b o n1 n2 n3 n4 (hkeep b o h1 e))
  ·refine Qv.mpr ⟨hG.rise,List.pairwise_singleton _ _,fun a ha b hb=>?_⟩
   rw[JJ.mp hb]
   exact hG.there ha
  ·intro a ha
   rcases Ka.mp ha with ha|ha
   ·exact hG.above a ha
   ·rw[JJ.mp ha];exact hIs
  ·intro j b hj
   rcases Nk j as.length with h1|h1|h1
   ·rw[Kt h1]at hj
    obtain⟨x',y',e1,e2,e3⟩:=hG.pairs j b hj
    obtain⟨n1,n2,n3,n4,n5⟩:=above b (hG.above b (Jq hj))
    exact⟨x',y',e1,e2,up b _ n5 (hkp b _ n1 n2 n3 n4 e3)⟩
   ·subst h1
    have hb:h.objs.size=b:=by simpa using hj
    subst hb
    exact⟨x,y,by rw[hal];exact hx,by rw[hal];exact hy,up _ _ m5 hT⟩
   ·have hnone:(as++[h.objs.size])[j]? =none:=KS (by rw[Jg,Qj];omega)
    rw[hnone]at hj;cases hj
  ·have e:(h'.update S (Lb (·.push (Ji h.objs.size)))).get? h.objs.size=_:=up _ _ m5 hT
   exact Lz (Ly hIs (IS e))
end
def sT:typeLookup (.type "zip") "__len__"=pure none:=by rw[LM,KC];kernel_rfl
def rY:typeLookup (.type "zip") "__length_hint__"=pure none:=by rw[LM,KC];kernel_rfl
section
variable {prog:Jd}{w:JL}{A:JK}{s:IQ}{R:Ou->IQ->Prop}{xs ys:Array Gt}{z TI TO i1 i2 l t S:Addr}
def qr (hh:A.handled=none)(D:LU z TI TO i1 i2 l t)(nS:S≠z/\S≠TI/\S≠TO/\S≠i1/\S≠i2)(nl:l≠S)(nt:t≠S)(hn:xs.size<=sizeLine)(hlen:xs.size=ys.size)(res:Gt)(c₀:Nat)
  (Z:fG s.heap z TI TO i1 i2 l t S 0)(hz0:s.heap.get? z=some (iO .none (.bool false) TI TO))(hl:s.heap.IsList l xs)(ht:s.heap.IsTuple t ys)(hS:s.heap.get? S=some {cls:=.type "list",data:=.seq #[] c₀})
  (hR:∀h' tk acc c as,(∀b o,b∉[z,TI,TO,i1,i2,S]->s.heap.get? b=some o->h'.get? b=some o)->h'.get? S=some {cls:=.type "list",dict:=none,data:=.seq acc c,slots:=#[]}->as.length=xs.size->jA xs ys s.heap.objs.size h' as->
   acc.toList=as.map Ji->R (.ok (.ret res)) {s with heap:=h',toks:=tk}):
  wpAny (model prog w) A.in1 (Kw (.ref S) (.ref z) res)
   (fun fin s'=>match fin with|.done f=>R (.ok f) s'|.again c'=>c'.quiet=true/\codeAny (model prog w) A c' R s') (fun e s'=>R (.error e) s') s:=by
 have hT:s.TypeIs (.ref z) "zip":=⟨_,hz0,rfl⟩
 have below:∀b∈[z,TI,TO,i1,i2,S],b<s.heap.objs.size:=fun b hb=>by
  obtain⟨_,hTI,⟨x,y,hTO⟩,⟨o1,e1,_⟩,⟨o2,e2,_⟩⟩:=Z
  simp only[IY,Jl,or_false]at hb
  rcases hb with rfl|rfl|rfl|rfl|rfl|rfl
  ·exact IS hz0
  ·exact IS hTI
  ·exact IS hTO
  ·exact IS e1
  ·exact IS e2
  ·exact IS hS
 have key:∀(h:Heap)(c₁ tk:Nat),h.objs.size=s.heap.objs.size->(∀b o,b≠S->s.heap.get? b=some o->h.get? b=some o)->
   h.get? S=some {cls:=.type "list",data:=.seq #[] c₁}->codeAny (model prog w) A (.builtin "list.extend.loop" ⟨[.ref S,.ref z,res],[]⟩) R {s with heap:=h,toks:=tk}:=by
  intro h c₁ tk hz hk hS₁
  refine uC (s:=s) (h₁:=s.heap) hh D nS nl nt below hn hlen res (fun h' tk' acc c as hk' hS' hl hG hacc=>hR h' tk' acc c as hk' hS' hl hG hacc)
   xs.size 0 h tk c₁ #[] [] (OE _) (Kf _) (Z.keepS nS hk) (hl.at fun o e=>hk l o nl e) (ht.at fun o e=>hk t o nt e) (fun b o hb e=>hk b o (fun q=>hb (by rw[q];simp)) e) hS₁ rfl rfl
   ⟨Pf,(fun _ ha=>nomatch ha),(fun j a hj=>by simp at hj)⟩ (MX hz.symm)
 unfold Kw
 refine cW (Nm (T:="zip") hT ?_)
 have h1:Mc (.ref S) (.ref z)=false:=by simp[Mc,nS.1]
 have h2:(LP "zip"==LP "list")=false:=by decide
 have h3:(LP "zip"==LP "tuple")=false:=by decide
 simp only[h1,h2,h3,PV,KD,if_false]
 refine cW (LX hz0 ?_)
 refine cW (Km ?_)
 unfold NU
 refine cW (LL hT sT ?_)
 show wpAny _ A.in1 (specialOf (Ji z) (JM "__length_hint__")>>=_) _ _ _
 refine cW (LL hT rY ?_)
 refine tx ?_
 refine wpAny_ite_split (fun _=>?_) (fun _=>tx ⟨MD La _,key _ c₀ _ rfl (fun b o _ e=>e) hS⟩)
 refine cW (KY ?_)
 refine cW ?_
 show wpAny _ _ (updateSeq S (·.push .none)>>=fun _=>updateSeq S (·.pop)) _ _ _
 refine cW (MB hS rfl ?_)
 have hS₂:=JC (Lb (·.push Kk)) hS rfl
 refine MB (hz:=by seq_fits) hS₂ rfl ?_
 have hS₃:=JC (Lb (·.pop)) hS₂ rfl
 refine tx ⟨MD La _,key _ _ _ ?_ (fun b o hb e=>?_) hS₃⟩
 ·rw[OD,OD]
 ·exact(JX _ _ (KQ hb)).trans ((JX _ _ (KQ hb)).trans e)
def uE (hh:A.handled=none)(D:LU z TI TO i1 i2 l t)(nS:S≠z/\S≠TI/\S≠TO/\S≠i1/\S≠i2)(nl:l≠S)(nt:t≠S)(hn:xs.size<=sizeLine)(hlen:xs.size=ys.size)
  (Z:fG s.heap z TI TO i1 i2 l t S 0)(hz0:s.heap.get? z=some (iO .none (.bool false) TI TO))(hl:s.heap.IsList l xs)(ht:s.heap.IsTuple t ys)(hS:s.heap.get? S=some {cls:=.type "list",data:=.seq #[]})
  (hR:∀h' tk acc c as,(∀b o,b∉[z,TI,TO,i1,i2,S]->s.heap.get? b=some o->h'.get? b=some o)->h'.get? S=some {cls:=.type "list",dict:=none,data:=.seq acc c,slots:=#[]}->as.length=xs.size->jA xs ys s.heap.objs.size h' as->
   acc.toList=as.map Ji->R (.ok (.ret .none)) {s with heap:=h',toks:=tk}):
  wpAny (model prog w) A.in1 (KF.«list.__init__» ⟨[.ref S,.ref z],[]⟩)
   (fun fin s'=>match fin with|.done f=>R (.ok f) s'|.again c'=>c'.quiet=true/\codeAny (model prog w) A c' R s') (fun e s'=>R (.error e) s') s:=by
 show wpAny _ _ (do let old<-Oz (.ref S);Builtin.List.listUpdate (.ref S) (fun _=>#[]);letGo old.toList.reverse;Kw (.ref S) (.ref z) .none) _ _ s
 refine cW ?_
 unfold Oz
 refine cW (JH hS rfl (tx ?_))
 show wpAny _ _ (updateSeq S (fun _=>#[]) >>= fun _=>letGo (#[]:Array Gt).toList.reverse >>= fun _=>Kw (.ref S) (.ref z) .none) _ _ s
 refine cW (MB hS rfl ?_)
 have hS₂:=JC (Lb (fun _=>(#[]:Array Gt))) hS rfl
 have oth:∀b o,b≠S->s.heap.get? b=some o->(s.heap.update S (Lb (fun _=>(#[]:Array Gt)))).get? b=some o:=
  fun b o hb e=>(JX _ _ (KQ hb)).trans e
 refine cW (Mz ?_)
 refine qr (s:={s with heap:=s.heap.update S (Lb (fun _=>(#[]:Array Gt)))}) hh D nS nl nt hn hlen .none _ (Z.keepS nS oth) (oth _ _ nS.1.symm hz0) (hl.at fun o e=>oth l o nl e) (ht.at fun o e=>oth t o nt e) hS₂ (fun h' tk acc c as hk hS' hl hG hacc=>?_)
 refine hR h' tk acc c as (fun b o hb e=>hk b o hb (oth b o (fun q=>hb (by rw[q];simp)) e)) hS' hl ?_ hacc
 have:(s.heap.update S (Lb (fun _=>(#[]:Array Gt)))).objs.size=s.heap.objs.size:=OD ..
 rw[<-this];exact hG
end
section
variable {prog:Jd}{w:JL}{A:JK}{E:Gt->IQ->Prop}{s:IQ}{xs ys:Array Gt}{z TI TO i1 i2 l t:Addr}
def tW {Q:Gt->IQ->Prop}(hh:A.handled=none)(D:LU z TI TO i1 i2 l t)(hn:xs.size<=sizeLine)(hlen:xs.size=ys.size)
  (hz0:s.heap.get? z=some (iO .none (.bool false) TI TO))(hTI:KA s.heap TI (.ref i1) (.ref i2))(hTO:∃a b,KA s.heap TO a b)(j1:s.heap.IsListIter i1 l 0)(j2:s.heap.IsTupleIter i2 t 0)(hl:s.heap.IsList l xs)(ht:s.heap.IsTuple t ys)
  (hQ:∀h' tk acc c as,(∀b o,b∉[z,TI,TO,i1,i2]->s.heap.get? b=some o->h'.get? b=some o)->h'.get? s.heap.objs.size=some {cls:=.type "list",dict:=none,data:=.seq acc c,slots:=#[]}->as.length=xs.size->jA xs ys (s.heap.objs.size+1) h' as->
   acc.toList=as.map Ji->Q (.ref s.heap.objs.size) {s with heap:=h',toks:=tk}):
  wpAny (model prog w) A (call (.type "list") [.ref z]) Q E s:=by
 refine callType_codes (Q₁:=fun obj s₁=>obj=.ref s.heap.objs.size/\s₁={s with heap:=s.heap.push {cls:=.type "list",data:=.seq #[]}}) PySem.F.called_list (PySem.F.typeCall_list_1 _) PySem.F.entry_list_init
  (code_list_new _ ⟨rfl,rfl⟩) fun obj s₁ h₁=>?_
 obtain⟨rfl,rfl⟩:=h₁
 have hS:(s.heap.push {cls:=.type "list",data:=.seq #[]}).get? s.heap.objs.size=some {cls:=.type "list",data:=.seq #[]}:=IT _ rfl
 have up:∀b o,s.heap.get? b=some o->(s.heap.push {cls:=.type "list",data:=.seq #[]}).get? b=some o:=fun b o e=>gV _ e
 obtain⟨a,b,hTO⟩:=hTO
 have nn:∀b o,s.heap.get? b=some o->s.heap.objs.size≠b:=fun b o e=>Kc (IS e)
 have nS:s.heap.objs.size≠z/\s.heap.objs.size≠TI/\s.heap.objs.size≠TO/\s.heap.objs.size≠i1/\s.heap.objs.size≠i2:=by
  obtain⟨o1,e1,_⟩:=j1
  obtain⟨o2,e2,_⟩:=j2
  exact⟨nn _ _ hz0,nn _ _ hTI,nn _ _ hTO,nn _ _ e1,nn _ _ e2⟩
 have nl:l≠s.heap.objs.size:=by obtain⟨o,e,_⟩:=hl;exact(nn _ _ e).symm
 have nt:t≠s.heap.objs.size:=by obtain⟨o,e,_⟩:=ht;exact(nn _ _ e).symm
 refine⟨⟨_,hS,rfl⟩,PySem.F.args_list_init_2 _ _,uE (s:={s with heap:=s.heap.push {cls:=.type "list",data:=.seq #[]}}) (A:=A.in1) hh D nS nl nt hn hlen
  ⟨.inl ⟨rfl,up _ _ hz0⟩,up _ _ hTI,⟨a,b,up _ _ hTO⟩,j1.at fun o e=>up _ o e,j2.at fun o e=>up _ o e⟩ (up _ _ hz0) (hl.at fun o e=>up _ o e) (ht.at fun o e=>up _ o e) hS (fun h' tk acc c as hk hS' hl hG hacc=>?_)⟩
 refine⟨rfl,hQ h' tk acc c as (fun b o hb e=>hk b o (fun q=>?_) (up b o e)) hS' hl ?_ hacc⟩
 ·simp only[IY,Jl,or_false]at q hb
  rcases q with q|q|q|q|q|q
  ·exact hb (.inl q)
  ·exact hb (.inr (.inl q))
  ·exact hb (.inr (.inr (.inl q)))
  ·exact hb (.inr (.inr (.inr (.inl q))))
  ·exact hb (.inr (.inr (.inr (.inr q))))
  ·exact nn b o e q.symm
 ·have:(s.heap.push {cls:=.type "list",data:=.seq #[]}).objs.size=s.heap.objs.size+1:=JG ..
  rw[<-this];exact hG
abbrev Dy (l:Addr):Obj:={cls:=.type "list_iterator",data:=.fields #[.ref l,.int 0 0]}
abbrev zm1 (h:Heap)(t1:Addr):Heap:=h.push (Dy t1)
abbrev zm2 (h:Heap)(t1 t2:Addr):Heap:=(zm1 h t1).push (itO t2)
abbrev zm3 (h:Heap)(t1 t2:Addr):Heap:=(zm2 h t1 t2).push {cls:=.type "tuple",data:=.seq #[.ref h.objs.size,.ref (zm1 h t1).objs.size]}
abbrev zm4 (h:Heap)(t1 t2:Addr):Heap:=(zm3 h t1 t2).push {cls:=.type "tuple",data:=.seq #[.none,.none]}
abbrev zm5 (h:Heap)(t1 t2:Addr):Heap:=(zm4 h t1 t2).push {cls:=.type "zip",data:=.fields #[.none,.bool false,.bool false,.ref (zm2 h t1 t2).objs.size,.ref (zm3 h t1 t2).objs.size]}
def vt (t1 t2:Addr)(xs ys:Array Gt):
  Meets (KF.«zip.__new__» ⟨[.type "zip",.ref t1,.ref t2],[]⟩) (fun _ R s=>s.heap.IsList t1 xs/\s.heap.IsTuple t2 ys/\R (.ok (.ret (.ref (zm4 s.heap t1 t2).objs.size))) {s with heap:=zm5 s.heap t1 t2}):=
 .of_wp fun prog w A R s h=>by
  obtain⟨hp,g,d,tk,os⟩:=s;obtain⟨hl1,hl2,h⟩:=h
  have hsub:=sub_zip
  have hL1:Heap.IsList (Nd ⟨hp,g,d,tk,os⟩) t1 xs:=hl1
  have hL2:Qg (Nd ⟨hp.push (Dy t1),g,d,tk,os⟩) t2 ys:=hl2.at fun o e=>gV _ e
  wp_walk using Nz hL1,Nn hL2
  exact⟨_,rfl,h⟩
def uP {t1 t2:Addr}{Q:Gt->IQ->Prop}(hl1:s.heap.IsList t1 xs)(hl2:s.heap.IsTuple t2 ys)
  (h:∀h',h'.get? (s.heap.objs.size+4)=some (iO .none (.bool false) (s.heap.objs.size+2) (s.heap.objs.size+3))->KA h' (s.heap.objs.size+2) (.ref s.heap.objs.size) (.ref (s.heap.objs.size+1))->(∃a b,KA h' (s.heap.objs.size+3) a b)->
   h'.IsListIter s.heap.objs.size t1 0->h'.IsTupleIter (s.heap.objs.size+1) t2 0->h'.objs.size=s.heap.objs.size+5->(∀c o,s.heap.get? c=some o->h'.get? c=some o)->Q (.ref (s.heap.objs.size+4)) {s with heap:=h'}):
  wpAny (model prog w) A (call (.type "zip") [.ref t1,.ref t2]) Q E s:=by
 refine Pg QR (by decide) (Pa _ _) (Pz _ _) (fun obj=>NX obj _ _) PB (vt t1 t2 xs ys) ⟨hl1,hl2,?_⟩
 have z1:(zm1 s.heap t1).objs.size=s.heap.objs.size+1:=JG ..
 have z2:(zm2 s.heap t1 t2).objs.size=s.heap.objs.size+2:=by rw[JG,z1]
 have z3:(zm3 s.heap t1 t2).objs.size=s.heap.objs.size+3:=by rw[JG,z2]
 have z4:(zm4 s.heap t1 t2).objs.size=s.heap.objs.size+4:=by rw[JG,z3]
 have z5:(zm5 s.heap t1 t2).objs.size=s.heap.objs.size+5:=by rw[JG,z4]
 have g5:(zm5 s.heap t1 t2).get? (zm4 s.heap t1 t2).objs.size=some _:=IT _ rfl
 have g4:(zm5 s.heap t1 t2).get? (zm3 s.heap t1 t2).objs.size=some _:=gV _ (IT _ rfl)
 have g3:(zm5 s.heap t1 t2).get? (zm2 s.heap t1 t2).objs.size=some _:=gV _ (gV _ (IT _ rfl))
 have g2:(zm5 s.heap t1 t2).get? (zm1 s.heap t1).objs.size=some _:=gV _ (gV _ (gV _ (IT _ rfl)))
 have g1:(zm5 s.heap t1 t2).get? s.heap.objs.size=some _:=gV _ (gV _ (gV _ (gV _ (IT _ rfl))))
 show _/\_
 rw[z2,z3,z4]at g5
 rw[z1,z2]at g3
 rw[z3]at g4
 rw[z1]at g2
 rw[z4]
 exact⟨⟨_,g5,rfl⟩,h _ g5 g3 ⟨_,_,g4⟩ ⟨_,g1,rfl,rfl⟩ ⟨_,g2,rfl,rfl⟩ z5 fun c o x=>gV _ (gV _ (gV _ (gV _ (gV _ x))))⟩
end
end HT
namespace L2
open PySem PySem.Spec PyProof.Rows
section
variable {X:Cx}{pins:List (Addr×Obj)}{σ:St}{H:Hp}{s:IQ}{h':Heap}
def qi {tk:Nat}{us vs:List V}{xs ys:List Gt}{lo:Addr}{as:List Addr}(I:Inv X pins σ H s)(k:∀b o,s.heap.get? b=some o->h'.get? b=some o)(hlo:s.heap.objs.size<=lo)(r1:aX us xs)(r2:aX vs ys)(G:HT.jA xs.toArray ys.toArray lo h' as):
  ∀n,n<=as.length->∃H',ar H H'/\(∀j a x y,j<n->as[j]? =some a->us[j]? =some x->vs[j]? =some y->H' a=some (.tup [x,y]))/\(∀b,H b=none->b∉as.take n->H' b=none)/\Inv X pins σ H' {s with heap:=h',toks:=tk}:=by
 intro n
 induction n with
 |zero=>intro _;exact⟨H,ar.rfl',fun j a x y h=>absurd h (by omega),fun b e _=>e,I.kept (t':=tk) k⟩
 |succ n ih=>
  intro hn
  obtain⟨H1,S1,t1,f1,I1⟩:=ih (by omega)
  have hlt:n<as.length:=hn
  have ea:as[n]? =some as[n]:=IR hlt
  obtain⟨x,y,e1,e2,e3⟩:=G.pairs n _ ea
  have hxl:n<xs.length:=by have:=(JT.mp e1).1;simpa using this
  have hyl:n<ys.length:=by have:=(JT.mp e2).1;simpa using this
  obtain⟨u,hu⟩:∃u,us[n]? =some u:=⟨_,IR (by rw[r1.length];exact hxl)⟩
  obtain⟨v,hv⟩:∃v,vs[n]? =some v:=⟨_,IR (by rw[r2.length];exact hyl)⟩
  obtain⟨x',gx,rx⟩:=r1.get hu
  obtain⟨y',gy,ry⟩:=r2.get hv
  have ex:x'=x:=by have:xs[n]? =some x:=by simpa using e1
                   exact Js (gx.symm.trans this)
  have ey:y'=y:=by have:ys[n]? =some y:=by simpa using e2
                   exact Js (gy.symm.trans this)
  subst ex ey
  have ge:s.heap.objs.size<=as[n]:=JQ hlo (G.above _ (Jq ea))
  have nin:as[n]∉as.take n:=fun hm=>by
   obtain⟨j,hj⟩:=Lx.mp hm
   have hjn:j<n:=by have:=(IW.mp hj).1;rw[Jz]at this;omega
   rw[Rb,if_pos hjn]at hj
   have:=Pt.mp G.rise j n (by omega) hlt hjn
   rw[(IW.mp hj).2]at this
   exact KG _ this
  have hfree:H1 as[n]=none:=f1 _ (I.hok.fresh ge) nin
  have I2:Inv X pins σ (upd H1 as[n] (.tup [u,v])) {s with heap:=h',toks:=tk}:=Inv.track2 I I1 ge hfree ⟨by show 2<=sizeLine;decide,[x',y'],.cons rx (.cons ry .nil),⟨_,e3,rfl,_,rfl⟩⟩
  refine⟨_,S1.trans (ar.upd hfree),fun j a x y hj ha hx hy=>?_,fun b e hb=>?_,I2⟩
  ·rcases Nat.lt_or_eq_of_le (Nat.le_of_lt_succ hj)with h|h
   ·exact ar.upd hfree _ _ (t1 j a x y h ha hx hy)
   ·subst h
    rw[ea]at ha;cases ha
    rw[hu]at hx;cases hx
    rw[hv]at hy;cases hy
    exact al
  ·have nb:b≠as[n]:=fun q=>hb (by rw[q];exact Lx.mpr ⟨n,by rw[Rb,if_pos (Mm _)];exact ea⟩)
   rw[ap nb]
   exact f1 b e fun q=>hb (by rw[Sf];exact Lf _ q)
def pA (K:If):List V->Hp->VK->Prop:=fun xs H Q=>∃c d us vs,xs=[.ref c,.ref d]/\SqL K H c us/\SqT K H d vs/\us.length=vs.length/\
 ∀(l:Addr)(ps:List Addr)(H':Hp),H l=none->ar H H'->ps.length=us.length->(∀(j:Nat)(p:Addr)(x y:V),ps[j]?=some p->us[j]?=some x->vs[j]?=some y->H' p=some (.tup [x,y]))->H' l=some (.lst (ps.map V.ref))->Q (.ref l) H'
def wm {Q:VK}{c d:Addr}{us vs:List V}(hc:X.calm=true)(I:Inv X pins σ H s)(hx:SqL X.K H c us)(hy:SqT X.K H d vs)(hl:us.length=vs.length)
  (q:∀(l:Addr)(ps:List Addr)(H':Hp),H l=none->ar H H'->ps.length=us.length->(∀(j:Nat)(p:Addr)(x y:V),ps[j]?=some p->us[j]?=some x->vs[j]?=some y->H' p=some (.tup [x,y]))->H' l=some (.lst (ps.map V.ref))->Q (.ref l) H'):
  wpAny (model X.prog X.w) X.A (call (.type "zip") [.ref c,.ref d]) (fun u s2=>wpAny (model X.prog X.w) X.A (call (.type "list") [u]) (EP X pins σ Q) X.xe s2) X.xe s:=by
 obtain⟨its,r1,p1,hz1⟩:=I.list hx
 obtain⟨its2,r2,p2,_⟩:=I.tuple hy
 have l1:=r1.length
 have l2:=r2.length
 have hL:s.heap.IsList c its.toArray:=p1.isList
 have hT:s.heap.IsTuple d its2.toArray:=p2
 have lt1:c<s.heap.objs.size:=by obtain⟨o,e,_⟩:=hL;exact IS e
 have lt2:d<s.heap.objs.size:=by obtain⟨o,e,_⟩:=hT;exact IS e
 refine HT.uP hL hT fun h1 y1 y2 y3 y4 y5 hsz hk=>?_
 refine HT.tW (s:={s with heap:=h1}) (I.ok.hd hc) (RC lt1 lt2) (by rw[IX];omega) (by rw[IX,IX];omega) y1 y2 y3 y4 y5 (hL.at fun o e=>hk _ o e) (hT.at fun o e=>hk _ o e) fun h2 tk acc cc as hk2 hS hla hG hacc=>?_
 have hsz1:({s with heap:=h1}:IQ).heap.objs.size=s.heap.objs.size+5:=hsz
 rw[hsz1]at hS hG⊢
 have kk:∀b o,s.heap.get? b=some o->h2.get? b=some o:=fun b o e=>hk2 b o (fun z=>by
  have hb:=IS e
  simp only[IY,Jl,or_false]at z
  rcases z with rfl|rfl|rfl|rfl|rfl<;>exact absurd hb (Nat.not_lt.mpr (by first|exact IV _|exact MJ _ _))) (hk b o e)
 obtain⟨H',S',tr,fr,I'⟩:=qi (tk:=tk) I kk (JQ (MJ _ 5) (LO _)) r1 r2 hG as.length (IV _)
 have hSfree:H' (s.heap.objs.size+5)=none:=fr _ (I.hok.fresh (MJ _ _)) fun hm=>by
  have:=hG.above _ (NL hm)
  exact absurd this (Nat.not_le.mpr (Mm _))
 have rr:aX (as.map V.ref) (as.map Ji):=by
  clear q tr fr hla hG hacc
  induction as with
  |nil=>exact .nil
  |cons a r ih=>exact .cons rfl ih
 have hla':as.length=us.length:=by rw[hla,IX];omega
 have I2:Inv X pins σ (upd H' (s.heap.objs.size+5) (.lst (as.map V.ref))) {s with heap:=h2,toks:=tk}:=Inv.track2 I I' (MJ _ _) hSfree ⟨by rw[IU,hla'];exact hz1,as.map Ji,cc,rr,by rw[hS,<-hacc]⟩
 exact⟨.ref (s.heap.objs.size+5),_,I2,rfl,q _ as _ (I.hok.fresh (MJ _ _)) (S'.trans (ar.upd hSfree)) hla' (fun j p x y hj hx hy=>ar.upd hSfree _ _ (tr j p x y (IW.mp hj).1 hj hx hy)) al⟩
end
section
variable {X:Cx}{a b:Expr}{t:TA}{p1 p2 pos1 pos2:Pos}
def tE (hm1:X.mg "list"=none)(hm2:X.mg "zip"=none)(hc:X.calm=true)(ha:QA X [a,b] t)(hg1:Gl X "list":=by rfl)(hg2:Gl X "zip":=by rfl)(hs:bh [a,b]=true:=by rfl):
  QE X (.Call (.Name "list" p1) [.Call (.Name "zip" p2) [a,b] [] pos2] [] pos1) (tCB (pA X.K) t):=⟨fun pins s σ H Q I h=>by
 have h':(bP a&&bh [b])=true:=hs
 refine Ke (eA I hg1 hm1 zc ?_ (by decide) (by decide))
 refine JP ?_ rfl rfl
 show wpAny _ _ (spliced ((false,eval (.Call (.Name "zip" p2) [a,b] [] pos2) X.env)::backTo pos1 (starEach [] X.env))) _ _ s
 refine MT ?_
 refine Ke (eA I hg2 hm2 oa ?_ (by decide) (by decide))
 refine JP (thn (ha.out pos2 pins s σ H _ I h) fun us s1 ⟨vs,H1,I1,r1,q1⟩=>?_)
  (bc (Jf.mp h').1 [b] X.env) (bW (Jf.mp h').2)
 obtain⟨c,d,xs,ys,rfl,hx,hy,hl,q⟩:=q1
 obtain⟨u,w',rfl,ru,rw'⟩:=kS r1
 cases ru
 cases rw'
 refine Ju (wm hc I1 hx hy hl q) (fun u s2 z=>?_) fun _ _ z=>z
 exact Oj z⟩
end
def vN (K:If)(a:Addr)(n:Nat):It where
 go:=fun i H=>i<n/\∃xs,SqL K H a xs/\xs.length=n
 yld:=fun i H x H'=>H'=H/\∀xs,SqL K H a xs->xs[n- 1- i]?=some x
 stop:=fun i _=>n<=i
def tm {P:Jd}{w:JL}{K:If}{tg:Expr}(a it:Addr)(n:Nat):fW P w K tg (vN K a n) [it] it (fun i h=>i<=n/\h.IsRevIter it a ((n:Int)- 1- i))where
 mem:=by simp
 obj:=fun i h st b hb=>by
  have e:b=it:=by simpa using hb
  subst e
  obtain⟨_,o,e,c,d⟩:=st
  exact⟨o,e,fun v z=>by rw[d]at z;cases z⟩
 keep:=fun i h h' st k=>⟨st.1,st.2.at fun o e=>k it (by simp) o e⟩
 item:=by
  intro X hP hw hK hc i pins s σ H E I hf st hg
  subst hP hw hK
  obtain⟨hi,xs,hq,hl⟩:=hg
  obtain⟨its,rv,p,hz⟩:=I.list hq
  obtain⟨x,hx⟩:∃x,xs[n- 1- i]?=some x:=⟨_,IR (by omega)⟩
  obtain⟨u,hu,ru⟩:=rv.get hx
  obtain⟨f0,f1,f2,f3,f4,f5⟩:=hf it (by simp)
  have st2:=st.2
  rw[show(n:Int)- 1- i=((n- 1- i:Nat):Int)by omega]at st2
  refine wpAny_pyNext_rev_item st2 p.isList (x:=u) (by simpa using hu) fun h' st' sb=>?_
  have I1:Inv X pins σ H {s with heap:=h'}:=I.turned (t':=s.toks) (fun b o hb e=>(sb.2 b hb).trans e) f0 f1 f3 f4 f5
  obtain⟨o,e1,c,d⟩:=id st'
  refine⟨u,rfl,jP (s:={s with heap:=h'}) e1 c d (by decide) ⟨x,H,I1,ru,⟨rfl,fun ys hy=>by rw[I.list_inj hy hq];exact hx⟩,⟨hi,?_⟩,fun b hb=>(hf b hb).1⟩⟩
  rw[show(n:Int)- 1- ((i+1:Nat):Int)=((n- 1- i:Nat):Int)- 1 by omega];exact st'
 done:=by
  intro X hP hw hK hc i pins s σ H E I hf st hg
  subst hP hw hK
  obtain⟨f0,f1,f2,f3,f4,f5⟩:=hf it (by simp)
  have hg:n<=i:=hg
  have hi:=st.1
  have st2:=st.2
  rw[show(n:Int)- 1- i= -1 by omega]at st2
  exact wpAny_pyNext_rev_end (I.ok.hd hc) st2 fun h' eb=>⟨rfl,I.turned (t':=s.toks) (fun b o hb e=>eb b o hb e) f0 f1 f3 f4 f5⟩
 self:=fun _ _ _ _ _ st h=>Og st.2 h
def ci.revL {K:If}{a:Addr}{xs:List V}(d:V):ci (vN K a xs.length) xs.length (fun i=>xs.reverse.getD i d) (fun H=>SqL K H a xs)where
 go:=fun i H hi h=>⟨hi,xs,h,rfl⟩
 yld:=fun i H x H' hi h y=>⟨y.1,by rw[Jk,KR hi,y.2 xs h];rfl⟩
 stop:=fun H h=>IV _
section
variable {X:Cx}{a:Expr}{t:TA}{p pos:Pos}{tg:Expr}
def nC (K:If)(t:TA):TI:=fun σ H R=>t σ H fun vs H1=>∃c xs,vs=[.ref c]/\((SqL K H1 c xs/\R (vN K c xs.length) H1)\/(SqT K H1 c xs/\R (vD K c xs) H1))
def pY (hm:X.mg "reversed"=none)(ha:QA X [a] t)(hg:Gl X "reversed":=by rfl)(hs:bh [a]=true:=by rfl):QI X tg (.Call (.Name "reversed" p) [a] [] pos) (nC X.K t):=⟨fun pins s σ H R I h=>by
 have h':(bP a&&bh [])=true:=hs
 refine Ke (eA I hg hm gS ?_ (by decide) (by decide))
 refine JP (thn (ha.out pos pins s σ H _ I h) fun us s1 ⟨vs,H1,I1,r1,q1⟩=>?_)
  (bc (Jf.mp h').1 [] X.env) (bW (Jf.mp h').2)
 obtain⟨c,xs,rfl,q1⟩:=q1
 obtain⟨u,rfl,ru⟩:=dU r1
 cases ru
 rcases q1 with⟨hq,q⟩|⟨hq,q⟩
 ·obtain⟨its,rv,p,hz⟩:=I1.list hq
  have hl:=rv.length
  refine Sk p.isList ?_
  have st:(s1.heap.push (revObj c ((its.toArray.size:Int)- 1))).IsRevIter s1.heap.objs.size c ((xs.length:Int)- 1- ((0:Nat):Int)):=by
   refine⟨_,IT _ rfl,rfl,?_⟩
   have e:(xs.length:Int)- 1- ((0:Nat):Int)=(its.toArray.size:Int)- 1:=by rw[IX];omega
   rw[e];rfl
  refine Og (s:={s1 with heap:=s1.heap.push (revObj c ((its.toArray.size:Int)- 1))}) st ?_
  refine⟨s1.heap.objs.size,[s1.heap.objs.size],_,_,H1,rfl,I1.kept (t':=s1.toks) fun b o e=>gV _ e,tm c _ xs.length,⟨Kf _,st⟩,fun b hb=>?_,q⟩
  have e:b=s1.heap.objs.size:=by simpa using hb
  subst e
  exact I1.fpOk (IV _) (I1.hok.fresh (IV _))
 ·obtain⟨its,rv,p,hz⟩:=I1.tuple hq
  have hl:=rv.length
  refine HT.fh (show NP s1.heap c its.toArray from p) (by rw[IX];rw[KB]at hz;omega) ?_
  have st:HT.cY (s1.heap.push (HT.iy c ((its.toArray.size:Int)- 1))) s1.heap.objs.size c ((xs.length:Int)- 1- ((0:Nat):Int)):=by
   show(s1.heap.push _).get? _=_
   have e:(xs.length:Int)- 1- ((0:Nat):Int)=(its.toArray.size:Int)- 1:=by rw[IX];omega
   rw[e]
   exact IT _ rfl
  refine HT.kC (s:={s1 with heap:=s1.heap.push (HT.iy c ((its.toArray.size:Int)- 1)),toks:=s1.toks+1+1}) st ?_
  refine⟨s1.heap.objs.size,[s1.heap.objs.size],_,_,H1,rfl,I1.kept (t':=s1.toks+1+1) fun b o e=>gV _ e,vP c _ xs,⟨Kf _,st⟩,fun b hb=>?_,q⟩
  have e:b=s1.heap.objs.size:=by simpa using hb
  subst e
  exact I1.fpOk (IV _) (I1.hok.fresh (IV _))⟩
end
end L2
namespace HT
open PySem PySem.W PyProof.Rows
abbrev ko (C t:Addr)(d:Option Addr):Obj:={cls:=.ref C,dict:=d,data:=.fields #[.ref t,.none,.none,.none,.bool false,.none]}
abbrev gU (h:Heap)(C:Addr)(us:List Gt):Heap:=(h.push {cls:=.type "tuple",data:=.seq us.toArray}).push (ko C h.objs.size none)
section
variable {prog:Jd}{w:JL}{A:JK}{K:Frag}{C f:Addr}{R:Ou->IQ->Prop}{h:Heap}{g:Array OK}{d:Drawn}{t:Nat}{os:OsState}
def vJ {us:List Gt}(X:K.In h)(hC:L2.dI K C)(hi:findIn K (.ref C) "__init__"=some (some (.ref f)))(hf:typeIn K (.ref f)=some (.type "function"))(hus:us.length<=sizeLine)
  (hq:codeAny (model prog w) (A.under (.builtin "type.__call__" ⟨.ref C::us,[]⟩)) (.call (.ref f) ⟨.ref (h.objs.size+1)::us,[]⟩) (InitBack (h.objs.size+1) R) ⟨gU h C us,g,d,t,os⟩):
  codeAny (model prog w) A (.call (.ref C) ⟨us,[]⟩) R ⟨h,g,d,t,os⟩:=by
 obtain⟨bm,N,nm,qn,bs,hdct,sn,sub,ab,col,dd,k0,k1,k2,k3,k5,mN,oC,hN,_,T,_⟩:=L2.im X hC
 have f1:=tc_lookup
 have f2:=tc_bind (.ref C)
 have hT:(⟨h,g,d,t,os⟩:IQ).TypeIs (.ref C) "type":=⟨_,oC,rfl⟩
 have FB:=F.excBase_ValueError
 have hBn:(L2.veM).contains (.type "ValueError")=true:=by decide+kernel
 refine PZ ?_
 show wpAny _ _ (callAny (.ref C) _) _ _ _
 repeat (any_goals (first|assumption|with_reducible refine Lr oC ?_ |wp_step))
 refine⟨rfl,?_⟩
 refine codeAny_call_builtin_at (Oa _ (by decide+kernel)) entry_typeCall (wpAny_check_type_call_sub oC ?_)
 repeat (first|with_reducible refine Lr oC ?_ |with_reducible refine wpAny_madeBy_exc oC ?_ |wp_step)
 refine codeAny_call_builtin_code (Oa _ FB.quiet) (wpAny_check_new_subU FB hBn T oC ?_)
 refine codeAny_exc_new_subU FB hBn FB T oC ?_ hus
 show wpAny _ _ _ _ _ _
 have k:∀b o,h.get? b=some o->(gU h C us).get? b=some o:=fun b o e=>gV _ (gV _ e)
 have hx:(gU h C us).get? (h.objs.size+1)=some (ko C h.objs.size none):=by heap_get
 have oC1:=k _ _ oC
 have hcC:(Ji C::bm).contains (.ref C)=true:=by simp
 have t1:Looks (model prog w) (gU h C us) (typeOf (.ref (h.objs.size+1))) (.ref C):=(Looks.ld hx).andThen .now
 have i1:=(looks_findIn (M:=model prog w) X hi).keeps k
 have b1:=(bind_fn (M:=model prog w) X (.ref (h.objs.size+1)) hf).keeps k
 unfold isInstance
 repeat (first|with_reducible refine Lr hx ?_ |(with_reducible refine LS oC1 ?_;rw[hcC])|wp_step)
 show wpAny _ _ (isSubtype (.ref C) (.ref C)) _ _ ⟨gU h C us,g,d,t,os⟩
 refine LS oC1 ?_
 rw[hcC,if_neg (by decide)]
 unfold callSpecial? specialOf
 repeat (first|with_reducible refine NZ ?_ |lk)
 refine Mh hq fun r s' z=>?_
 rcases r with e|(v|_|_|_)<;>first|exact z|exact z.elim|skip
 obtain⟨rfl,z⟩:=z
 exact tx (tx z)
end
end HT
namespace HT
open PySem PySem.W PyProof.Rows
open Builtin Builtin.ObjectAttr
def qt (self:Gt){h:Heap}{bm:List Gt}(T:OwnTail h L2.veM bm):refuseLoop self "__setattr__" bm=pure ():=by
 induction T with
 |base=>exact PySem.F.store_ValueError.passes self
 |own _ _ _ _ ih=>rw[refuseLoop_ref];exact ih
structure fR (K:Frag)(C:Addr)(name:Str):Prop where
 ok:L2.dI K C
 sa:findIn K (.ref C) "__setattr__"=some (some (.builtin "object.__setattr__"))
 eg:L2.jx K C
 no:findIn K (.ref C) name=some none
 hd:hasDictIn K C=true
section
variable {prog:Jd}{w:JL}{A:JK}{E:Gt->IQ->Prop}{s:IQ}{K:Frag}{x C:Addr}{name:Str}{v:Gt}
def qZ {ox:Obj}{od:Option Obj}{tk:Tok}{R:Ou->IQ->Prop}(X:K.In s.heap)(I:InstAt s.heap x ox C od)(G:fR K C name)
  (h:wpAny (model prog w) A.in1 (storeInOwnDict (.ref x) (.ref C) (.str name tk) name v false)
   (fun fin s'=>match fin with|.done f=>R (.ok f) s'|.again c'=>c'.quiet=true/\codeAny (model prog w) A c' R s') (fun e s'=>R (.error e) s') s):
  codeAny (model prog w) A (.call (.builtin "object.__setattr__") ⟨[.ref x,.str name tk,v],[]⟩) R s:=by
 have SF:=PySem.F.store_object
 obtain⟨bm,N,nm,qn,bs,hdct,sn,sub,ab,col,dd,k0,k1,k2,k3,k5,mN,oC,hN,_,T,_⟩:=L2.im X G.ok
 have hm:Looks (model prog w) s.heap (mroOf (.ref C)) (.ref C::bm):=((Looks.ld (part:=none) oC).andThen .now).andThen .now
 have hsub:Looks (model prog w) s.heap (isSubtype (.ref C) (.type "object")) true:=fun A' Q' E' s' k q=>by
  obtain⟨hh,g,d,t,os⟩:=s'
  refine LS (k _ _ oC) ?_
  rw[Od,T.hasType (X:="object") (b:=true) (by decide+kernel),Qk];exact q
 have hsub':Looks (model prog w) s.heap (isInstance (.ref x) (.type "object")) true:=I.type.andThen hsub
 refine Oi SF.slot.plain SF.entry (@check_slot (model prog w) _ _ s "object.__setattr__" "object" "__setattr__" (.ref x) [.str name tk,v] [] _ SF.kind SF.split hsub' (SF.args (.ref x) (.str name tk) v) ?_)
 rw[osa_eq,refuse_eq]
 refine cW (cW (I.type.here (cW (hm.here ?_))))
 rw[refuseLoop_ref,qt _ T]
 exact tx (cW (I.type.here (cW ((looks_findIn X G.no).here (cW (tx h))))))
def yW {ox:Obj}{dx:Addr}{mA:Str->Option Gt}{ns:List Str}{Q:Unit->IQ->Prop}(X:K.In s.heap)(hx:s.heap.get? x=some ox)(hc:ox.cls=.ref C)(hdx:ox.dict=some dx)(hf:∃vs,ox.data=.fields vs)(hn:s.heap.Ns1 dx mA)(ne:dx≠x)(G:fR K C name)
  (hw:Within mA ns)(hsz:ns.length<=sizeLine)(h:∀h' t',h'.Ns1 dx (fun y=>if y=name then some v else mA y)->Kh dx s.heap h'->Q () {s with heap:=h',toks:=t'}):wpAny (model prog w) A (setAttr (.ref x) name v) Q E s:=by
 obtain⟨vs,hvs⟩:=hf
 obtain⟨oc,od,odt,osl⟩:=ox
 dsimp only at hc hdx hvs
 subst hc hdx hvs
 obtain⟨oD0,esD0,epD0,hoD0,_⟩:=id hn
 have J:InstAt s.heap x _ C (some oD0):=⟨hx,rfl,rfl,hoD0⟩
 refine set_plain X J G.sa (qZ (s:={s with toks:=s.toks+1}) X J G ?_)
 obtain⟨cd,hcc,hd'⟩:=any_some G.hd
 refine cW (tx (cW (cW (wpAny_loadPart hx (cW (Looks.here (s:={s with toks:=s.toks+1}) (looks_clsIn X hcc) ?_))))))
 rw[hd']
 refine tx (a:=some dx) (cW (tx (cW ?_)))
 refine wpAny_nsSet1 (s:={s with toks:=s.toks+1}) hn fun h' hn2 hs2=>?_
 obtain⟨oD,esD,epD,hoD,hdD,hcD⟩:=hn2.count (Sl name v hw)
 refine cW (wpAny_lookBehind hoD (by rw[hdD];exact pastItsLine_dict (JQ hcD (by rw[JU];omega))) ?_)
 exact tx (h _ _ hn2 hs2)
def wG {ox:Obj}{Q:Unit->IQ->Prop}(X:K.In s.heap)(hx:s.heap.get? x=some ox)(hc:ox.cls=.ref C)(hdx:ox.dict=none)(hf:∃vs,ox.data=.fields vs)(G:fR K C name)
  (h:∀h' t',h'.get? x=some {ox with dict:=some s.heap.objs.size}->h'.Ns1 s.heap.objs.size (fun y=>if y=name then some v else none)->(∀b o,b≠x->s.heap.get? b=some o->h'.get? b=some o)->Q () {s with heap:=h',toks:=t'}):
  wpAny (model prog w) A (setAttr (.ref x) name v) Q E s:=by
 obtain⟨vs,hvs⟩:=hf
 obtain⟨oc,od,odt,osl⟩:=ox
 dsimp only at hc hdx hvs
 subst hc hdx hvs
 have J:InstAt s.heap x _ C none:=⟨hx,rfl,rfl,trivial⟩
 refine set_plain X J G.sa (qZ (s:={s with toks:=s.toks+1}) X J G ?_)
 obtain⟨cd,hcc,hd'⟩:=any_some G.hd
 refine cW (tx (cW (cW (wpAny_loadPart hx (cW (Looks.here (s:={s with toks:=s.toks+1}) (looks_clsIn X hcc) ?_))))))
 rw[hd']
 show wpAny _ _ (alloc {cls:=.type "dict",data:=.dict #[]}>>=fun d=>update x (fun o=>{o with dict:=some d})>>=fun _=>pure (some d)) _ _ _
 have xs:x≠s.heap.objs.size:=Jb (IS hx)
 have hx1:(s.heap.push {cls:=.type "dict",data:=.dict #[]}).get? x=some _:=gV _ hx
 refine cW (wpAny_alloc' (cW (wpAny_update' hx1 (tx ?_))))
 generalize hh2:((s.heap.push {cls:=.type "dict",data:=.dict #[]}).update x fun o=>{o with dict:=some s.heap.objs.size})=h2
 have hx2:h2.get? x=some ⟨.ref C,some s.heap.objs.size,.fields vs,osl⟩:=by rw[<-hh2];exact JC _ hx1 rfl
 have hd2:h2.get? s.heap.objs.size=some {cls:=.type "dict",data:=.dict #[]}:=by rw[<-hh2];exact(QF _ _ _ _ xs.symm).trans (Heap.get?_push_at rfl rfl)
 have k2:∀b o,b≠x->s.heap.get? b=some o->h2.get? b=some o:=fun b o nb e=>by rw[<-hh2];exact(QF _ _ _ _ nb).trans (gV _ e)
 have n2:h2.Ns s.heap.objs.size (fun _=>none):=⟨_,#[],_,hd2,rfl,fun e he=>absurd he (by simp),fun _=>rfl⟩
 show wpAny _ _ (storeInDict s.heap.objs.size (.str name s.toks) name v) _ _ {s with heap:=h2,toks:=s.toks+1}
 unfold storeInDict newKeyGuard
 refine cW (tx (cW (wpAny_nsSet1 (s:={s with heap:=h2,toks:=s.toks+1}) (Heap.Ns1.of_empty n2) fun h' hn' hs=>?_)))
 obtain⟨oD,esD,epD,hoD,hdD,hcD⟩:=hn'.count (Sl name v Within.nil)
 refine cW (wpAny_lookBehind hoD (by rw[hdD];exact pastItsLine_dict (JQ hcD (by rw[JU,OV,KB];omega))) ?_)
 exact tx (h _ _ ((hs.2 x xs).trans hx2) hn' fun b o nb e=>(hs.2 b (Jb (IS e))).trans (k2 b o nb e))
end
section
variable {prog:Jd}{w:JL}{A:JK}{E:Gt->IQ->Prop}{h:Heap}{g:Array OK}{d:Drawn}{t:Nat}{os:OsState}{K:Frag}{a C:Addr}{o:Obj}{od:Option Obj}{name:Str}{v:Gt}
def wD {tk:Tok}{Q:Fin->IQ->Prop}(X:K.In h)(I:InstAt h a o C od)(hf:findObj K C od name=some (.value v))(hq:Q (.done (.ret v)) ⟨h,g,d,t,os⟩):
  wpAny (model prog w) A (KF.«object.__getattribute__» ⟨[.ref a,.str name tk],[]⟩) Q E ⟨h,g,d,t,os⟩:=by
 have L0:=I.type (M:=model prog w)
 have L1:=looks_find (M:=model prog w) X I hf
 unfold KF.«object.__getattribute__»
 refine cW (tx (cW (tx (cW (L0.at (cW (L1.at ?_)))))))
 exact tx hq
def zJ {tk:Tok}{R:Ou->IQ->Prop}(X:K.In h)(G:L2.jx K C)(I:InstAt h a o C od)(hf:findObj K C od name=some (.value v))(hq:R (.ok (.ret v)) ⟨h,g,d,t,os⟩):
  codeAny (model prog w) A (.call (.builtin "BaseException.__getattribute__") ⟨[.ref a,.str name tk],[]⟩) R ⟨h,g,d,t,os⟩:=
 Oi Rh.ga.plain F.entry_bexc_ga (L2.vO X G I.at_ I.cls (wD X I hf hq))
def FN {tk:Tok}{fill expr:Bool}{Q:Gt->IQ->Prop}(X:K.In h)(G:L2.jx K C)(I:InstAt h a o C od)(hf:findObj K C od name=some (.value v))(hh:handedIn v=true)(hq:Q v ⟨h,g,d,t,os⟩):
  wpAny (model prog w) A (getAttrBy (.ref a) (.str name tk) fill expr) Q E ⟨h,g,d,t,os⟩:=by
 have f3:=Rh.ga.bind (.ref a)
 have L0:=I.type (M:=model prog w)
 have L1:=looks_findIn (M:=model prog w) X G.ga
 have L2':=looks_findIn (M:=model prog w) X G.na
 have hx2:(Ni "BaseException.__getattribute__"==Ni "object.__getattribute__")=false:=by decide+kernel
 have hx0:(expr&&onTheHeap (Ni "BaseException.__getattribute__"))=false:=by cases expr<;>rfl
 unfold getAttrBy
 refine Km (cW (L0.at (cW (L1.at ?_))))
 show wpAny _ _ (if (onTheHeap (Ji C)&&Ni "BaseException.__getattribute__"==Ni "object.__getattribute__")=true then _ else _) _ _ _
 rw[hx2,Px,if_neg Jc]
 unfold getAttrByItsOwn
 refine cW ?_
 show wpAny _ _ (typeLookup (.ref C) "__getattr__") _ _ _
 refine L2'.at (cW (Kn (Km ?_)))
 unfold callGetattribute
 rw[hx0,if_neg Jc]
 unfold boundAndCalled
 rw[f3]
 refine cW (tx (NZ (zJ X G I hf ?_)))
 show wpAny _ _ (handedOut v) _ _ _
 rw[handedOut_of hh];exact tx hq
def yY {dx:Addr}{mA:Str->Option Gt}{expr:Bool}{Q:Gt->IQ->Prop}(X:K.In h)(hx:h.get? a=some o)(hc:o.cls=.ref C)(hdx:o.dict=some dx)(hfl:∃vs,o.data=.fields vs)(hn:h.Ns1 dx mA)(G:fR K C name)
  (hv:mA name=some v)(hh:handedIn v=true)(hq:Q v ⟨h,g,d,t+1,os⟩):wpAny (model prog w) A (getAttr (.ref a) name expr) Q E ⟨h,g,d,t,os⟩:=by
 obtain⟨vs,hvs⟩:=hfl
 obtain⟨oc,odd,odt,osl⟩:=o
 dsimp only at hc hdx hvs
 subst hc hdx hvs
 obtain⟨od,ho,hl⟩:=L2.ms hn
 have J:InstAt h a _ C (some od):=⟨hx,rfl,rfl,ho⟩
 unfold getAttr
 exact cW (wpAny_mkText (FN X G.eg J (findObj_own G.hd G.no rfl (by rw[hl,hv])) hh hq))
end
end HT
namespace L2
open PySem PySem.Spec PyProof.Rows
def fk (C a:Addr)(d:Option Addr):HO:=.ext fun h=>∃t,h.get? a=some (HT.ko C t d)
def qL {P:Jd}{w:JL}{H:Hp}{h:Heap}{C a t:Addr}{d:Option Addr}(e:h.get? a=some (HT.ko C t d)):aU P w H h a (fk C a d):=⟨⟨t,e⟩,⟨_,e⟩,fun h1 h2 ⟨t1,e1⟩ k=>⟨t1,k _ e1⟩⟩
def lN {P:Jd}{w:JL}{H:Hp}{h:Heap}{C a:Addr}{d:Option Addr}(x:aU P w H h a (fk C a d)):∃t,h.get? a=some (HT.ko C t d):=x.1
def gz (fs:List (Str×V))(dx:Addr):HO:=.ext fun h=>∃mA,h.Ns1 dx mA/\∀f,cM (fs.lookup f) (mA f)
def rh {P:Jd}{w:JL}{H:Hp}{h:Heap}{dx:Addr}{fs:List (Str×V)}{mA:Str->Option Gt}(n:h.Ns1 dx mA)(r:∀f,cM (fs.lookup f) (mA f)):aU P w H h dx (gz fs dx):=by
 refine⟨⟨mA,n,r⟩,?_,fun h1 h2 ⟨m1,n1,r1⟩ k=>⟨m1,?_,r1⟩⟩
 ·obtain⟨o,es,ep,e,_⟩:=n
  exact⟨o,e⟩
 ·obtain⟨o,es,ep,e,c⟩:=n1
  exact⟨o,es,ep,k _ e,c⟩
def qE {P:Jd}{w:JL}{H:Hp}{h:Heap}{dx:Addr}{fs:List (Str×V)}(x:aU P w H h dx (gz fs dx)):∃mA,h.Ns1 dx mA/\∀f,cM (fs.lookup f) (mA f):=x.1
def qf {fs:List (Str×V)}{mA:Str->Option Gt}(r:∀f,cM (fs.lookup f) (mA f)):Qa mA (fs.map (·.1)):=fun y h=>by
 have ry:=r y
 cases e:fs.lookup y with
 |none=>
  rw[e]at ry
  cases q:mA y with
  |none=>exact absurd q h
  |some u=>rw[q]at ry;exact ry.elim
 |some v=>
  have:∀(l:List (Str×V)),l.lookup y=some v->y∈l.map (·.1):=by
   intro l
   induction l with
   |nil=>intro z;cases z
   |cons p l ih=>
    intro z
    obtain⟨k,x⟩:=p
    rw[Lv]at z
    by_cases hk:(y==k)=true
    ·rw[JY];exact IY.mpr (.inl (beq_iff_eq.mp hk))
    ·rw[Bool.not_eq_true]at hk
     rw[hk]at z
     exact Je _ (ih z)
  exact this fs e
def rF (K:If)(C:Addr)(ta tv:TE)(f:Str):TS:=fun D σ H=>tv σ H fun y H1=>ta σ H1 fun x H2=>∃a,x=.ref a/\HT.fR K C f/\
 ((H2 a=some (fk C a none)/\∀dx,H2 dx=none->dx≠a->D.nx σ (upd (upd H2 a (fk C a (some dx))) dx (gz [(f,y)] dx)))\/
  (∃dx fs,H2 a=some (fk C a (some dx))/\H2 dx=some (gz fs dx)/\dx≠a/\fs.length<1000/\D.nx σ (upd H2 dx (gz (iK f y fs) dx))))
def rC (K:If)(ta:TE)(f:Str):TE:=fun σ H Q=>ta σ H fun x H1=>∃a C dx fs v,x=.ref a/\H1 a=some (jj C (some dx) a)/\H1 dx=some (gz fs dx)/\HT.fR K C f/\fs.lookup f=some v/\Q v H1
section
variable {X:Cx}{o value:Expr}{ta tv:TE}{f:Str}{pos pos':Pos}{C:Addr}
def uF (ho:QE X o ta)(hv:QE X value tv)(hs:swapsWith value (some (.Attribute o f pos')) pos.line X.env=pure false:=by rfl):QS X (.Assign [.Attribute o f pos'] value pos) (rF X.K C ta tv f):=by
 refine⟨fun pins s σ H D I h=>?_⟩
 refine plainObj_wpAny_Assign_Attribute (thn (hv.out pins s σ H _ I h) fun u s1 ⟨y,H1,I1,ry,q⟩=>thn (ho.out pins s1 σ H1 _ I1 q) fun ov s2 ⟨x,H2,I2,rx,a,ex,G,q2⟩=>?_) hs
 subst ex
 obtain rfl:ov=Ji a:=rx
 rcases q2 with⟨ea,q2⟩|⟨dx,fs,ea,ed,ne,hl,q2⟩
 ·obtain⟨t,et⟩:=lN (P:=X.prog) (w:=X.w) (I2.hok a _ ea)
  refine HT.wG I2.kIn et rfl rfl ⟨_,rfl⟩ G fun h' t' e1 e2 k=>?_
  have I3:Inv X pins σ (upd H2 a (fk C a (some s2.heap.objs.size))) {s2 with heap:=h',toks:=t'}:=I2.write (x:=a) (e:=a) (by rw[ea];exact LQ) (.inl rfl) (fun b u nb e=>k b u nb e) ⟨_,e1⟩ (qL e1)
  have na:s2.heap.objs.size≠a:=Kc (IS et)
  have hn:upd H2 a (fk C a (some s2.heap.objs.size)) s2.heap.objs.size=none:=by rw[ap na];exact I2.hok.fresh (IV _)
  exact⟨σ,_,Inv.track2 I2 I3 (IV _) hn (rh e2 fun g=>by
   show cM (KO g [(f,y)]) (if g=f then some u else none)
   by_cases hg:g=f
   ·rw[if_pos hg,hg]
    simp only[KO,beq_self_eq_true];exact ry
   ·have hb:(g==f)=false:=beq_eq_false_iff_ne.mpr hg
    rw[if_neg hg]
    simp only[KO,hb];exact LQ),q2 _ (I2.hok.fresh (IV _)) na⟩
 ·obtain⟨t,et⟩:=lN (P:=X.prog) (w:=X.w) (I2.hok a _ ea)
  obtain⟨mA,n1,r1⟩:=qE (P:=X.prog) (w:=X.w) (I2.hok dx _ ed)
  refine HT.yW (ns:=fs.map (·.1)) I2.kIn et rfl rfl ⟨_,rfl⟩ n1 ne G (qf r1) (by rw[IU,KB];omega) fun h' t' e2 sb=>?_
  have hd:∃u,h'.get? dx=some u:=let ⟨o,_,_,e',_⟩:=e2;⟨o,e'⟩
  exact⟨σ,_,I2.write (x:=dx) (e:=dx) (by rw[ed];exact LQ) (.inl rfl) (fun b u nb e=>(sb.2 b nb).trans e) hd (rh e2 fun g=>by
   rw[jY]
   by_cases hg:g=f
   ·rw[if_pos hg,if_pos hg];exact ry
   ·rw[if_neg hg,if_neg hg];exact r1 g),q2⟩
def ui (he:QE X o ta)(hb:attributeBase o f X.env (eval o X.env)=eval o X.env:=by rfl):QE X (.Attribute o f pos) (rC X.K ta f):=by
 refine⟨fun pins s σ H Q I h=>?_⟩
 refine Al hb (thn (he.out pins s σ H _ I h) fun u s1 ⟨x,H1,I1,rx,a,C,dx,fs,v,ex,ea,ed,G,l,q⟩=>?_)
 subst ex
 obtain rfl:u=Ji a:=rx
 obtain⟨oe,vs,e1,e2,e3,e4,_⟩:=zD (P:=X.prog) (w:=X.w) (I1.hok a _ ea)
 obtain⟨mA,n1,r1⟩:=qE (P:=X.prog) (w:=X.w) (I1.hok dx _ ed)
 obtain⟨u,hu,ru⟩:=cM.some_of (v:=v) (o:=mA f) (by rw[<-l];exact r1 f)
 obtain⟨hp,g,d,tk,os⟩:=s1
 exact HT.yY I1.kIn e1 e2 e3 ⟨_,e4⟩ n1 G hu (tH ru) ⟨v,H1,I1.tok _,ru,q⟩
end
def jl (a:Addr)(H:Hp):Hp:=fun b=>if b=a then none else H b
def jz {a:Addr}{H:Hp}:jl a H a=none:=by unfold jl;rw[if_pos rfl]
def eI {a b:Addr}{H:Hp}(h:b≠a):jl a H b=H b:=by unfold jl;rw[if_neg h]
def HOk.off {P:Jd}{w:JL}{H:Hp}{h:Heap}{a:Addr}{φ:Heap->Prop}(k:HOk P w H h)(ha:H a=some (.ext φ)):HOk P w (jl a H) h:=fun b o e=>by
 by_cases hb:b=a
 ·subst hb;rw[jz]at e;cases e
 ·rw[eI hb]at e
  exact(k b o e).stay (fun c u _ q=>q) (fun c q=>by rw[eI (fun z=>by rw[z,ha]at q;cases q)];exact q) fun c xs q=>by rw[eI (fun z=>by rw[z,ha]at q;cases q)];exact q
def Un.off {fs:List Addr}{H H':Hp}{h h':Heap}{a:Addr}(u:Un fs [] H H' h h')(ha:H a=none):Un fs [] H (jl a H') h h' where
 keep:=u.keep
 slot:=u.slot
 free:=fun b o e n hx=>by
  by_cases hb:b=a
  ·rw[hb];exact jz
  ·rw[eI hb];exact u.free b o e n hx
 there:=u.there
 tups:=fun b xs e=>by rw[eI (ay e ha)];exact u.tups b xs e
 frzs:=fun b o v e=>by rw[eI (ay e ha)];exact u.frzs b o v e
 tbls:=fun b ps e=>by rw[eI (ay e ha)];exact u.tbls b ps e
end L2
namespace HT
open PySem PyProof.Rows
section
variable {M:RY}{A:JK}{E:Gt->IQ->Prop}{env:Env}{K:If}{C:Addr}
def sW {s:IQ}{x:Sem Gt}{Q:Flow->IQ->Prop}(hC:L2.dI K C)(hh:A.handled=none)
  (h:wpAny M A x (fun v s₁=>∃e t d,v=.ref e/\K.In s₁.heap/\s₁.heap.get? e=some (ko C t d)/\E (.ref e) s₁) E s):wpAny M A (raiseStmt env (some x) none) Q E s:=by
 unfold raiseStmt
 refine cW (Ju h (fun v s₁ h₁=>?_) fun _ _ x=>x)
 obtain⟨e,t,d,rfl,X,he,hE⟩:=h₁
 obtain⟨bm,N,nm,qn,bs,hdct,sn,sub,ab,col,dd,k0,k1,k2,k3,k5,mN,oC,hN,_,T,_⟩:=L2.im X hC
 have hcB:(Ji C::bm).contains (.type "BaseException")=true:=by rw[Od,T.hasType (X:="BaseException") (b:=true) (by decide+kernel),Qk]
 obtain⟨hp,g,dr,tk,os⟩:=s₁
 repeat (first|with_reducible refine Lr he ?_ |with_reducible refine Lr oC ?_ |(with_reducible refine LS oC ?_;rw[hcB])|wp_step)
 exact wpAny_raiseNew_none hh hE
def ul {prog:Jd}{w:JL}{A:JK}{K:If}{C f:Addr}{R:Ou->IQ->Prop}{s:IQ}{us:List Gt}(X:K.In s.heap)(hC:L2.dI K C)(hi:Mp K (.ref C) "__init__"=some (some (.ref f)))(hf:W.typeIn K (.ref f)=some (.type "function"))(hus:us.length<=sizeLine)
  (hq:codeAny (model prog w) (A.under (.builtin "type.__call__" ⟨.ref C::us,[]⟩)) (.call (.ref f) ⟨.ref (s.heap.objs.size+1)::us,[]⟩) (W.InitBack (s.heap.objs.size+1) R) {s with heap:=gU s.heap C us}):
  codeAny (model prog w) A (.call (.ref C) ⟨us,[]⟩) R s:=by
 obtain⟨h,g,d,t,os⟩:=s
 exact vJ X hC hi hf hus hq
end
end HT
namespace L2
open PySem PySem.Spec PyProof.Rows
def rf (C:Addr)(sp:Sp)(E:St->XK)(t:TA):TS:=fun _ σ H=>t σ H fun vs H1=>∀a,H1 a=none->sp (.ref a::vs) (upd H1 a (fk C a none)) (fun v H2=>v=.non/\∃d,H2 a=some (fk C a d)/\E σ (.ref C) d (jl a H2)) E0
structure yS (K:If)(C f:Addr):Prop where
 ok:dI K C
 init:Mp K (.ref C) "__init__"=some (some (.ref f))
 fn:W.isFn K (.ref f)=true
 kp:Ph K (.ref C)=true
section
variable {X:Cx}{k:Nat}{f C:Addr}{fd:Jn}{ps:List Str}{sp:Sp}{E:St->XK}{x:Str}{np cpos pos:Pos}{e:Expr}{es:List Expr}{t:TA}
def vV (Y:yS X.K C f)(F:aV X.prog X.w X.K X.mg X.base (CX1 X.prog X.w) k f fd ps sp)(hr:bC (k+1) X.A)(hb:dG X.K fd ps [])(hm:X.mg x=some (.ref C))(hR:tN X E)(ha:QA X (e::es) t)
  (hc:X.calm=true:=by rfl)(hg:Gl X x:=by rfl)(hdb:(x==("__debug__":Str))=false:=by decide)(hs:bh (e::es)=true:=by rfl)(hps:ps.length<=1000:=by decide):QS X (.Raise (some (.Call (.Name x np) (e::es) [] cpos)) none pos) (rf C sp E t):=by
 refine⟨fun pins s σ H D I h=>?_⟩
 have h':(bP e&&bh es)=true:=hs
 rw[arm_exec_Raise]
 refine cW (NG (HT.sW Y.ok (I.ok.hd hc) ?_))
 refine cW (Ju ?_ (fun v s₃ h₃=>cW (NG (tx h₃))) fun _ _ x=>x)
 refine Ke (lQ I hg hm ?_ hdb)
 refine W.callWith_K (h₀:=X.base) I.ok.mod.kin Y.kp (thn (ha.out cpos pins s σ H _ I h) fun us s1 ⟨vs,H1,I1,r,q⟩=>⟨I1.kIn,?_⟩) (bc (Jf.mp h').1 es X.env) (bW (Jf.mp h').2)
 have ka:∀b u,s1.heap.get? b=some u->(HT.gU s1.heap C us).get? b=some u:=fun b u eb=>gV _ (gV _ eb)
 have ex:(HT.gU s1.heap C us).get? (s1.heap.objs.size+1)=some (HT.ko C s1.heap.objs.size none):=by heap_get
 have hfr:H1 (s1.heap.objs.size+1)=none:=I1.hok.fresh (LO _)
 have I2:Inv X pins σ (upd H1 (s1.heap.objs.size+1) (fk C (s1.heap.objs.size+1) none)) {s1 with heap:=HT.gU s1.heap C us,toks:=s1.toks}:=I1.laid ka (LO _) (qL ex)
 have hq:=q (s1.heap.objs.size+1) hfr
 have r2:aX (V.ref (s1.heap.objs.size+1)::vs) (Ji (s1.heap.objs.size+1)::us):=.cons rfl r
 have hl:(Ji (s1.heap.objs.size+1)::us).length=ps.length:=by rw[<-r2.length];exact F.len _ _ _ _ hq
 have hb':=hb {s1 with heap:=HT.gU s1.heap C us} (Ji (s1.heap.objs.size+1)::us) I2.kIn (by rw[KW];exact hl)
 rw[KW]at hb'
 have husz:us.length<=sizeLine:=by
  rw[JU]at hl
  rw[KB];omega
 refine NZ (HT.ul I1.kIn Y.ok Y.init (beq_iff_eq.mp Y.fn) husz (Mh (F.run _ X.stack _ _ ⟨Ji (s1.heap.objs.size+1)::us,[]⟩ (Ji (s1.heap.objs.size+1)::us) _ _ _ (hr.make C us []) (I2.env0.make C us []) hb' r2 hq) fun rr s' hq'=>?_))
 cases rr with
 |error e'=>
  obtain⟨_,_,_,_,_,_,z⟩:=hq'
  exact z.elim
 |ok fl=>
  cases fl with
  |next=>exact Kg hq'
  |brk=>exact Kg hq'
  |cont=>exact Kg hq'
  |ret u=>
   obtain⟨v,H',os,bare,un,hok,rv,rfl,d,hd,hE⟩:=hq'
   obtain⟨t,et⟩:=lN (P:=X.prog) (w:=X.w) (hok _ _ hd)
   have u1:Un (frs X.stack) [] H1 H' s1.heap s'.heap:=(Un.laid (o:=fk C (s1.heap.objs.size+1) none) ka (LO _) hfr).trans un
   have kin:X.K.In s'.heap:=by
    have I3:Inv X pins σ H' s':=I1.call' (ch:=[]) os u1 hok bare fun b z=>absurd z (by simp)
    exact I3.kIn
   refine⟨rv,s1.heap.objs.size+1,t,d,rfl,kin,et,hR pins σ H1 s1 C (s1.heap.objs.size+1) d (jl (s1.heap.objs.size+1) H') s' I1 ⟨os,bare,u1.off hfr,hok.off hd,Qr (LO _),jz,⟨_,_,.ref t,et,rfl,rfl,rfl,⟨rfl,rfl⟩,rfl⟩⟩ hE⟩
end
end L2
namespace L2
open PySem PySem.Spec PyProof.Rows PySem.W
section
variable {key:Nat->Int}{n:Nat}
variable (inj:∀i j,i<n->j<n->key i=key j->i=j)
include inj
omit inj in
omit inj in
omit inj in
end
end L2
namespace HT
open PySem PySem.Calls PySem.W PyProof.Rows L2
section
variable {prog:Jd}{w:JL}{A:JK}{E:Gt->IQ->Prop}{s:IQ}
def rX {α:Type}(l:List α)(d:α):(MN l.length).map (fun i=>l.getD i d)=l:=by
 refine List.ext_getElem (by simp) fun i h1 h2=>?_
 rw[List.getElem_map,List.getElem_range,Jk,IR h2];rfl
end
end HT
namespace L2
open PySem PySem.Spec PyProof.Rows PySem.W
section
variable {X:Cx}{pins:List (Addr×Obj)}{σ:St}{H:Hp}{s:IQ}{h':Heap}{tk:Nat}
def aU.there {P:Jd}{w:JL}{h:Heap}{a:Addr}{o:HO}(x:aU P w H h a o):∃q,h.get? a=some q:=by
 cases o with
 |lst xs=>obtain⟨_,_,_,_,e⟩:=x;exact⟨_,e⟩
 |tup xs=>obtain⟨_,_,_,o,e,_⟩:=x;exact⟨_,e⟩
 |dK kvs=>obtain⟨_,_,_,_,o,_,_,e,_⟩:=x;exact⟨_,e⟩
 |dT kvs=>obtain⟨_,_,_,_,o,_,_,e,_⟩:=x;exact⟨_,e⟩
 |set S n=>obtain⟨o,_,_,_,e,_⟩:=x;exact⟨_,e⟩
 |ins C dx fs=>obtain⟨_,_,_,e,_⟩:=x;exact⟨_,e⟩
 |own y=>exact x
 |xd fs=>obtain⟨_,⟨_,_,_,e,_⟩,_⟩:=x;exact⟨_,e⟩
 |rng lo hi=>obtain⟨_,_,_,e⟩:=x;exact⟨_,e⟩
 |frz ob u=>exact⟨_,x.1⟩
 |tbl ps=>exact⟨_,x⟩
 |met f y=>exact⟨_,x⟩
 |ext φ=>exact x.2.1
def New (h:Heap)(a:Addr):Prop:=∀b u,h.get? b=some u->b≠a
def New.free {a:Addr}(n:New s.heap a)(I:Inv X pins σ H s):H a=none:=by
 cases e:H a with
 |none=>rfl
 |some o=>obtain⟨q,z⟩:=(I.hok a o e).there;exact absurd rfl (n a q z)
def Inv.track3 {a:Addr}{o:HO}{H1:Hp}{s0:IQ}(I0:Inv X pins σ H1 s0)(I:Inv X pins σ H s)(ne:New s0.heap a)(hn:H a=none)(ok:aU X.prog X.w (upd H a o) s.heap a o):Inv X pins σ (upd H a o) s:=by
 have nL:X.env.locals≠a:=let ⟨m,⟨o',_,_,e,_⟩,_⟩:=I0.loc;ne _ _ e
 refine⟨I.ok,I.os,I.bare,⟨I.base.keep,I.base.slot,fun b u e n hx=>?_,I.base.there,fun b xs e=>?_,fun b u v e=>?_,fun b ps e=>?_⟩,I.loc,I.cell,?_,fun x c e=>?_,fun p hp=>?_,fun b u e=>?_,I.len⟩
 ·obtain⟨o',e'⟩:=I0.base.there b u e hx
  rw[ap (ne b o' e')];exact I.base.free b u e n hx
 ·have:=I.base.tups b xs e
  rw[ap (ay this hn)];exact this
 ·have:=I.base.frzs b u v e
  rw[ap (ay this hn)];exact this
 ·obtain⟨more,this⟩:=I.base.tbls b ps e
  exact⟨more,by rw[ap (ay this hn)];exact this⟩
 ·rw[ap nL];exact I.free
 ·obtain⟨v,o',e',_⟩:=I0.cell x c e
  rw[ap (ne _ _ e')];exact I.freeC x c e
 ·obtain⟨h1,h2,h3⟩:=I.pin p hp
  exact⟨h1,by rw[ap (ne _ _ (I0.pin p hp).1)];exact h2,h3⟩
 ·by_cases hb:b=a
  ·subst hb
   rw[al]at e;cases e
   exact ok
  ·rw[ap hb]at e
   have nt:∀c q,H c=some q->upd H a o c=some q:=fun c q z=>by rw[ap (ay z hn)];exact z
   exact(I.hok b u e).stay (fun c v _ q=>q) (fun c q=>nt _ _ q) fun c xs q=>nt _ _ q
end
end L2
namespace Rs
abbrev st (B k d:Nat):Nat:=k/2^(B- d)
end Rs
namespace L2
open PySem PySem.Spec PyProof.Rows
structure fZ (scope:Scope)(x z:Str)(ys:List Str):Prop where
 kind:scope.kind=.function
 nocell:∀y∈scope.names,y.2≠.cell
 names:∀y∈scope.names,y.2=.local->scope.names.lookup y.1=some .local
 own:scope.names.lookup x=some .local
 own2:scope.names.lookup z=some .local
 all:∀y∈scope.names,y.2=.free->y.1∈ys
 nd:(x::z::ys).Nodup
def uW (K:If)(is:List Nat)(tc:TT)(te:TE)(σ:St)(D:Addr)(J:It)(H1:Hp)(Q:VK):Prop:=∃W:Nat->Nat->List V->Hp->Prop,(∃m,W 0 m [] (upd H1 D (.lst [])))/\
 ∀i m ys H2,W i m ys H2->(J.stop i H2/\Q (.ref D) H2)\/(J.go i H2/\∀x H3,J.yld i H2 x H3->∃a v0 v1,x=.ref a/\SqT K H3 a [v0,v1]/\tc (some v0::some v1::aR σ is) H3 fun b H4=>if b=true then
  te (some v0::some v1::aR σ is) H4 fun y H5=>H5 D=some (.lst ys)/\ys.length<sizeLine/\∃m',m'<m/\W (i+1) m' (ys++[y]) (upd H5 D (.lst (ys++[y])))
  else ∃m',m'<m/\W (i+1) m' ys H4)
def oM (K:If)(is:List Nat)(wi:TI)(tc:TT)(te:TE):TE:=fun σ H Q=>wi σ H fun J H1=>∀D,H1 D=none->uW K is tc te σ D J H1 Q
section
variable {X:Cx}
def rN {elt iter:Expr}{ifs:List Expr}{x z:Str}{px pz ep pos:Pos}{ek:Nat}{scope:Scope}{ys:List Str}{is:List Nat}{tc:TT}{te:TE}{pins:List (Addr×Obj)}{σ:St}{H2:Hp}{s2:IQ}{it:Addr}{fp:List Addr}{tn:Nat->Heap->Prop}{J:It}{E:Gt->IQ->Prop}{Q:VK}{RR:Gt->Addr->Ou->IQ->Prop}
  (hc:X.calm=true)(S:fZ scope x z ys)(hcap:fc X scope ys is)
  (hif:∀C s H fp,pC (aM X scope C (x::z::ys) s H fp) ifs tc)(he:∀C s H fp,PE (aM X scope C (x::z::ys) s H fp) elt te)
  (I2:Inv X pins σ H2 s2)(T:fW X.prog X.w X.K (.Tuple [.Name x px,.Name z pz] ek ep) J fp it tn)(st2:tn 0 s2.heap)(f2:∀b∈fp,fA X pins H2 b)
  (hW:∀D,H2 D=none->∃W:Nat->Nat->List V->Hp->Prop,(∃m,W 0 m [] (upd H2 D (.lst [])))/\
   ∀i m ys H2,W i m ys H2->(J.stop i H2/\Q (.ref D) H2)\/(J.go i H2/\∀x H3,J.yld i H2 x H3->∃a v0 v1,x=.ref a/\SqT X.K H3 a [v0,v1]/\tc (some v0::some v1::aR σ is) H3 fun b H4=>if b=true then
    te (some v0::some v1::aR σ is) H4 fun y H5=>H5 D=some (.lst ys)/\ys.length<sizeLine/\∃m',m'<m/\W (i+1) m' (ys++[y]) (upd H5 D (.lst (ys++[y])))
    else ∃m',m'<m/\W (i+1) m' ys H4))
  (hRR:∀D C H' s',(X.s₀.heap.objs.size<=C/\∀p∈X.pn++pins,p.1≠C)->(∃m,s'.heap.Ns C m)->C≠X.env.locals->H' C=none->Inv X pins σ H' s'->(∀h',Kh C s'.heap h'->Inv X pins σ H' {s' with heap:=h'})->Q (.ref D) H'->RR (.ref D) C (.ok .next) s'):
  wpAny (model X.prog X.w) X.A (newList []) (fun acc s₃=>wpAny (model X.prog X.w) X.A (newFunctionEnv scope X.env.globals (cq scope.names X.env.cells []) [] X.env.qual none .none (some X.env)) (fun cenv s₄=>
   codeAny (model X.prog X.w) X.A (.compStart (.ListComp elt [⟨.Tuple [.Name x px,.Name z pz] ek ep,iter,ifs,0⟩] scope pos) 0 (.ref it) acc {cenv with scope:=relabel scope X.env}) (RR acc cenv.locals) s₄) E s₃) E s2:=by
 have hf2:H2 s2.heap.objs.size=none:=I2.fresh
 refine JF (Oh S.nocell (by intro y hy;simp at hy) (fun h₁ hns₁ hsb₁=>?_) S.kind)
 dsimp only at hns₁ hsb₁⊢
 have I3:Inv X pins σ (upd H2 s2.heap.objs.size (.lst [])) {s2 with heap:=s2.heap.push {cls:=.type "list",data:=.seq ([]:List Gt).toArray}}:=I2.lnew (t':=s2.toks) (ys:=[]) .nil (Kf _)
 obtain⟨W,⟨m0,w0⟩,turn⟩:=hW _ hf2
 generalize hD:s2.heap.objs.size=D at I3 w0 turn hf2⊢
 generalize hs3:({s2 with heap:=s2.heap.push {cls:=.type "list",data:=.seq ([]:List Gt).toArray}}:IQ)=s3 at I3
 have hp3:s2.heap.push {cls:=.type "list",dict:=none,data:=.seq ([]:List Gt).toArray}=s3.heap:=by rw[<-hs3]
 rw[hp3]at hns₁ hsb₁⊢
 have tk3:s2.toks=s3.toks:=by rw[<-hs3]
 generalize hH3:upd H2 D (.lst [])=H3 at I3 w0
 generalize hC:s3.heap.objs.size=C at hns₁ hsb₁⊢
 have keep2:∀b o,s2.heap.get? b=some o->s3.heap.get? b=some o:=fun b o e=>by rw[<-hp3];exact gV _ e
 have keep3:∀b o,s3.heap.get? b=some o->h₁.get? b=some o:=fun b o e=>hsb₁.extBut b o (by rw[<-hC];exact Jb (IS e)) (gV _ e)
 have st3:tn 0 s3.heap:=T.keep _ _ _ st2 fun b _ o e=>keep2 b o e
 have st4:tn 0 h₁:=T.keep _ _ _ st3 fun b _ o e=>keep3 b o e
 have fp3:∀b∈fp,H3 b=none/\b<C:=fun b hb=>by
  obtain⟨o,e,_⟩:=T.obj _ _ st2 b hb
  refine⟨?_,by rw[<-hC];exact IS (keep2 b o e)⟩
  rw[<-hH3,ap (by rw[<-hD];exact Jb (IS e))]
  exact(f2 b hb).1
 have hcells:∀{z:Str}{c:Addr},(cq scope.names X.env.cells []).lookup z=some c->X.env.cells.lookup z=some c:=fun h=>ji (fun _ _ q=>by cases q) h
 have hX:(aM X scope C (x::z::ys) s3 H3 fp).Ok:=by
  refine⟨I3.ok.mod,S.kind,I3.ok.glob,I3.ok.blt,MX hC,fun y z c h1 h2=>I3.ok.inj y z c (hcells h1) (hcells h2),fun y hy=>?_,fun y c h _=>absurd (show false=true from h) Jc,I3.ok.hd,I3.ok.frames,.inl rfl,fun b hb=>⟨Jb (fp3 b hb).2,fun y c h=>(f2 b hb).2.2.2.2.1 y c (hcells h)⟩,fun b o e=>I3.bs b o e,JQ I3.ok.bsz I3.sz,fun b o e hb=>?_,fun b hb z=>?_,I3.stack,I3.stkFree⟩
  ·have hy:(relabel scope X.env).names.lookup y=some .cell\/(relabel scope X.env).names.lookup y=some .free:=hy
   have hm:(y,Lo)∈scope.names:=by
    rcases hy with q|q
    ·exact eD S.nocell q (.inl rfl)
    ·exact eD S.nocell q (.inr rfl)
   have hs:∃c,X.env.cells.lookup y=some c:=by
    by_cases hk:X.env.kindOf y=some .cell\/X.env.kindOf y=some .free
    ·exact I3.ok.has y hk
    ·exact absurd (gK hcap (S.all _ hm rfl)) hk
   exact JR.mp (fO hm (JR.mpr hs))
  ·rcases(f2 b hb).2.2.2.1 with z|z
   ·exact I3.ok.noex b o e z
   ·exact absurd (Jm (IS e) (JQ I3.ok.bsz z)) (KG _)
  ·rcases IY.mp (I3.stkSub b z)with q|q
   ·exact(f2 b hb).2.1 q
   ·exact(f2 b hb).2.2.1 q
 have I4:Inv (aM X scope C (x::z::ys) s3 H3 fp) [] (none::none::aR σ is) H3 {s2 with heap:=h₁,toks:=s2.toks+([]:List (Str×Gt)).length}:=by
  obtain⟨m3,hm3,hl3⟩:=id I3.loc
  refine⟨hX,?_,?_,Un.kept keep3,⟨_,hns₁,fun i y v e1 e2 e3=>?_⟩,fun y c e=>?_,?_,fun y c e=>I3.freeC y c (hcells e),fun p hp=>absurd (show p∈([]:List (Addr×Obj))from hp) (by simp),I3.hok.kept keep3,?_⟩
  ·show s2.os=s3.os
   rw[<-hs3]
  ·have:=I2.bare;exact this
  ·match i,e1,e2 with
   |0,_,e2=>simp at e2
   |1,_,e2=>simp at e2
   |j+2,e1,e2=>
    obtain⟨u,r,hfr,c,ec,ic⟩:=lX hcap hl3 trivial j y v (by have e1':(x::z::ys)[j+2]? =some y:=e1;simpa using e1') (by simpa using e2)
    have hk:=iZ (env:=X.env) hfr
    obtain⟨c',ec'⟩:=JR.mp (fO (cs:=[]) (iI hfr) (by rw[ec];rfl) (cells:=X.env.cells))
    have:c'=c:=by have:=hcells ec';rw[ec]at this;exact(Js this).symm
    subst this
    obtain⟨o,ho,hd⟩:=ic
    exact⟨u,r,.inr ⟨hk,c',ec',o,keep3 _ _ ho,hd⟩⟩
  ·obtain⟨v,o,ho,hd⟩:=I3.cell y c (hcells e)
   exact⟨v,o,keep3 _ _ ho,hd⟩
  ·have:=I3.hok.fresh (a:=C) (MX hC)
   exact this
  ·have:=oY hcap
   show(none::none::aR σ is).length=(x::z::ys).length
   simp[aR,this]
 have hown:(relabel scope X.env).names.lookup x=some .local:=fS S.own
 have hown2:(relabel scope X.env).names.lookup z=some .local:=fS S.own2
 have loop:codeAny (model X.prog X.w) X.A (.compLoop (.ListComp elt [⟨.Tuple [.Name x px,.Name z pz] ek ep,iter,ifs,0⟩] scope pos) 0 (.ref it) (.ref D) (compEnvC scope (cq scope.names X.env.cells []) C X.env)) (RR (.ref D) C)
   {s2 with heap:=h₁,toks:=s2.toks+([]:List (Str×Gt)).length}:=by
  have fin:∀{H':Hp}{v w:Option V}{s':IQ},Inv (aM X scope C (x::z::ys) s3 H3 fp) [] (v::w::aR σ is) H' s'->Q (.ref D) H'->RR (.ref D) C (.ok .next) s':=fun{H' v w s'} J q=>by
   obtain⟨m',hm',_⟩:=J.loc
   have hCL:C≠X.env.locals:=KQ (by rw[<-hC];exact Jb I3.lt)
   have back:∀h',Kh C s'.heap h'->Inv X pins σ H' {s' with heap:=h'}:=fun h' hs'=>by
    have os':s'.os=s3.os:=J.os
    refine I3.call' (s':={s' with heap:=h'}) (ch:=fp) os' ⟨fun b o e n hb hx=>?_,fun b o e n hb hx=>?_,fun b o e n hx=>J.base.free b o e n hx,fun b o e hx=>?_,J.base.tups,J.base.frzs,J.base.tbls⟩ (fun b o e=>?_) J.bare fun b hb=>?_
    ·exact hs'.extBut b o (by rw[<-hC];exact Jb (IS e)) (J.base.keep b o e n hb hx)
    ·obtain⟨sl,e1⟩:=J.base.slot b o e n hb hx
     exact⟨sl,hs'.extBut b _ (by rw[<-hC];exact Jb (IS e)) e1⟩
    ·obtain⟨o',e1⟩:=J.base.there b o e hx
     exact⟨o',hs'.extBut b _ (by rw[<-hC];exact Jb (IS e)) e1⟩
    ·refine(J.hok b o e).stay (fun c w' hc q=>(hs'.2 c ?_).trans q) (fun _ q=>q) fun _ _ q=>q
     have fC:H' C=none:=J.free
     rintro rfl
     rcases hc with rfl|hc
     ·rw[fC]at e;cases e
     ·rw[fC]at hc;cases hc
    ·obtain⟨_,a1,_,a2,a3,a4⟩:=f2 b hb
     exact⟨a2,a1,a3,a4⟩
   refine hRR D C H' s' ⟨by rw[<-hC];exact I3.sz,fun p hp=>by rw[<-hC];exact Jb (IS (I3.pin p hp).1)⟩ ⟨m',hm'⟩ hCL J.free ?_ back q
   have:=back s'.heap (.refl ..)
   exact this
  have stat:∀{H':Hp},(∀b∈fp,H' b=none)->∀b∈fp,fA (aM X scope C (x::z::ys) s3 H3 fp) [] H' b:=fun hn b hb=>by
   obtain⟨_,a1,a5,a2,a3,a4⟩:=f2 b hb
   refine⟨hn b hb,Jb (fp3 b hb).2,fun z=>?_,.inl hb,fun y c e=>a3 y c (hcells e),fun p hp=>absurd (show p∈([]:List (Addr×Obj))from hp) (by simp)⟩
   rcases IY.mp (I3.stkSub b z)with q|q
   ·exact a1 q
   ·exact a5 q
  have turnAt:∀n s,(∃i v w ys' H',Inv (aM X scope C (x::z::ys) s3 H3 fp) [] (v::w::aR σ is) H' s/\tn i s.heap/\(∀b∈fp,H' b=none)/\W i n ys' H')->
    wpAny (model X.prog X.w) X.A (pyNext (.ref it)) (fun r s₁=>match r with
     |none=>RR (.ref D) C (.ok .next) s₁
     |some u=>wpAny (model X.prog X.w) X.A (letOwnedTupleGo (.Tuple [.Name x px,.Name z pz] ek ep) (.ref it) u) (fun _ s₁=>wpAny (model X.prog X.w) X.A (assign (.Tuple [.Name x px,.Name z pz] ek ep) (compEnvC scope (cq scope.names X.env.cells []) C X.env) u) (fun _ s₂=>
      ∃(x0 x1:V)(i:Nat)(ys':List V)(H3' H6:Hp)(pl:List (Addr×Obj)),Inv (aM X scope C (x::z::ys) s3 H3 fp) ([]++pl) (some x0::some x1::aR σ is) H6 s₂/\
       (∀s7 v7 w7 H7,Inv (aM X scope C (x::z::ys) s3 H3 fp) ([]++pl) (v7::w7::aR σ is) H7 s7->Inv (aM X scope C (x::z::ys) s3 H3 fp) [] (v7::w7::aR σ is) H7 s7/\tn (i+1) s7.heap/\∀b∈fp,H7 b=none)/\
       (tc (some x0::some x1::aR σ is) H6 fun b H4=>if b=true then te (some x0::some x1::aR σ is) H4 fun y H5=>H5 D=some (.lst ys')/\ys'.length<sizeLine/\∃m',m'<n/\W (i+1) m' (ys'++[y]) (upd H5 D (.lst (ys'++[y])))
        else ∃m',m'<n/\W (i+1) m' ys' H4)) (fun _ _=>False) s₁) (fun _ _=>False) s₁) (fun _ _=>False) s:=by
   rintro n s ⟨i,v,w,ys',H',J,st,fr,w'⟩
   rcases turn i n ys' H' w' with⟨stop,qn⟩|⟨go,step⟩
   ·refine thn (T.done (aM X scope C (x::z::ys) s3 H3 fp) rfl rfl rfl hc i [] s _ H' (fun _ _=>False) J (stat fr) st stop) fun r s4 ⟨hr,J4⟩=>?_
    subst hr
    exact fin J4 qn
   ·refine thn (T.item (aM X scope C (x::z::ys) s3 H3 fp) rfl rfl rfl hc i [] s _ H' (fun _ _=>False) J (stat fr) st go) fun r s4 ⟨u,hr,h4⟩=>?_
    subst hr
    refine thn h4 fun _ s5 ⟨xx,H5,J5,r5,y5,st5,fr5⟩=>?_
    have J5':=J5.pinned (stat fr5) (T.obj _ _ st5)
    obtain⟨ta,x0,x1,rfl,hta,hstep⟩:=step xx H5 y5
    have pg:PG (aM X scope C (x::z::ys) s3 H3 fp) (.Tuple [.Name x px,.Name z pz] ek ep) (iR X.K 2 (bN (au 0) (bN (au 1) gD))):=pP hc (cK (cV (i:=0) S.nd rfl (.inl hown) (.inr hown)) (cK (cV (i:=1) S.nd rfl (.inl hown2) (.inr hown2)) jB))
    refine thn (pg _ s5 _ H5 (.ref ta) u (fun σ' H'=>σ'=some x0::some x1::aR σ is/\H'=H5) J5' r5 ⟨ta,_,rfl,hta,rfl,_,_,rfl,_,_,rfl,rfl,rfl,rfl⟩) fun _ s6 ⟨σ6,H6,J6,e6,e7⟩=>?_
    subst e6 e7
    refine⟨x0,x1,i,ys',H6,H6,hU fp s5.heap,J6,fun s7 v7 w7 H7 J7=>⟨J7.unpinned,T.keep _ _ _ st5 fun b hb o e=>(J7.pin (b,o) (Jv _ (Jv _ (dF hb e)))).1,fun b hb=>?_⟩,hstep⟩
    obtain⟨o,e,d⟩:=T.obj _ _ st5 b hb
    exact(J7.pin (b,o) (Jv _ (Jv _ (dF hb e)))).2.1
  have start0:∃i v w ys' H',Inv (aM X scope C (x::z::ys) s3 H3 fp) [] (v::w::aR σ is) H' {s2 with heap:=h₁,toks:=s2.toks+([]:List (Str×Gt)).length}/\tn i h₁/\(∀b∈fp,H' b=none)/\W i m0 ys' H':=
   ⟨0,none,none,[],H3,I4,st4,fun b hb=>(fp3 b hb).1,w0⟩
  have emit:∀(n:Nat)(x0 x1:V)(i:Nat)(ys':List V)(H4:Hp)(pl:List (Addr×Obj))(s₂:IQ),Inv (aM X scope C (x::z::ys) s3 H3 fp) ([]++pl) (some x0::some x1::aR σ is) H4 s₂->
    (∀s7 v7 w7 H7,Inv (aM X scope C (x::z::ys) s3 H3 fp) ([]++pl) (v7::w7::aR σ is) H7 s7->Inv (aM X scope C (x::z::ys) s3 H3 fp) [] (v7::w7::aR σ is) H7 s7/\tn (i+1) s7.heap/\∀b∈fp,H7 b=none)->
    (te (some x0::some x1::aR σ is) H4 fun y H5=>H5 D=some (.lst ys')/\ys'.length<sizeLine/\∃m',m'<n/\W (i+1) m' (ys'++[y]) (upd H5 D (.lst (ys'++[y]))))->
    wpAny (model X.prog X.w) X.A (eval elt (compEnvC scope (cq scope.names X.env.cells []) C X.env)) (fun y s₃=>wpAny (model X.prog X.w) X.A (call (.builtin "list.append") [.ref D,y]) (fun _ s₄=>
     ∃m,m<n/\∃i v w ys' H',Inv (aM X scope C (x::z::ys) s3 H3 fp) [] (v::w::aR σ is) H' s₄/\tn i s₄.heap/\(∀b∈fp,H' b=none)/\W i m ys' H') (fun _ _=>False) s₃) (fun _ _=>False) s₂:=by
   intro n x0 x1 i ys' H4 pl s₂ J2 back q
   refine thn (he C s3 H3 fp ([]++pl) s₂ _ H4 _ J2 q) fun y s₃ ⟨yv,H5,J3,r3,q1,q2,q3⟩=>?_
   refine thn (bG (X:=aM X scope C (x::z::ys) s3 H3 fp) ([]++pl) s₃ _ H5 (.ref D) [yv] (.ref D) [y] (fun v H7=>v=.non/\H7=upd H5 D (.lst (ys'++[yv]))) J3 rfl (.cons r3 .nil) ⟨D,ys',yv,rfl,rfl,q1,q2,rfl,rfl⟩) fun _ s₄ ⟨_,H7,J4,_,_,e7⟩=>?_
   subst e7
   obtain⟨m',hm',w'⟩:=q3
   obtain⟨b1,b2,b3⟩:=back s₄ _ _ _ J4
   exact⟨m',hm',i+1,some x0,some x1,ys'++[yv],_,b1,b2,b3,w'⟩
  have ex0:∀{α:Type}{t:Sem α}{Q':α->IQ->Prop}{E':Gt->IQ->Prop}{s:IQ},wpAny (model X.prog X.w) X.A t Q' (fun _ _=>False) s->wpAny (model X.prog X.w) X.A t Q' E' s:=fun h=>Ju h (fun _ _ q=>q) fun _ _ q=>q.elim
  cases ifs with
  |nil=>
   have htc:tc=fun _ H Q=>Q true H:=hif C s3 H3 fp
   subst htc
   refine fg (fun n s=>∃i v w ys' H',Inv (aM X scope C (x::z::ys) s3 H3 fp) [] (v::w::aR σ is) H' s/\tn i s.heap/\(∀b∈fp,H' b=none)/\W i n ys' H') (fun n s hI=>?_) m0 start0
   refine Ju (turnAt n s hI) (fun r s₁ h₁=>?_) fun _ _ q=>q.elim
   cases r with
   |none=>exact h₁
   |some u=>
    refine Ju h₁ (fun _ s₁ h₁=>Ju h₁ (fun _ s₂ h₂=>?_) fun _ _ q=>q.elim) fun _ _ q=>q.elim
    obtain⟨x0,x1,i,ys',_,H6,pl,J2,back,q⟩:=h₂
    dsimp only at q
    rw[if_pos rfl]at q
    exact Ju (emit n x0 x1 i ys' H6 pl s₂ J2 back q) (fun y s₃ h₃=>ex0 h₃) fun _ _ q=>q.elim
  |cons c r0=>
   cases r0 with
   |cons _ _=>exact(hif C s3 H3 fp).elim
   |nil=>
    have hpt:PT (aM X scope C (x::z::ys) s3 H3 fp) c tc:=hif C s3 H3 fp
    refine fj (fun n s=>∃i v w ys' H',Inv (aM X scope C (x::z::ys) s3 H3 fp) [] (v::w::aR σ is) H' s/\tn i s.heap/\(∀b∈fp,H' b=none)/\W i n ys' H') (fun n s hI=>?_) m0 start0
    refine Ju (turnAt n s hI) (fun r s₁ h₁=>?_) fun _ _ q=>q.elim
    cases r with
    |none=>exact h₁
    |some u=>
     refine Ju h₁ (fun _ s₁ h₁=>Ju h₁ (fun _ s₂ h₂=>?_) fun _ _ q=>q.elim) fun _ _ q=>q.elim
     obtain⟨x0,x1,i,ys',_,H6,pl,J2,back,q⟩:=h₂
     refine Ju (hpt ([]++pl) s₂ _ H6 _ J2 q) (fun b s₃ h₃=>?_) fun _ _ q=>q.elim
     obtain⟨H4,J4,q4⟩:=h₃
     cases b with
     |true=>
      rw[if_pos rfl]at q4⊢
      exact Ju (emit n x0 x1 i ys' H4 pl s₃ J4 back q4) (fun y s₃ h₃=>ex0 h₃) fun _ _ q=>q.elim
     |false=>
      rw[if_neg Jc]at q4⊢
      obtain⟨m',hm',w'⟩:=q4
      obtain⟨b1,b2,b3⟩:=back s₃ _ _ _ J4
      exact⟨m',hm',i+1,some x0,some x1,ys',_,b1,b2,b3,w'⟩
 exact Re loop (T.self X.A 0 _ _ _ st4 loop)
end
section
variable {X:Cx}
def vj {scope:Scope}{x z:Str}{ys:List Str}{is:List Nat}(ok:X.Ok)(S:fZ scope x z ys)(hcap:fc X scope ys is):closureFor scope X.env=pure (cq scope.names X.env.cells []):=
 jr fun y hy hk=>by
  obtain⟨c,e⟩:=ok.has y.1 (gK hcap (S.all y hy hk))
  rw[e];rfl
def xr {elt iter:Expr}{ifs:List Expr}{x z:Str}{px pz ep pos:Pos}{ek:Nat}{scope:Scope}{ys:List Str}{is:List Nat}{wi:TI}{tc:TT}{te:TE}
  (hc:X.calm=true)(S:fZ scope x z ys)(hcap:fc X scope ys is)(hi:PI X (.Tuple [.Name x px,.Name z pz] ek ep) iter wi)
  (hif:∀C s H fp,pC (aM X scope C (x::z::ys) s H fp) ifs tc)(he:∀C s H fp,PE (aM X scope C (x::z::ys) s H fp) elt te)
  (hs:∀x,foldedSetIterable iter X.env x=pure x:=by intro _;rfl):PE X (.ListComp elt [⟨.Tuple [.Name x px,.Name z pz] ek ep,iter,ifs,0⟩] scope pos) (oM X.K is wi tc te):=by
 intro pins s σ H Q I h
 rw[eval_ListComp]
 refine Qz (use:=none) rfl hs (vj I.ok S hcap) S.kind S.names (thn (hi pins s σ H _ I h) fun v s1 h1=>thn h1 fun itv s2 h2=>?_)
 obtain⟨it,fp,tn,J,H2,rfl,I2,T,st2,f2,hW⟩:=h2
 refine rN (RR:=fun acc C=>compPost (model X.prog X.w) X.A X.xe none (EP X pins σ Q) acc C) hc S hcap hif he I2 T st2 f2 hW ?_
 intro D C H' s' hlt hns hne hfr I' back q
 obtain⟨m,hm⟩:=hns
 exact⟨m,hm,fun h' hs'=>⟨.ref D,H',back h' hs',rfl,q⟩⟩
end
section
variable {X:Cx}{iter elt:Expr}{wi:TI}{te:TE}{ifs:List Expr}{scope:Scope}{ys:List Str}{is:List Nat}{px pz py ep pos spos:Pos}{ek:Nat}{x y z:Str}
def Ah {tcn:TT}(S:fZ scope x z ys)(hcap:fc X scope ys is)(hi:QI X (.Tuple [.Name x px,.Name z pz] ek ep) iter wi)
 (hif:∀C s H fp,wQ (aM X scope C (x::z::ys) s H fp) ifs tcn)(he:∀C s H fp,QE (aM X scope C (x::z::ys) s H fp) elt te)(hc:X.calm=true:=by rfl)
 (hs:∀x,foldedSetIterable iter X.env x=pure x:=by intro _;rfl):QE X (.ListComp elt [⟨.Tuple [.Name x px,.Name z pz] ek ep,iter,ifs,0⟩] scope pos) (oM X.K is wi tcn te):=⟨xr hc S hcap hi.out (fun C s H fp=>(hif C s H fp).out) (fun C s H fp=>(he C s H fp).out) hs⟩
end
end L2
namespace HT
open PySem PyProof.Rows
section
variable {prog:Jd}{w:JL}{A:JK}{E:Gt->IQ->Prop}{s:IQ}
def vI {it l:Addr}{i:Nat}{items:Array Gt}{x:Gt}{Q:Gt->IQ->Prop}(hit:s.heap.IsRevIter it l (i:Int))(hl:s.heap.IsList l items)(hx:items[i]?=some x)
  (hQ:∀h',h'.IsRevIter it l ((i:Int)- 1)->Kh it s.heap h'->Q x {s with heap:=h'}):wpAny (model prog w) A (IZ (.ref it)) Q E s:=by
 obtain⟨o,ho,hc,hd⟩:=id hit
 obtain⟨ol,hol,_,nl,hdl⟩:=hl
 unfold IZ
 refine cW (Jj (name:=JM "__next__") hit.typeIs NO
  (Jo NO hit.typeIs Sn ?_ (Sa _)))
 unfold KF.«list_reverseiterator.__next__»
 refine cW (KZ (a:=(Ji it,[])) rfl ?_)
 try dsimp only
 refine cW (Jh ho hd (x:=rawInt (i:Int)) rfl ?_)
 show wpAny _ _ (if (i:Int)<0 then _ else _) _ _ s
 rw[if_neg (by omega)]
 show wpAny _ _ (field (.ref it) 0>>=_) _ _ s
 refine cW (Jh ho hd (x:=.ref l) rfl ?_)
 show wpAny _ _ (seqItems? (.ref l)>>=_) _ _ s
 refine cW (JH hol hdl ?_)
 simp only[Kb,hx]
 refine cW (Lm ho hd (by simp) ?_)
 first
 |refine tx ⟨x,rfl,tx (hQ _ ?_ (JN ..))⟩
 |refine cW (tx (tx ⟨x,rfl,tx (hQ _ ?_ (JN ..))⟩))
 exact⟨_,JC _ ho (Kz (JO hd _)),(Me ..).trans hc,by
  rw[JO hd];simp⟩
def oO {it l:Addr}{Q:Gt->IQ->Prop}(hh:A.handled=none)(hit:s.heap.IsRevIter it l (-1))
  (hE:∀h' e,MP it s.heap h'->(∃o,h'.get? e=some o/\o.cls=.type "StopIteration")->E (.ref e) {s with heap:=h'}):wpAny (model prog w) A (IZ (.ref it)) Q E s:=by
 obtain⟨o,ho,hc,hd⟩:=id hit
 unfold IZ
 refine cW (Jj (name:=JM "__next__") hit.typeIs NO
  (Jo NO hit.typeIs Sn ?_ (Sa _)))
 unfold KF.«list_reverseiterator.__next__»
 refine cW (KZ (a:=(Ji it,[])) rfl ?_)
 try dsimp only
 refine cW (Jh ho hd (x:=rawInt (-1)) rfl ?_)
 show wpAny _ _ (if (-1:Int)<0 then _ else _) _ _ s
 rw[if_pos (by decide)]
 refine cW (KY ?_)
 first
 |show wpAny _ _ (newExc (.type "StopIteration") []>>=_) _ _ _
 |(refine cW ?_;show wpAny _ _ (newExc (.type "StopIteration") []>>=_) _ _ _)
 refine cW ?_
 simp only[newExc,newTuple]
 refine cW (JF ?_ (by size_fits))
 refine cW (m:=firstArgMember _ _) (KZ (a:=Kk) (by first|rfl|(simp only[firstArgMember];rfl)) ?_)
 refine JF ?_ (by size_fits)
 simp only[raiseNew]
 refine cW (OH ?_)
 first|rw[show A.in1.handled=none from hh]|rw[hh]
 refine cW (tx (PY ?_))
 exact hE _ _ (((Heap.ExtBut.refl _ _).push _).push _) ⟨_,IT _ rfl,rfl⟩
def vk {it t:Addr}{i:Nat}{items:Array Gt}{x:Gt}{Q:Gt->IQ->Prop}(hit:cY s.heap it t (i:Int))(ht:NP s.heap t items)(hz:(items.size:Int)<2^63)(hx:items[i]?=some x)
  (hQ:∀h',cY h' it t ((i:Int)- 1)->Kh it s.heap h'->Q x {s with heap:=h',toks:=s.toks+1}):wpAny (model prog w) A (IZ (.ref it)) Q E s:=by
 have hi:i<items.size:=by
  rcases LK i items.size with h|h
  ·exact h
  ·rw[Lk h]at hx;cases hx
 unfold IZ
 refine cW (Jj (name:=JM "__next__") hit.typeIs cC
  (Jo cC hit.typeIs fF ?_ (fX _)))
 unfold KF.«reversed.__next__»
 refine cW (KZ (a:=(Ji it,[])) rfl ?_)
 try dsimp only
 refine cW (Jh hit rfl (x:=.ref t) rfl ?_)
 refine cW (Jh hit rfl (x:=rawInt (i:Int)) rfl ?_)
 show wpAny _ _ (if (i:Int)<0 then _ else _) _ _ s
 rw[if_neg (by omega)]
 refine cW (LL (r:=some (.builtin "tuple.__getitem__")) ht.typeIs slot_tuple_getitem.lookup ?_)
 rw[if_neg (by simp)]
 refine cW (RU ?_)
 refine cW (Kn (QV (j:=i) (x:=x) ht (by omega) (by omega) ?_ hx ?_))
 ·unfold seqIndex?
  simp
  omega
 ·refine cW (Jh (s:={s with toks:=s.toks+1}) hit rfl (x:=rawInt (i:Int)) rfl ?_)
  refine cW (Jx hit (by simp) fun h' y sb=>?_)
  exact tx ⟨x,rfl,tx (hQ h' y sb)⟩
structure lm (h:Heap)(z TI TO i1 i2 l t:Addr)(f0:Gt)(j:Int):Prop where
 z:MU h z TI TO f0
 ti:KA h TI (.ref i1) (.ref i2)
 to:∃a b,KA h TO a b
 j1:h.IsRevIter i1 l j
 j2:cY h i2 t j
def sX {z TI TO i1 i2 t1 t2:Addr}{k:Nat}{xs ys:Array Gt}{x y:Gt}{Q:Option Gt->IQ->Prop}(D:LU z TI TO i1 i2 t1 t2)(Z:lm s.heap z TI TO i1 i2 t1 t2 .none (k:Int))
  (ht1:s.heap.IsList t1 xs)(ht2:NP s.heap t2 ys)(hz2:(ys.size:Int)<2^63)(hx:xs[k]? =some x)(hy:ys[k]? =some y)
  (hQ:∀h',lm h' z TI TO i1 i2 t1 t2 (rawInt s.heap.objs.size) ((k:Int)- 1)->KA h' s.heap.objs.size x y->
   (∀c o,c≠z->c≠TO->c≠i1->c≠i2->s.heap.get? c=some o->h'.get? c=some o)->Q (some (.ref s.heap.objs.size)) {s with heap:=h',toks:=s.toks+1}):
  wpAny (model prog w) A (pyNext (.ref z)) Q E s:=by
 obtain⟨hz,hTI,⟨a,b,hTO⟩,h1,h2⟩:=Z
 have hT:s.TypeIs (.ref z) "zip":=⟨_,hz,rfl⟩
 unfold pyNext
 refine cW (Kn (Jj (name:=JM "__next__") hT Ki (Jo Ki hT LV ?_ (LH _))))
 show wpAny _ _ (field (.ref z) 2 >>= _) _ _ _
 refine cW (Jh hz rfl (x:=.bool false) rfl ?_)
 show wpAny _ _ (field (.ref z) 3 >>= _) _ _ _
 refine cW (Jh hz rfl (x:=.ref TI) rfl (cW (JH hTI rfl ?_)))
 show wpAny _ _ (Ja (.ref z) >>= _) _ _ _
 refine cW ?_
 unfold Ja
 refine cW (Jh hz rfl (x:=.none) rfl (tx ?_))
 simp only[if_true]
 refine cW (KY (cW (Jh hz rfl (x:=.ref TO) rfl (cW (Jx hz (by simp) fun ha hza hsa=>cW ?_)))))
 replace hza:MU ha z TI TO .ellipsis:=hza
 simp only[Mk,Mu,KU,LA]
 refine cW (cW (LB ?_))
 show wpAny _ _ (IZ (.ref i1) >>= _) _ _ _
 refine cW (vI (h1.at fun o e=>hsa.extBut _ _ D.i1z e) (ht1.at fun o e=>hsa.extBut _ _ D.l1z e) hx fun hb h1b hsb=>tx ?_)
 have hTOb:KA hb TO a b:=hsb.extBut _ _ D.TOi1 (hsa.extBut _ _ D.TOz hTO)
 refine cW (JH hTOb rfl (cW (Lj hTOb fun hc hTOc hsc=>?_)))
 replace hTOc:KA hc TO x b:=hTOc
 refine cW (Mz (tx ?_))
 refine cW (cW (LB ?_))
 show wpAny _ _ (IZ (.ref i2) >>= _) _ _ _
 have h2c:cY hc i2 t2 (k:Int):=hsc.extBut _ _ D.TOi2.symm (hsb.extBut _ _ D.i12.symm (hsa.extBut _ _ D.i2z h2))
 have ht2c:NP hc t2 ys:=let ⟨o,e,r⟩:=ht2;⟨o,hsc.extBut _ _ D.l2TO (hsb.extBut _ _ D.l2i1 (hsa.extBut _ _ D.l2z e)),r⟩
 refine cW (vk (s:={s with heap:=hc}) h2c ht2c hz2 hy fun hd h2d hsd=>tx ?_)
 have hTOd:KA hd TO x b:=hsd.extBut _ _ D.TOi2 hTOc
 refine cW (JH hTOd rfl (cW (Lj hTOd fun he hTOe hse=>?_)))
 replace hTOe:KA he TO x y:=hTOe
 refine cW (Mz (tx (tx ?_)))
 refine cW (JH hTOe rfl (cW (Oo ?_)))
 have hsz:he.objs.size=s.heap.objs.size:=by rw[hse.1,hsd.1,hsc.1,hsb.1,hsa.1]
 have hze:MU he z TI TO .ellipsis:=hse.extBut _ _ D.TOz.symm (hsd.extBut _ _ D.i2z.symm (hsc.extBut _ _ D.TOz.symm (hsb.extBut _ _ D.i1z.symm hza)))
 have hke:∀c o,c≠z->c≠TO->c≠i1->c≠i2->s.heap.get? c=some o->he.get? c=some o:=fun c o c1 c2 c3 c4 e=>
  hse.extBut _ _ c2 (hsd.extBut _ _ c4 (hsc.extBut _ _ c2 (hsb.extBut _ _ c3 (hsa.extBut _ _ c1 e))))
 have h1e:he.IsRevIter i1 t1 ((k:Int)- 1):=h1b.at fun o e=>hse.extBut _ _ D.TOi1.symm (hsd.extBut _ _ D.i12 (hsc.extBut _ _ D.TOi1.symm e))
 have h2e:cY he i2 t2 ((k:Int)- 1):=hse.extBut _ _ D.TOi2.symm h2d
 show wpAny _ _ (JV (.ref z) (.ref he.objs.size) >>= _) _ _ _
 refine cW ?_
 unfold JV
 have hzf:MU (he.push {cls:=.type "tuple",data:=.seq #[x,y]}) z TI TO .ellipsis:=gV _ hze
 refine cW (Jx hzf (by simp) fun hg hzg hsg=>?_)
 replace hzg:MU hg z TI TO (rawInt he.objs.size):=hzg
 refine Jx hzg (by simp) fun hh hzh hsh=>?_
 replace hzh:MU hh z TI TO (rawInt he.objs.size):=hzh
 have up:∀c o,c≠z->he.get? c=some o->hh.get? c=some o:=fun c o c1 e=>hsh.extBut _ _ c1 (hsg.extBut _ _ c1 (gV _ e))
 have hTh:KA hh he.objs.size x y:=hsh.extBut _ _ (Kc (IS hze)) (hsg.extBut _ _ (Kc (IS hze)) (IT _ rfl))
 rw[hsz]at hzh hTh
 have fin:=hQ hh ⟨hzh,up _ _ D.TIz (hke _ _ D.TIz D.TITO D.TIi1 D.TIi2 hTI),⟨x,y,up _ _ D.TOz hTOe⟩,h1e.at fun o e=>up _ o D.i1z e,up _ _ D.i2z h2e⟩ hTh fun c o c1 c2 c3 c4 e=>up c o c1 (hke c o c1 c2 c3 c4 e)
 rw[<-hsz]at fin
 exact tx ⟨_,rfl,tx fin⟩
def wo {z TI TO i1 i2 t1 t2:Addr}{Q:Option Gt->IQ->Prop}(hh:A.handled=none)(D:LU z TI TO i1 i2 t1 t2)(Z:lm s.heap z TI TO i1 i2 t1 t2 .none (-1))
  (hQ:∀h',(∀c o,c≠z->c≠TO->c≠i1->c≠i2->s.heap.get? c=some o->h'.get? c=some o)->Q none {s with heap:=h'}):wpAny (model prog w) A (pyNext (.ref z)) Q E s:=by
 obtain⟨hz,hTI,⟨a,b,hTO⟩,h1,h2⟩:=Z
 have hT:s.TypeIs (.ref z) "zip":=⟨_,hz,rfl⟩
 have fin:∀h' e,(∀c o,c≠z->c≠TO->c≠i1->c≠i2->s.heap.get? c=some o->h'.get? c=some o)->(∃o,h'.get? e=some o/\o.cls=.type "StopIteration")->
   wpAny (model prog w) A (do if<-isInstance (.ref e) (.type "StopIteration")then pure none else throw (.ref e)) Q E {s with heap:=h'}:=fun h' e hk ⟨o,ho,hc⟩=>
  cW (LY (T:="StopIteration") (b:=true) ⟨o,ho,hc⟩ Nu (tx (hQ _ hk)))
 unfold pyNext
 refine cW (Kn (Jj (name:=JM "__next__") hT Ki (Jo Ki hT LV ?_ (LH _))))
 show wpAny _ _ (field (.ref z) 2>>=_) _ _ _
 refine cW (Jh hz rfl (x:=.bool false) rfl ?_)
 show wpAny _ _ (field (.ref z) 3>>=_) _ _ _
 refine cW (Jh hz rfl (x:=.ref TI) rfl (cW (JH hTI rfl ?_)))
 show wpAny _ _ (Ja (.ref z)>>=_) _ _ _
 refine cW ?_
 unfold Ja
 refine cW (Jh hz rfl (x:=.none) rfl (tx ?_))
 simp only[if_true]
 refine cW (KY (cW (Jh hz rfl (x:=.ref TO) rfl (cW (Jx hz (by simp) fun ha hza hsa=>cW ?_)))))
 replace hza:MU ha z TI TO .ellipsis:=hza
 simp only[Mk,Mu,KU,LA]
 refine cW (cW (LB ?_))
 show wpAny _ _ (IZ (.ref i1)>>=_) _ _ _
 refine cW (oO hh (h1.at fun o e=>hsa.extBut _ _ D.i1z e) fun hb e hsb he=>?_)
 obtain⟨oe,hoe,hce⟩:=he
 have hzb:MU hb z TI TO .ellipsis:=hsb _ _ D.i1z.symm hza
 have hez:e≠z:=fun x=>by subst x;rw[hzb]at hoe;cases hoe;simp at hce
 exact Jx hzb (by simp) fun hc _ hsc=>fin hc e (fun c o c1 _ c3 _ x=>hsc.extBut _ _ c1 (hsb _ _ c3 (hsa.extBut _ _ c1 x))) ⟨oe,hsc.extBut _ _ hez hoe,hce⟩
end
abbrev rh1 (h:Heap)(i1 i2:Addr):Heap:=h.push {cls:=.type "tuple",data:=.seq #[.ref i1,.ref i2]}
abbrev rh2 (h:Heap)(i1 i2:Addr):Heap:=(rh1 h i1 i2).push {cls:=.type "tuple",data:=.seq #[.none,.none]}
abbrev rh3 (h:Heap)(i1 i2:Addr):Heap:=(rh2 h i1 i2).push {cls:=.type "zip",data:=.fields #[.none,.bool false,.bool false,.ref h.objs.size,.ref (rh1 h i1 i2).objs.size]}
def xp (i1 i2 t1 t2:Addr)(j1 j2:Int):
  Meets (KF.«zip.__new__» ⟨[.type "zip",.ref i1,.ref i2],[]⟩) (fun _ R s=>s.heap.IsRevIter i1 t1 j1/\cY s.heap i2 t2 j2/\R (.ok (.ret (.ref (rh2 s.heap i1 i2).objs.size))) {s with heap:=rh3 s.heap i1 i2}):=
 .of_wp fun prog w A R s h=>by
  obtain⟨hp,g,d,tk,os⟩:=s;obtain⟨hl1,hl2,h⟩:=h
  have hsub:=sub_zip
  have hL1:Heap.IsRevIter (Nd ⟨hp,g,d,tk,os⟩) i1 t1 j1:=hl1
  have hL2:cY (Nd ⟨hp,g,d,tk,os⟩) i2 t2 j2:=hl2
  wp_walk using Og hL1,kC hL2
  exact⟨_,rfl,h⟩
section
variable {prog:Jd}{w:JL}{A:JK}{E:Gt->IQ->Prop}{s:IQ}
def ua {i1 i2 t1 t2:Addr}{j:Int}{Q:Gt->IQ->Prop}(hl1:s.heap.IsRevIter i1 t1 j)(hl2:cY s.heap i2 t2 j)
  (h:∀h',lm h' (s.heap.objs.size+2) s.heap.objs.size (s.heap.objs.size+1) i1 i2 t1 t2 .none j->(∀c o,s.heap.get? c=some o->h'.get? c=some o)->Q (.ref (s.heap.objs.size+2)) {s with heap:=h'}):
  wpAny (model prog w) A (call (.type "zip") [.ref i1,.ref i2]) Q E s:=by
 refine Pg QR (by decide) (Pa _ _) (Pz _ _) (fun obj=>NX obj _ _) PB (xp i1 i2 t1 t2 j j) ⟨hl1,hl2,?_⟩
 have z1:(rh1 s.heap i1 i2).objs.size=s.heap.objs.size+1:=JG ..
 have z2:(rh2 s.heap i1 i2).objs.size=s.heap.objs.size+2:=by rw[JG,z1]
 have g3:(rh3 s.heap i1 i2).get? (rh2 s.heap i1 i2).objs.size=some _:=IT _ rfl
 have g2:(rh3 s.heap i1 i2).get? (rh1 s.heap i1 i2).objs.size=some _:=gV _ (IT _ rfl)
 have g1:(rh3 s.heap i1 i2).get? s.heap.objs.size=some _:=gV _ (gV _ (IT _ rfl))
 have up:∀c o,s.heap.get? c=some o->(rh3 s.heap i1 i2).get? c=some o:=fun c o x=>gV _ (gV _ (gV _ x))
 show _/\_
 rw[z1,z2]at g3
 rw[z1]at g2
 rw[z2]
 exact⟨⟨_,g3,rfl⟩,h _ ⟨g3,g1,⟨_,_,g2⟩,hl1.at fun o e=>up _ o e,up _ _ hl2⟩ up⟩
end
end HT
namespace L2
open PySem PySem.Spec PyProof.Rows
def lK (K:If)(a b:Addr)(n:Nat):It where
 go:=fun i H=>i<n/\∃xs ys,SqL K H a xs/\SqT K H b ys/\xs.length=n/\ys.length=n
 yld:=fun i H v H'=>∃p,v=.ref p/\H p=none/\∀xs ys,SqL K H a xs->SqT K H b ys->∃x y,xs[n- 1- i]?=some x/\ys[n- 1- i]?=some y/\H'=upd H p (.tup [x,y])
 stop:=fun i _=>n<=i
def uL {P:Jd}{w:JL}{K:If}{elts:List Expr}{ek:Nat}{ep:Pos}(a b z TI TO i1 i2:Addr)(n:Nat)(D:LU z TI TO i1 i2 a b):
  fW P w K (.Tuple elts ek ep) (lK K a b n) [z,TI,TO,i1,i2] z (fun i h=>i<=n/\HT.lm h z TI TO i1 i2 a b .none ((n:Int)- 1- i))where
 mem:=by simp
 obj:=fun i h st c hc=>by
  obtain⟨_,hz,hTI,⟨x,y,hTO⟩,⟨o1,e1,c1,d1⟩,e2⟩:=st
  simp only[IY,Jl,or_false]at hc
  rcases hc with rfl|rfl|rfl|rfl|rfl
  ·exact⟨_,hz,fun v q=>by cases q⟩
  ·exact⟨_,hTI,fun v q=>by cases q⟩
  ·exact⟨_,hTO,fun v q=>by cases q⟩
  ·exact⟨o1,e1,fun v q=>by rw[d1]at q;cases q⟩
  ·exact⟨_,e2,fun v q=>by cases q⟩
 keep:=fun i h h' st k=>by
  obtain⟨hi,hz,hTI,⟨x,y,hTO⟩,h1,h2⟩:=st
  exact⟨hi,k z (by simp) _ hz,k TI (by simp) _ hTI,⟨x,y,k TO (by simp) _ hTO⟩,h1.at fun o e=>k i1 (by simp) o e,k i2 (by simp) _ h2⟩
 item:=by
  intro X hP hw hK hc i pins s σ H E I hf st hg
  subst hP hw hK
  obtain⟨hi,xs,ys,hx,hy,lx,ly⟩:=hg
  obtain⟨its,r1,p1,_⟩:=I.list hx
  obtain⟨its2,r2,p2,hz2⟩:=I.tuple hy
  have l2:=r2.length
  obtain⟨x,ex⟩:∃x,xs[n- 1- i]?=some x:=⟨_,IR (by omega)⟩
  obtain⟨y,ey⟩:∃y,ys[n- 1- i]?=some y:=⟨_,IR (by omega)⟩
  obtain⟨u,gu,ru⟩:=r1.get ex
  obtain⟨u2,gu2,ru2⟩:=r2.get ey
  have st2:=st.2
  rw[show(n:Int)- 1- i=((n- 1- i:Nat):Int)by omega]at st2
  obtain⟨z1,z2,z3,z4,z5⟩:=id st2
  refine HT.sX (xs:=its.toArray) (ys:=its2.toArray) (x:=u) (y:=u2) D st2 p1.isList (show NP s.heap b its2.toArray from p2) (by rw[IX];rw[KB]at hz2;omega) (by simpa using gu) (by simpa using gu2) fun h1 Z1 hT hk=>?_
  obtain⟨y1,y2,y3,y4,y5⟩:=Z1
  refine⟨_,rfl,Nt (s:={s with heap:=h1,toks:=s.toks+1}) y1 fun h2 hz2 hs2=>?_⟩
  have Tn:∀c∈[z,TI,TO,i1,i2],c≠s.heap.objs.size:=fun c hc e=>by
   obtain⟨o,eo⟩:∃o,s.heap.get? c=some o:=by
    simp only[IY,Jl,or_false]at hc
    rcases hc with rfl|rfl|rfl|rfl|rfl
    ·exact⟨_,z1⟩
    ·exact⟨_,z2⟩
    ·obtain⟨_,_,q⟩:=z3;exact⟨_,q⟩
    ·obtain⟨_,q,_⟩:=z4;exact⟨_,q⟩
    ·exact⟨_,z5⟩
   have:=IS eo
   rw[e]at this;exact KG _ this
  have k2:∀c o,c∉[z,TI,TO,i1,i2]->s.heap.get? c=some o->h2.get? c=some o:=fun c o hc e=>by
   simp only[IY,Jl,or_false,not_or]at hc
   exact hs2.extBut _ _ hc.1 (hk c o hc.1 hc.2.2.1 hc.2.2.2.1 hc.2.2.2.2 e)
  have I1:Inv X pins σ H {s with heap:=h2,toks:=s.toks+1}:=I.turnedL k2 hf
  have hTz:s.heap.objs.size≠z:=fun e=>Tn z (by simp) e.symm
  have hT2:KA h2 s.heap.objs.size u u2:=hs2.extBut _ _ hTz hT
  have hfr:H s.heap.objs.size=none:=I.hok.fresh (IV _)
  have I2:Inv X pins σ (upd H s.heap.objs.size (.tup [x,y])) {s with heap:=h2,toks:=s.toks+1}:=
   Inv.track2 I I1 (IV _) hfr ⟨by show 2<=sizeLine;decide,[u,u2],.cons ru (.cons ru2 .nil),⟨_,hT2,rfl,_,rfl⟩⟩
  refine⟨.ref s.heap.objs.size,_,I2,rfl,⟨_,rfl,hfr,fun xs' ys' hx' hy'=>⟨x,y,by rw[I.list_inj hx' hx];exact ex,by rw[I.tuple_inj hy' hy];exact ey,rfl⟩⟩,⟨hi,?_⟩,fun c hc=>?_⟩
  ·rw[show(n:Int)- 1- ((i+1:Nat):Int)=((n- 1- i:Nat):Int)- 1 by omega]
   exact⟨hz2,hs2.extBut _ _ D.TIz y2,(let ⟨m,n,q⟩:=y3;⟨m,n,hs2.extBut _ _ D.TOz q⟩),y4.at fun o e=>hs2.extBut _ _ D.i1z e,hs2.extBut _ _ D.i2z y5⟩
  ·rw[ap (Tn c hc)];exact(hf c hc).1
 done:=by
  intro X hP hw hK hc i pins s σ H E I hf st hg
  subst hP hw hK
  have hg:n<=i:=hg
  have hi:=st.1
  have st2:=st.2
  rw[show(n:Int)- 1- i= -1 by omega]at st2
  refine HT.wo (I.ok.hd hc) D st2 fun h1 hk=>⟨rfl,I.turnedL (t':=s.toks) (fun c o hc e=>?_) hf⟩
  simp only[IY,Jl,or_false,not_or]at hc
  exact hk c o hc.1 hc.2.2.1 hc.2.2.2.1 hc.2.2.2.2 e
 self:=fun _ _ _ _ _ st h=>LX st.2.z h
def tL {n k c d:Nat}(h1:c<k)(h2:k<n)(h3:d<n)(h4:d≠k):LU (n+1+2) (n+1) (n+1+1) k n c d:=by
 constructor<;>(intro e;simp only[Addr]at*;omega)
section
variable {X:Cx}{a b:Expr}{ta tb:TA}{p p1 p2 pos pos1 pos2 ep:Pos}{elts:List Expr}{ek:Nat}
def yu (K:If)(ta tb:TA):TI:=fun σ H R=>ta σ H fun vs H1=>∃c xs,vs=[.ref c]/\SqL K H1 c xs/\tb σ H1 fun ws H2=>∃d ys zs,ws=[.ref d]/\SqL K H2 c zs/\SqT K H2 d ys/\zs.length=xs.length/\ys.length=xs.length/\R (lK K c d xs.length) H2
def AZ (hm:X.mg "zip"=none)(hm2:X.mg "reversed"=none)(ha:QA X [a] ta)(hb:QA X [b] tb)(hg:Gl X "zip":=by rfl)(hg2:Gl X "reversed":=by rfl)(hs:bh [a,b]=true:=by rfl):
  QI X (.Tuple elts ek ep) (.Call (.Name "zip" p) [.Call (.Name "reversed" p1) [a] [] pos1,.Call (.Name "reversed" p2) [b] [] pos2] [] pos) (yu X.K ta tb):=⟨fun pins s σ H R I h=>by
 have h':(bP a&&(bP b&&bh []))=true:=hs
 have ha':=(Jf.mp h').1
 have hb':=(Jf.mp (Jf.mp h').2).1
 refine Ke (eA I hg hm oa ?_ (by decide) (by decide))
 refine JP ?_ rfl rfl
 show wpAny _ _ (spliced ((false,eval (.Call (.Name "reversed" p1) [a] [] pos1) X.env)::backTo pos (starEach [.Call (.Name "reversed" p2) [b] [] pos2] X.env))) _ _ s
 refine MT ?_
 refine Ke (eA I hg2 hm2 gS ?_ (by decide) (by decide))
 refine JP (thn (ha.out pos1 pins s σ H _ I h) fun us s1 ⟨vs,H1,I1,r1,q1⟩=>?_)
  (bc ha' [] X.env) rfl
 obtain⟨c,xs,rfl,hx,q1⟩:=q1
 obtain⟨u,rfl,ru⟩:=dU r1
 cases ru
 obtain⟨its,rv,pl,_⟩:=I1.list hx
 have hl:=rv.length
 have ltc:c<s1.heap.objs.size:=by obtain⟨o,e,_⟩:=pl.isList;exact IS e
 refine Sk pl.isList ?_
 have I1b:Inv X pins σ H1 {s1 with heap:=s1.heap.push (revObj c ((its.toArray.size:Int)- 1)),toks:=s1.toks}:=I1.kept (t':=s1.toks) fun b o e=>gV _ e
 have fp1:∀b∈[s1.heap.objs.size],fA X pins H1 b:=fun b hb=>by
  have e:b=s1.heap.objs.size:=by simpa using hb
  subst e
  exact I1.fpOk (IV _) (I1.hok.fresh (IV _))
 have g1:(s1.heap.push (revObj c ((its.toArray.size:Int)- 1))).get? s1.heap.objs.size=some (revObj c ((its.toArray.size:Int)- 1)):=IT _ rfl
 have I1c:=I1b.pinned fp1 fun b hb=>by
  have e:b=s1.heap.objs.size:=by simpa using hb
  subst e
  exact⟨_,g1,fun v q=>by cases q⟩
 refine MT ?_
 refine Ke (eA I1c hg2 hm2 gS ?_ (by decide) (by decide))
 refine JP (thn (hb.out pos2 _ _ σ H1 _ I1c q1) fun us s2 ⟨vs,H2,I2,r2,q2⟩=>?_)
  (bc hb' [] X.env) rfl
 obtain⟨d,ys,zs,rfl,hz,hy,lz,ly,q⟩:=q2
 obtain⟨u,rfl,ru⟩:=dU r2
 cases ru
 obtain⟨its2,rv2,pt,hz2⟩:=I2.tuple hy
 have hl2:=rv2.length
 have ltd:d<s2.heap.objs.size:=by obtain⟨o,e,_⟩:=show NP s2.heap d its2.toArray from pt;exact IS e
 refine HT.fh (show NP s2.heap d its2.toArray from pt) (by rw[IX];rw[KB]at hz2;omega) ?_
 have g2:=(I2.pin (s1.heap.objs.size,revObj c ((its.toArray.size:Int)- 1)) (Jv _ (Jv _ (dF (JJ.mpr rfl) g1))))
 have fpq:=g2.2.1
 have lt1:=IS g2.1
 refine Oj ?_
 have e1:(its.toArray.size:Int)- 1=(xs.length:Int)- 1- ((0:Nat):Int):=by rw[IX];omega
 have e2:(its2.toArray.size:Int)- 1=(xs.length:Int)- 1- ((0:Nat):Int):=by rw[IX];omega
 have st1:(s2.heap.push (HT.iy d ((its2.toArray.size:Int)- 1))).IsRevIter s1.heap.objs.size c ((xs.length:Int)- 1- ((0:Nat):Int)):=
  ⟨_,gV _ g2.1,rfl,by rw[<-e1];rfl⟩
 have st2:HT.cY (s2.heap.push (HT.iy d ((its2.toArray.size:Int)- 1))) s2.heap.objs.size d ((xs.length:Int)- 1- ((0:Nat):Int)):=by
  show(s2.heap.push _).get? _=_
  rw[<-e2]
  exact IT _ rfl
 refine HT.ua (s:={s2 with heap:=s2.heap.push (HT.iy d ((its2.toArray.size:Int)- 1)),toks:=s2.toks+1+1}) st1 st2 fun h' Z hk=>?_
 refine LX Z.z ?_
 have sz:(s2.heap.push (HT.iy d ((its2.toArray.size:Int)- 1))).objs.size=s2.heap.objs.size+1:=JG ..
 have I3:Inv X pins σ H2 {s2 with heap:=h',toks:=s2.toks+1+1}:=I2.unpinned.kept (t':=s2.toks+1+1) fun b o e=>hk b o (gV _ e)
 refine⟨_,_,_,lK X.K c d xs.length,H2,rfl,I3,uL c d _ _ _ _ _ xs.length ?_,⟨Kf _,Z⟩,fun b hb=>?_,q⟩
 ·have l3:s1.heap.objs.size+1<=s2.heap.objs.size:=lt1
  show LU ((s2.heap.push _).objs.size+2) (s2.heap.push _).objs.size ((s2.heap.push _).objs.size+1) _ _ _ _
  rw[sz]
  refine tL ltc lt1 ltd fun e=>?_
  obtain⟨o,eo,co,_⟩:=show NP s2.heap d its2.toArray from pt
  rw[e,g2.1]at eo;cases eo;exact absurd (Ot co) (by decide)
 ·simp only[IY,Jl,or_false]at hb
  have new:s2.heap.objs.size<=b->fA X pins H2 b:=fun hl=>I2.unpinned.fpOk hl (I2.hok.fresh hl)
  rcases hb with rfl|rfl|rfl|rfl|rfl
  ·exact new (by show s2.heap.objs.size<=(s2.heap.push _).objs.size+2;rw[sz];omega)
  ·exact new (by show s2.heap.objs.size<=(s2.heap.push _).objs.size;rw[sz];omega)
  ·exact new (by show s2.heap.objs.size<=(s2.heap.push _).objs.size+1;rw[sz];omega)
  ·obtain⟨_,f1,f2,f3,f4,f5⟩:=fp1 _ (JJ.mpr rfl)
   exact⟨fpq,f1,f2,f3,f4,f5⟩
  ·exact new (IV _)⟩
end
def rq (K:If)(n:Nat)(t:TGs):TG:=fun v σ H Q=>∃a xs,v=.ref a/\SqL K H a xs/\xs.length=n/\t xs σ H Q
section
variable {X:Cx}{pos:Pos}
def zX {es:List Expr}{k:Nat}{t:TGs}{n:Nat}(hc:X.calm=true)(h:PGs X es t)
  (hn:(assignEach es X.env).length=n:=by rfl)(hst:(assignEach es X.env).findIdx? (·.1)=none:=by rfl):PG X (.Tuple es k pos) (rq X.K n t):=by
 intro pins s σ H v u Q I r hw
 obtain⟨a,xs,e1,hq,hl,hw⟩:=hw
 subst e1
 cases r
 obtain⟨its,rv,⟨o,m,e,hcl,_,hd⟩,hz⟩:=I.list hq
 have hL:s.heap.IsList a its.toArray:=⟨o,e,hcl,m,hd⟩
 have hs:(assignEach es X.env).length=its.toArray.size:=by simp[hn,<-hl,rv.length]
 rw[assign_Tuple]
 refine cW (NG ?_)
 unfold unpack
 rw[hs,hst]
 refine cW (Km (W.kun_itemsOf (I.ok.hd hc) hL fun h' hx=>?_))
 have I1:Inv X pins σ H {s with heap:=h'}:=I.kept (t':=s.toks) fun b o e=>hx b o (Jb (IS e)) e
 exact h pins _ σ H xs _ Q I1 (by simpa using rv) hw
end
end L2
namespace HS
open PySem PyProof.Rows
def RiseP (xs:Array Nat):Prop:=xs.toList.Pairwise (·<·)
def RiseP.at {xs:Array Nat}(R:RiseP xs){i j a b:Nat}(h:i<j)(ea:xs[i]?=some a)(eb:xs[j]?=some b):a<b:=by
 have R':=Pt.mp R
 obtain⟨hi,rfl⟩:=JT.mp ea
 obtain⟨hj,rfl⟩:=JT.mp eb
 have:=R' i j (by simpa using hi) (by simpa using hj) h
 simpa using this
theorem below_go {xs:Array Nat}(j:Nat)(R:RiseP xs):∀(f lo hi:Nat),hi- lo<=f->lo<=hi->hi<=xs.size->(∀i a,i<lo->xs[i]? =some a->a<j)->(∀i a,hi<=i->xs[i]? =some a->j<=a)->
  (∀i a,i<Mi xs j f lo hi->xs[i]? =some a->a<j)/\(∀i a,Mi xs j f lo hi<=i->xs[i]? =some a->j<=a)
 |0,lo,hi,h0,h1,_,hl,hr=>by
  have:lo=hi:=by omega
  subst this
  exact⟨hl,hr⟩
 |f+1,lo,hi,h0,h1,h2,hl,hr=>by
  unfold Mi
  by_cases hlt:lo<hi
  ·rw[if_pos hlt]
   dsimp only
   have hm:(lo+hi)/2<hi:=by omega
   have hm0:lo<=(lo+hi)/2:=by omega
   generalize (lo+hi)/2=mid at*
   have hms:mid<xs.size:=by omega
   have em:xs[mid]? =some xs[mid]:=Jp hms
   have eg:xs.getD mid j=xs[mid]:=by simp[NF,hms]
   rw[eg]
   by_cases hc:xs[mid]<j
   ·rw[if_pos hc]
    refine below_go j R f (mid+1) hi (by omega) (by omega) h2 (fun i a hi' ea=>?_) hr
    rcases LK i mid with hx|hx
    ·exact Qu (R.at hx ea em) hc
    ·have:i=mid:=by omega
     subst this;rw[em]at ea;cases ea;exact hc
   ·rw[if_neg hc]
    refine below_go j R f lo mid (by omega) hm0 (by omega) hl fun i a hi' ea=>?_
    rcases LK mid i with hx|hx
    ·have:=R.at hx em ea;omega
    ·have:i=mid:=by omega
     subst this;rw[em]at ea;cases ea;omega
  ·rw[if_neg hlt]
   have:lo=hi:=by omega
   subst this
   exact⟨hl,hr⟩
def below_ok {xs:Array Nat}(j:Nat)(R:RiseP xs):(∀i a,i<KJ xs j->xs[i]?=some a->a<j)/\(∀i a,KJ xs j<=i->xs[i]?=some a->j<=a):=
 below_go j R xs.size 0 xs.size (by omega) (by omega) (IV _) (fun i a h=>by omega) fun i a h e=>by
  obtain⟨hi,_⟩:=JT.mp e;omega
def rise_ins {xs:Array Nat}{j:Nat}(R:RiseP xs)(h:xs[KJ xs j]?≠some j):RiseP (SetTable.insertAt xs (KJ xs j) j):=by
 obtain⟨b1,b2⟩:=below_ok j R
 generalize KJ xs j=p at*
 unfold RiseP
 rw[SetTable.toList_insertAt]
 have lo:∀a∈xs.toList.take p,a<j:=fun a ha=>by
  obtain⟨i,hi,e⟩:=MK.mp ha
  rw[Jz]at hi
  refine b1 i a (by omega) ?_
  rw[<-Kx,<-e,List.getElem_take]
  exact IR _
 have hg:∀a∈xs.toList.drop p,j<a:=fun a ha=>by
  obtain⟨i,hi,e⟩:=MK.mp ha
  rw[Ku]at hi
  rw[List.getElem_drop]at e
  have ea:xs[p+i]?=some a:=by rw[<-Kx,<-e];exact IR _
  have h1:=b2 (p+i) a (by omega) ea
  rcases LK j a with hx|hx
  ·exact hx
  ·have:a=j:=by omega
   subst this
   rcases Nat.eq_zero_or_pos i with rfl|hp
   ·exact absurd ea h
   ·have hpz:p<xs.size:=by have:=(JT.mp ea).1;omega
    have e0:xs[p]?=some xs[p]:=Jp hpz
    have:=R.at (show p<p+i by omega) e0 ea
    have:=b2 p _ (IV _) e0
    omega
 refine Qv.mpr ⟨OC (Nf _ _) R,Ob.mpr ⟨hg,OC (Ro _ _) R⟩,fun a ha b hb=>?_⟩
 rcases IY.mp hb with rfl|hb
 ·exact lo a ha
 ·exact Qu (lo a ha) (hg b hb)
def TG (led:Bool)(t:LI):Prop:=t.led=led/\t.dummies=#[]/\RiseP t.place
def has_nil (j:Nat):Pl #[] j=false:=by simp[Pl]
theorem probe_empty {t:LI}(hd:t.dummies=#[]){g:Nat->Int}{h:Int}:∀(f:Nat)(p:SetTable.Probe){j:Nat}{d:Option Nat},p.dummy=none->
  OP t g h f p=some (.empty j d)->d=none/\t.slot j=.empty
 |0,_,_,_,_,e=>nomatch e
 |f+1,p,j,d,h0,e=>by
  unfold OP at e
  have nd:∀j,t.slot j≠.dummy:=fun j=>by
   simp only[Rf,hd,has_nil]
   split<;>simp
  have adv:(t.advance p).dummy=none:=by unfold SetTable.advance;split<;>exact h0
  cases hs:t.slot p.j with
  |empty=>rw[hs]at e;cases e;exact⟨h0,hs⟩
  |dummy=>exact absurd hs (nd _)
  |live i=>
   rw[hs]at e
   dsimp only at e
   split at e
   ·cases e
   ·exact probe_empty hd f _ adv e
def TG.put {b:Bool}{t:LI}(T:TG b t){h:Int}{sl:Nat}{wd:Bool}(e:t.freeSlot h=some (sl,wd)):TG b (t.put sl).1:=by
 unfold SetTable.freeSlot at e
 split at e
 case h_1 j d hp=>
  cases e
  obtain⟨rfl,hs⟩:=probe_empty T.2.1 _ _ rfl hp
  have hne:t.place[KJ t.place j]?≠some j:=fun z=>by
   simp only[Rf,z]at hs
   simp at hs
  refine⟨T.1,?_,rise_ins T.2.2 hne⟩
  show(if Pl t.dummies j then _ else t.dummies)=_
  rw[T.2.1,has_nil];rfl
 case h_2=>cases e
def TG.standIn {b:Bool}{t:LI}(T:TG b t)(n:Nat):TG b (t.standIn n):=
 ⟨T.1,rfl,by show(Array.range n).toList.Pairwise _;rw[Array.toList_range];exact Qd⟩
def TG.layNew {b:Bool}{t:LI}(T:TG b t)(es:Array (Int×Gt))(h:Int)(x:Gt):TG b (Sj t es h x).2.1:=by
 unfold Sj
 split
 case h_1 sl wd e=>
  dsimp only
  unfold SetTable.orStandIn
  split
  ·exact T.put e
  ·exact(T.put e).standIn _
 case h_2=>exact T.standIn _
def TG.relay {b:Bool}{t:LI}(T:TG b t)(es:Array (Int×Gt))(m:Nat):TG b (RL t es m).2.1:=by
 unfold RL
 split
 case h_1 t' o e=>
  dsimp only
  split
  ·unfold SetTable.relaid SetTable.laid at e
   cases hl:SetTable.layClean (SetTable.sizeAbove m- 1) (es.map (·.1))with
   |none=>rw[hl]at e;cases e
   |some ow=>
    rw[hl]at e
    cases e
    refine⟨T.1,rfl,?_⟩
    show(Tj _).toList.Pairwise _
    rw[NV,List.pairwise_map,List.pairwise_filterMap]
    refine To (fun{a a'} hlt b hb b' hb'=>?_) Qd
    cases h1:ow.getD a none with
    |none=>rw[h1]at hb;cases hb
    |some u=>
     cases h2:ow.getD a' none with
     |none=>rw[h2]at hb';cases hb'
     |some u'=>
      rw[h1]at hb;rw[h2]at hb'
      cases hb;cases hb';exact hlt
  ·exact T.standIn _
 case h_2=>exact T.standIn _
section
variable {prog:Jd}{w:JL}{A:JK}{E:Gt->IQ->Prop}{s:IQ}
def ordB (w:JL):Bool:=w.params.followText "set-order"
def SG (prog:Jd)(w:JL)(h:Heap)(a:Addr)(S:Int->Bool)(n:Nat):Prop:=
 ∃o es ep t,h.get? a=some o/\o.ExactSet/\o.data=.set es ep t/\Sb (intKind prog w) es.toList/\(∀k,S k=true↔∃e∈es.toList,(intKind prog w).is k e.2=true)/\es.size<scanBound/\t.fits es.size=true/\es.size=n/\TG (!ordB w) t
def SG.at {h h':Heap}{a:Addr}{S:Int->Bool}{n:Nat}(x:SG prog w h a S n)(k:∀o,h.get? a=some o->h'.get? a=some o):SG prog w h' a S n:=
 let ⟨o,es,ep,t,ho,r⟩:=x;⟨o,es,ep,t,k o ho,r⟩
def SG.cong {h:Heap}{a:Addr}{S S':Int->Bool}{n n':Nat}(x:SG prog w h a S n)(e:∀k,S k=S' k)(en:n=n'):SG prog w h a S' n':=by
 have:S=S':=funext e
 subst this;subst en;exact x
def sg_put {h:Heap}{a:Addr}{o:Obj}{es:Array (Int×Gt)}{ep:Nat}{t:LI}(ho:h.get? a=some o)(hx:o.ExactSet)(hd:o.data=.set es ep t)
  {es':Array (Int×Gt)}{t':LI}{S':Int->Bool}(el:Sb (intKind prog w) es'.toList)(me:∀k,S' k=true↔∃e∈es'.toList,(intKind prog w).is k e.2=true)(hb:es'.size<scanBound)
  (hf:t'.fits es'.size=true)(T:TG (!ordB w) t'):SG prog w (h.update a (Obj.putSet es' t')) a S' es'.size:=by
 obtain⟨g,_⟩:=SetOf_store (knd:=intKind prog w) ho hx hd el me hb hf
 exact⟨_,es',ep+1,t',g,hx,rfl,el,me,hb,hf,rfl,T⟩
def sg_tail {g:Bool->Sem Unit}(hg:∀(b:Bool)(s₁:IQ)(Q':Unit->IQ->Prop),Q' () s₁->wpAny (model prog w) A (g b) Q' E s₁)
  {a:Addr}{o:Obj}{es:Array (Int×Gt)}{ep:Nat}{t:LI}(ho:s.heap.get? a=some o)(hx:o.ExactSet)(hd:o.data=.set es ep t)
  {es1:Array (Int×Gt)}{t2:LI}{S':Int->Bool}(el:Sb (intKind prog w) es1.toList)(me:∀k,S' k=true↔∃e∈es1.toList,(intKind prog w).is k e.2=true)
  (hb:es1.size<scanBound)(hf:t2.fits es1.size=true)(T:TG (!ordB w) t2){wd:Bool}{R:Option Bool->IQ->Prop}
  (h:∀h',Kh a s.heap h'->SG prog w h' a S' es1.size->R (some true) {s with heap:=h'}):
  wpAny (model prog w) A (do
   storeSet a es1 t2
   if (!wd&&t2.tooFull)=true then do
       g (relayAll t2 es1 (Md es1.size)).2.2
       storeSet a (relayAll t2 es1 (Md es1.size)).1 (relayAll t2 es1 (Md es1.size)).2.1
       pure (some true)
    else pure (some true)) R E s:=by
 refine cW (Sz ho hd ?_ (OX hb))
 have sb:=JN s.heap a (Obj.putSet es1 t2)
 split
 ·have hp:=relayAll_perm t2 es1 (Md es1.size)
  have hr:=relayAll_fits t2 es1 (Md es1.size)
  have hT:=T.relay es1 (Md es1.size)
  obtain⟨o1,_⟩:=SetOf_store (knd:=intKind prog w) ho hx hd el me hb hf
  have sz:(relayAll t2 es1 (Md es1.size)).1.size=es1.size:=by rw[<-Ko,hp.length_eq,Ko]
  refine cW (hg _ _ _ (cW (Sz o1 rfl ?_ (OX (by rw[sz];exact hb)))))
  refine tx (h _ (sb.trans (JN _ a _)) ?_)
  have:=sg_put (prog:=prog) (w:=w) (S':=S') o1 hx rfl (el.perm hp) (fun k=>(me k).trans ⟨fun⟨e,he,q⟩=>⟨e,hp.mem_iff.mpr he,q⟩,fun⟨e,he,q⟩=>⟨e,hp.mem_iff.mp he,q⟩⟩) (by rw[sz];exact hb) hr hT
  rw[sz]at this
  exact this
 ·exact tx (h _ sb (sg_put ho hx hd el me hb hf T))
def sg_add {a:Addr}{S:Int->Bool}{n:Nat}{k:Int}{x:Gt}{Q:Bool->IQ->Prop}(hk:(intKind prog w).is k x=true)(hs:x.scannable=true)(G:SG prog w s.heap a S n)(room:n+1<scanBound)
  (h:∀h',Kh a s.heap h'->SG prog w h' a (fun k'=>S k'||decide (k'=k)) (if S k then n else n+1)->Q (!S k) {s with heap:=h'}):
  wpAny (model prog w) A (setAddHashed a x ((intKind prog w).hash k)) Q E s:=by
 obtain⟨o,es,ep,t,ho,hx,hd,el,me,hb,hf,hn,T⟩:=G
 have hb1:es.size+1<scanBound:=by rw[hn];exact room
 unfold setAddHashed setAddHashedIn
 refine Km (cW (Lq ho hd hf ?_))
 dsimp only
 rw[byScan_of hs hb el]
 simp only[↓reduceIte]
 unfold setAddByScan
 refine cW (cW (KY (cW (wpAny_setScan_of hk ho hd hf el ?_))))
 cases hr:List.findIdx? (fun e=>(intKind prog w).is k e.2) es.toList with
 |some j=>
  dsimp only
  obtain⟨hj,pj,_⟩:=List.findIdx?_eq_some_iff_getElem.mp hr
  have yes:S k=true:=(me k).mpr ⟨es.toList[j],MI hj,pj⟩
  refine tx (tx ?_)
  have:=h s.heap (Pn a s.heap) ⟨o,es,ep,t,ho,hx,hd,el,fun k'=>by
   rw[RT,decide_eq_true_eq,<-me k']
   exact⟨fun z=>z.elim id (fun e=>e▸yes),.inl⟩,hb,hf,by rw[yes];exact hn,T⟩
  rw[yes]at this
  cases s;exact this
 |none=>
  dsimp only
  have no:S k=false:=by
   cases z:S k with
   |false=>rfl
   |true=>obtain⟨e,he,hp⟩:=(me k).mp z;have:=List.findIdx?_eq_none_iff.mp hr e he;rw[hp]at this;exact Bool.noConfusion this
  have hgw:∀(b:Bool){s₁:IQ}{Q':Unit->IQ->Prop},Q' () s₁->wpAny (model prog w) A (match b with|true=>rule "set.scan.the-table-gave-way"|false=>pure ()) Q' E s₁:=
   fun b s₁ Q' hq=>by cases b<;>first|exact tx hq|exact KY hq
  have pm:=layNew_perm t es ((intKind prog w).hash k) x
  have ft:=layNew_fits t es ((intKind prog w).hash k) x
  have T1:=T.layNew es ((intKind prog w).hash k) x
  generalize layNew t es ((intKind prog w).hash k) x=L at pm ft T1⊢
  obtain⟨es1,t1,wd,gv⟩:=L
  dsimp only at pm ft T1⊢
  rw[Ol]at pm
  have el1:Sb (intKind prog w) es1.toList:=(el.push hk hs).perm pm
  have me1:=fun k'=>mem_push_iff hk me pm k'
  have sz:es1.size=n+1:=by rw[<-Ko,pm.length_eq,Jg,Ko,hn];rfl
  have fin:∀h',Kh a s.heap h'->SG prog w h' a (fun k'=>S k'||decide (k'=k)) es1.size->Q true {s with heap:=h'}:=by
   intro h' sb G';have:=h h' sb;rw[no]at this;rw[sz]at G';exact this G'
  refine cW (hgw _ ?_)
  split
  ·refine cW ?_
   rw[hashByValue_scannable 8 hs]
   refine tx (sg_tail ?_ ho hx hd el1 me1 (by rw[sz];exact room) ?_ ?_ ?_)
   ·intro b s₁ Q' hq;cases b<;>first|exact tx hq|exact KY hq
   ·split
    ·exact ft
    ·exact SetTable.fits_plain_off ft
   ·split
    ·exact T1
    ·exact T1
   ·intro h' sb G';dsimp only;exact tx (fin h' sb G')
  ·refine cW (tx ?_)
   simp only[↓reduceIte]
   refine sg_tail ?_ ho hx hd el1 me1 (by rw[sz];exact room) ft T1 ?_
   ·intro b s₁ Q' hq;cases b<;>first|exact tx hq|exact KY hq
   ·intro h' sb G';dsimp only;exact tx (fin h' sb G')
end
section
variable {prog:Jd}{w:JL}{A:JK}{R:Ou->IQ->Prop}{I:Addr}{fp wr:List Addr}{Gn:Array OK->Array OK->Prop}{n:Nat}{P:Nat->Gt->Prop}{St:Nat->IQ->Prop}
def sg_loop (W:WalksS prog w A.in1 I fp wr Gn n P St)(a:Addr)(ha:a∉fp)(val:Nat->Int)(hv:∀i v,P i v->∃t,v=.int (val i) t)(hb:n+1<scanBound):
  ∀(k i:Nat)(s:IQ),n- i=k->i<=n->St i s->SG prog w s.heap a (fun k'=>(firstMet val i).any (· ==k')) (firstMet val i).length->
   (∀s',Moved (a::wr) Gn s s'->SG prog w s'.heap a (fun k'=>(firstMet val n).any (· ==k')) (firstMet val n).length->R (.ok (.ret .none)) s')->
   codeAny (model prog w) A (.builtin "set.update.loop" ⟨[.ref a,.ref I],[]⟩) R s:=by
 have haw:a∉wr:=fun h=>ha (W.sub _ h)
 have up:∀b∈wr,b∈a::wr:=fun b hb=>Je _ hb
 intro k
 induction k with
 |zero=>
  intro i s hk hi st G hR
  obtain rfl:i=n:=by omega
  refine LN Qs ?_
  rw[Lc ND _]
  show wpAny _ A.in1 (pyNext (.ref I) >>= _) _ _ s
  refine cW (W.done s _ _ st fun s' hm=>?_)
  show wpAny _ A.in1 (ret Kk) _ _ s'
  exact tx (hR s' (hm.mono up) (G.at fun o=>hm.heap a o haw))
 |succ k ih=>
  intro i s hk hi st G hR
  have hlt:i<n:=by omega
  refine LN Qs ?_
  rw[Lc ND _]
  show wpAny _ A.in1 (pyNext (.ref I) >>= _) _ _ s
  refine cW (W.item i s _ _ hlt st fun v s' hP st' hm=>?_)
  obtain⟨t,rfl⟩:=hv i v hP
  have G1:=G.at fun o=>hm.heap a o haw
  show wpAny _ A.in1 (holding [Na (val i) t] (setAdd a (.int (val i) t)) >>= _) _ _ s'
  refine cW (Km ?_)
  unfold setAdd
  refine Km (cW ((intKind prog w).pyHash (k:=val i) (intKind_is _ _ _ _) ?_))
  have room:(firstMet val i).length+1<scanBound:=by have:=So val i;omega
  refine sg_add (s:={s' with toks:=s'.toks+1}) (intKind_is _ _ _ _) rfl G1 room fun h' sb G2=>?_
  have G3:=G2.cong (S':=fun k'=>(firstMet val (i+1)).any (· ==k')) (n':=(firstMet val (i+1)).length) (fun k'=>by rw[QX,step_any]) (by rw[QX,step_length])
  refine tx ⟨MD ND _,ih (i+1) _ (by omega) hlt (W.frame _ s' _ _ st' (LO _) fun b hb o e=>?_) G3 fun s'' hm2 G4=>?_⟩
  ·rw[sb.2 b (fun h:b=a=>ha (by rw[<-h];exact hb))];exact e
  ·refine hR s'' (Moved.trans W.gtrans ((hm.mono up).then_heap (LO _) fun b o hb e=>?_) hm2) G4
   rw[sb.2 b (fun h:b=a=>hb (by rw[h];exact Jw))];exact e
end
section
variable {prog:Jd}{w:JL}{A:JK}{E:Gt->IQ->Prop}{s:IQ}
def nSet (w:JL):Obj:={cls:=.type "set",dict:=none,data:=.set #[] 0 (.fresh 0 0 (!ordB w))}
def sg_fresh {h:Heap}{a:Addr}(e:h.get? a=some (nSet w)):SG prog w h a (fun _=>false) 0:=
 ⟨_,#[],0,_,e,⟨rfl,rfl,rfl⟩,rfl,fun e he=>by simp at he,fun k=>by simp,by decide,by rfl,rfl,rfl,rfl,.nil⟩
def sg_new (a:Gt){Q₁:Gt->IQ->Prop}(h:Q₁ (.ref s.heap.objs.size) {s with heap:=s.heap.push (nSet w)}):
  codeAny (model prog w) A (.call (.builtin "set.__new__") ⟨[.type "set",a],[]⟩) (wants Q₁ E) s:=by
 refine PZ ?_
 show wpAny _ A.in1 (do checkBuiltinCall "set.__new__" ⟨[.type "set",a],[]⟩;again (.builtin "set.__new__" ⟨[.type "set",a],[]⟩)) _ _ s
 refine cW (KZ (F.newCall_set_1 a) (tx ⟨MD SU _,LN F.entry_set_new ?_⟩))
 rw[Lc SU _]
 unfold KF.«set.__new__» RA
 have hsub:=sub_set_self
 obtain⟨hp,g,d,tk,os⟩:=s
 dsimp only
 wp_walk
 refine Mr (tx ?_)
 dsimp only
 simp only[newObj]
 exact cW (wpAny_alloc (tx (tx h)))
set_option maxHeartbeats 3200000 in
def sg_call {l:Addr}{items:Array Gt}{ns:List Int}{Q:Gt->IQ->Prop}(hh:A.handled=none)(hl:s.heap.IsList l items)(hi:OA items.toList ns)(hb:items.size+1<scanBound)
  (h:∀(h':Heap)(tk:Nat),SG prog w h' s.heap.objs.size (fun k'=>(firstMet (fun i=>ns.getD i 0) items.size).any (· ==k')) (firstMet (fun i=>ns.getD i 0) items.size).length->
   (∀b o,b<s.heap.objs.size->s.heap.get? b=some o->h'.get? b=some o)->Q (.ref s.heap.objs.size) {s with heap:=h',toks:=tk}):
  wpAny (model prog w) A (call (.type "set") [.ref l]) Q E s:=by
 obtain⟨c,tl,hmro⟩:=Mt.mro
 have hmade:=Mt.made
 have hsub:=Mt.sub
 refine NZ (PZ ?_)
 show wpAny _ _ (callAny (.type "set") _) _ _ _
 refine tx ⟨Oa _ (by decide+kernel),LN F.entry_type_call ?_⟩
 rw[Around.under_plain (weight_type_call_type "set" [.ref l] []) rfl]
 have h1:=Mt.notType
 have h2:=Mt.canCreate
 have hct:=F.typeCall_set_1 (.ref l)
 repeat (any_goals (first|assumption|wp_step))
 refine Mh (sg_new (.ref l) (E:=E) (Q₁:=fun obj s₁=>obj=.ref s.heap.objs.size/\s₁={s with heap:=s.heap.push (nSet w)}) ⟨rfl,rfl⟩) fun r s₁ hr=>?_
 cases r with
 |error e=>exact hr
 |ok fl=>
  cases fl with
  |ret obj=>
   obtain⟨rfl,rfl⟩:=hr
   have hS:(s.heap.push (nSet w)).get? s.heap.objs.size=some (nSet w):=IT _ rfl
   have hT:Pj {s with heap:=s.heap.push (nSet w)} (.ref s.heap.objs.size) "set":=⟨_,hS,rfl⟩
   have hli:=Mt.init.lookup
   have hbi:=Mt.init.bind (.ref s.heap.objs.size)
   repeat (any_goals (first|assumption|wp_step))
   refine Mh (Oi (R:=wants (fun r s₂=>r=.none/\∃h' tk,s₂={s with heap:=h',toks:=tk}/\
     SG prog w h' s.heap.objs.size (fun k'=>(firstMet (fun i=>ns.getD i 0) items.size).any (· ==k')) (firstMet (fun i=>ns.getD i 0) items.size).length/\
     (∀b o,b<s.heap.objs.size->s.heap.get? b=some o->h'.get? b=some o)) E) Mt.init.plain F.entry_set_init (check_set_init_1 hT ?_)) fun r₂ s₂ hr₂=>?_
   ·obtain⟨ol,hol,hcl,nl,hdl⟩:=hl
    obtain⟨ocls,odict,odata,oslots⟩:=ol
    simp only at hcl hdl
    subst hcl;subst hdl
    have hol':(s.heap.push (nSet w)).get? l=some {cls:=.type "list",dict:=odict,data:=.seq items nl,slots:=oslots}:=gV _ hol
    have hsls:=F.sub_list_set
    have hslf:=F.sub_list_frozenset
    have hne:(LP "list"==LP "dict")=false:=by decide
    have hl1:(s.heap.push (nSet w)).IsList l items:=⟨_,hol',rfl,nl,rfl⟩
    unfold KF.«set.__init__» noKeywords Rx
    generalize hPI:pyIter=PI
    wp_walk
    subst hPI
    refine Nz hl1 ?_
    refine cW (wpAny_runValue ?_)
    have hlS:l<s.heap.objs.size:=IS hol
    have hh3:A.in1.in1.in1.handled=none:=by simp[hh]
    have hneI:l≠(s.heap.push (nSet w)).objs.size:=by rw[JG];exact Jb (Nl hlS)
    have hSf:s.heap.objs.size∉[(s.heap.push (nSet w)).objs.size,l]:=by
     rw[JG];simp only[IY,Jl,or_false,not_or]
     exact⟨Jb (Mm _),Kc hlS⟩
    refine sg_loop ((Walks.list hh3 _ l hneI items).toS) s.heap.objs.size hSf (fun i=>ns.getD i 0) (fun i v hv=>hi.int_at i v (by rw[Kx];exact hv)) hb (items.size- 0) 0 _ (by omega) (Kf _)
     ⟨⟨_,IT _ rfl,rfl,rfl⟩,(hl1.push _)⟩ ((sg_fresh (prog:=prog) (w:=w) (gV _ hS)).cong (fun _=>rfl) rfl) ?_
    intro s' hm hS'
    obtain⟨h',g',d',tk',os'⟩:=s'
    have eg:g'=s.gens:=hm.gens
    have ed:d'=s.drawn:=hm.drawn
    have eo:os'=s.os:=hm.os
    subst eg;subst ed;subst eo
    show wpAny _ _ _ _ _ _
    refine tx ?_
    show wpAny _ _ (ret Kk) _ _ _
    refine tx ⟨rfl,h',tk',rfl,hS',fun b o hb e=>?_⟩
    refine hm.heap b o ?_ (gV _ (gV _ e))
    rw[JG];simp only[IY,Jl,or_false,not_or]
    exact⟨Jb hb,Jb (Nl hb)⟩
   ·cases r₂ with
    |error e=>exact hr₂
    |ok fl₂=>
     cases fl₂ with
     |ret r=>
      obtain⟨rfl,h',tk,rfl,hS',hk'⟩:=hr₂
      repeat (any_goals (first|assumption|wp_step))
      exact h _ _ hS' hk'
     |_=>exact hr₂.elim
  |_=>exact hr.elim
end
theorem below_go_le {xs:Array Nat}(j:Nat):∀(f lo hi:Nat),lo<=hi->Mi xs j f lo hi<=hi
 |0,_,_,h=>h
 |f+1,lo,hi,h=>by
  unfold Mi
  split
  ·dsimp only
   split
   ·exact below_go_le j f _ _ (by omega)
   ·exact JQ (below_go_le j f _ _ (by omega)) (by omega)
  ·exact h
def slAt (xs:Array Nat):Nat->Nat
 |0=>0
 |i+1=>xs.getD i 0+1
def below_slAt {xs:Array Nat}(R:RiseP xs){i:Nat}(h:i<=xs.size):KJ xs (slAt xs i)=i:=by
 have le:KJ xs (slAt xs i)<=xs.size:=below_go_le _ _ _ _ (Kf _)
 obtain⟨b1,b2⟩:=below_ok (slAt xs i) R
 generalize KJ xs (slAt xs i)=p at*
 rcases Nk p i with hlt|rfl|hgt
 ·obtain⟨k,rfl⟩:∃k,i=k+1:=⟨i- 1,by omega⟩
  have hk:k<xs.size:=by omega
  have ek:xs[k]? =some xs[k]:=Jp hk
  have hp:p<xs.size:=by omega
  have ep:xs[p]? =some xs[p]:=Jp hp
  have h1:=b2 p _ (IV _) ep
  have h2:slAt xs (k+1)=xs[k]+1:=by simp[slAt,NF,hk]
  rw[h2]at h1
  rcases LK p k with hx|hx
  ·have:=R.at hx ep ek;omega
  ·have:p=k:=by omega
   subst this;omega
 ·rfl
 ·have hi:i<xs.size:=by omega
  have ei:xs[i]? =some xs[i]:=Jp hi
  have h1:=b1 i _ hgt ei
  cases i with
  |zero=>exact absurd h1 (Nat.not_lt_zero _)
  |succ k=>
   have hk:k<xs.size:=by omega
   have h2:slAt xs (k+1)=xs[k]+1:=by simp[slAt,NF,hk]
   rw[h2]at h1
   have:=R.at (Mm k) (Jp hk) ei
   omega
theorem erase_perm {α:Type}:∀{l:List α}{i:Nat}(h:i<l.length),(l[i]::l.eraseIdx i).Perm l
 |a::l,0,_=>.refl _
 |a::l,i+1,h=>(List.Perm.swap _ _ _).trans ((erase_perm (l:=l) (Nat.lt_of_succ_lt_succ h)).cons a)
theorem pick_perm {α:Type}(nx:Nat->Nat):∀(f k:Nat)(l:List α)(out:Array α),l.length<=f->(pickOrder.go nx f k l out).toList.Perm (out.toList++l)
 |0,k,l,out,h=>by
  obtain rfl:l=[]:=Mw.mp (by omega)
  rw[KW];exact .refl _
 |f+1,k,l,out,h=>by
  unfold pickOrder.go
  cases l with
  |nil=>simp
  |cons a l=>
   have hm:nx k%(a::l).length<(a::l).length:=Nat.mod_lt _ (Nat.succ_pos _)
   generalize nx k%(a::l).length=m at*
   rw[IR hm]
   dsimp only
   refine(pick_perm nx f (k+1) _ _ (by rw[Pe hm];simp only[JU]at*;omega)).trans ?_
   rw[Ol,KP]
   refine List.Perm.append_left _ ?_
   exact(erase_perm hm)
def pickOrder_perm {α:Type}(nx:Nat->Nat)(xs:Array α):(pickOrder nx xs).toList.Perm xs.toList:=by
 have:=pick_perm nx xs.size 0 xs.toList #[] (by simp)
 simpa[pickOrder]using this
section
variable {prog:Jd}{w:JL}{A:JK}{E:Gt->IQ->Prop}{s:IQ}
def wpAny_choose' {src:Source}{n:Nat}{Q:Nat->IQ->Prop}(h0:n≠0)(h:∀i d,i<n->Q i {s with drawn:=d}):wpAny (model prog w) A (choose src n) Q E s:=
 fun _ _ _=>⟨h0,h _ _ (Nat.mod_lt _ (Nat.pos_of_ne_zero h0))⟩
theorem draw_perm {α:Type}:∀(n:Nat)(xs:List α)(s:IQ){Q:List α->IQ->Prop},xs.length=n->(∀l d,l.Perm xs->Q l {s with drawn:=d})->wpAny (model prog w) A (drawOrder n xs) Q E s
 |0,xs,s,Q,hn,h=>by
  obtain rfl:=Mw.mp hn
  exact tx (h [] s.drawn (.refl _))
 |n+1,[],s,Q,hn,h=>by cases hn
 |n+1,a::xs,s,Q,hn,h=>by
  show wpAny _ _ (choose .order (a::xs).length >>= _) _ _ _
  refine cW (wpAny_choose' (by simp) fun i d hi=>?_)
  rw[IR hi]
  dsimp only
  refine cW (draw_perm n _ _ (by rw[Pe hi];simp only[JU]at*;omega) fun l d' hl=>tx ?_)
  exact h _ d' ((hl.cons _).trans (erase_perm hi))
def next_text {a:Addr}{o:Obj}{es:Array (Int×Gt)}{ep:Nat}{t:LI}{sl i:Nat}{Q:Option (Gt×Nat)->IQ->Prop}(hb:ordB w=true)(ho:s.heap.get? a=some o)(hd:o.data=.set es ep t)(hf:t.fits es.size=true)
  (h:Q ((pickOrder (w.params.setOrder a ep) es)[i]?.map fun e=>(e.2,sl)) s):wpAny (model prog w) A (setNext a sl i ep) Q E s:=by
 unfold setNext
 refine cW (Lq ho hd hf ?_)
 dsimp only
 unfold setsByText
 refine cW (cW (Mr (tx ?_)))
 have hb':(model prog w).w.params.followText "set-order"=true:=hb
 rw[hb',if_pos rfl,if_neg (by simp)]
 unfold setWalk setsByText
 refine cW (cW (Lq ho hd hf ?_))
 dsimp only
 refine cW (cW (Mr (tx ?_)))
 rw[hb',if_pos rfl]
 exact cW (Mr (tx (tx h)))
def next_place {a:Addr}{o:Obj}{es:Array (Int×Gt)}{ep:Nat}{t:LI}{sl i ep':Nat}{Q:Option (Gt×Nat)->IQ->Prop}(hb:ordB w=false)(ho:s.heap.get? a=some o)(hd:o.data=.set es ep t)(hf:t.fits es.size=true)
  (hl:t.led=true)(hn:(!t.plain&&decide (es.size>1))=false)
  (h:Q (match es[KJ t.place sl]?,t.place[KJ t.place sl]? with|some (_,x),some j=>some (x,j+1)|_,_=>none) s):wpAny (model prog w) A (setNext a sl i ep') Q E s:=by
 unfold setNext
 refine cW (Lq ho hd hf ?_)
 dsimp only
 unfold setsByText
 refine cW (cW (Mr (tx ?_)))
 have hb':(model prog w).w.params.followText "set-order"=false:=hb
 rw[hb',if_neg (by simp)]
 refine cW (tx ?_)
 show wpAny _ _ (if (!t.plain&&decide (es.size>1))=true then _ else _) _ _ _
 rw[hn,if_neg (by simp)]
 refine cW ?_
 show wpAny _ _ (if (!t.led&& !es.isEmpty)=true then _ else _) _ _ _
 rw[hl,if_neg (by simp)]
 exact tx (tx h)
end
def owner_seti:QD.lookup (RK ['r','o','t','a','r','e','t','i','_','t','e','s'].reverse)=some Manifest.sig_set_iterator:=by kernel_rfl
def slot_seti:Slot "set_iterator" "__next__" "set_iterator.__next__":=
 .of (owner:="set_iterator") (n:="__next__") (by rw[LM,KC];kernel_rfl) (by decide+kernel) (by decide+kernel) (by decide+kernel) (.inl (by decide+kernel)) (by rw[LD];kernel_rfl)
def entry_seti:entryFor table "set_iterator.__next__"=some KF.«set_iterator.__next__»:=entryFor_of_tree (by kernel_rfl)
def args_seti (a:Gt):argsOk "set_iterator.__next__" ⟨[a],[]⟩:=by
 unfold argsOk;rw[OI (id:="set_iterator.__next__") (n:=['_','_','t','x','e','n','_','_']) (o:=['r','o','t','a','r','e','t','i','_','t','e','s']) (by kernel_rfl) owner_seti];kernel_rfl
def slot_setii:Slot "set_iterator" "__iter__" "set_iterator.__iter__":=
 .of (owner:="set_iterator") (n:="__iter__") (by rw[LM,KC];kernel_rfl) (by decide+kernel) (by decide+kernel) (by decide+kernel) (.inl (by decide+kernel)) (by rw[LD];kernel_rfl)
def entry_setii:entryFor table "set_iterator.__iter__"=some KF.«dict_keyiterator.__iter__»:=
 Ql (id':="dict_keyiterator.__iter__") (by kernel_rfl) rfl (by decide+kernel) (by kernel_rfl)
def args_setii (a:Gt):argsOk "set_iterator.__iter__" ⟨[a],[]⟩:=by
 unfold argsOk;rw[OI (id:="set_iterator.__iter__") (n:=['_','_','r','e','t','i','_','_']) (o:=['r','o','t','a','r','e','t','i','_','t','e','s']) (by kernel_rfl) owner_seti];kernel_rfl
def entry_set_iter:entryFor table "set.__iter__"=some KF.«frozenset.__iter__»:=
 Ql (id':="frozenset.__iter__") (by kernel_rfl) rfl (by decide+kernel) (by kernel_rfl)
section
variable {prog:Jd}{w:JL}{A:JK}{E:Gt->IQ->Prop}{s:IQ}
def ItAt (h:Heap)(I a:Addr)(f:Gt)(i n ep:Nat):Prop:=∃o,h.get? I=some o/\o.cls=.type "set_iterator"/\o.data=.fields #[f,.int i 0,.ref a,.int n 0,.int ep 0]
def ItAt.ty {I a:Addr}{f:Gt}{i n ep:Nat}(x:ItAt s.heap I a f i n ep):s.TypeIs (.ref I) "set_iterator":=let ⟨o,ho,hc,_⟩:=x;⟨o,ho,hc⟩
def ItAt.at {h h':Heap}{I a:Addr}{f:Gt}{i n ep:Nat}(x:ItAt h I a f i n ep)(e:∀o,h.get? I=some o->h'.get? I=some o):ItAt h' I a f i n ep:=let ⟨o,ho,r⟩:=x;⟨o,e _ ho,r⟩
def StAt (h:Heap)(a:Addr)(es:Array (Int×Gt))(ep:Nat)(t:LI):Prop:=∃o,h.get? a=some o/\o.data=.set es ep t/\t.fits es.size=true
def StAt.at {h h':Heap}{a:Addr}{es:Array (Int×Gt)}{ep:Nat}{t:LI}(x:StAt h a es ep t)(e:∀o,h.get? a=some o->h'.get? a=some o):StAt h' a es ep t:=let ⟨o,ho,r⟩:=x;⟨o,e _ ho,r⟩
def it_iter {I a:Addr}{f:Gt}{i n ep:Nat}{Q:Gt->IQ->Prop}(hit:ItAt s.heap I a f i n ep)(h:Q (.ref I) s):wpAny (model prog w) A (pyIter (.ref I)) Q E s:=by
 refine Ny hit.ty slot_setii (Jo slot_setii hit.ty entry_setii ?_ (args_setii _))
 show wpAny _ _ (ret (.ref I)) _ _ s
 exact tx ⟨_,rfl,"set_iterator",_,hit.ty,slot_seti.lookup,h⟩
def it_item {I a:Addr}{i sl sl' ep:Nat}{es:Array (Int×Gt)}{t:LI}{x:Gt}{Q:Option Gt->IQ->Prop}(hit:ItAt s.heap I a (.int sl 0) i es.size ep)(hs:StAt s.heap a es ep t)
  (hn:∀(A:JK)(E:Gt->IQ->Prop)(Q:Option (Gt×Nat)->IQ->Prop),Q (some (x,sl')) s->wpAny (model prog w) A (setNext a sl i ep) Q E s)
  (hQ:∀h',ItAt h' I a (.int sl' 0) (i+1) es.size ep->Kh I s.heap h'->Q (some x) {s with heap:=h'}):wpAny (model prog w) A (pyNext (.ref I)) Q E s:=by
 obtain⟨o,ho,hc,hd⟩:=id hit
 obtain⟨os,hos,hds,hf⟩:=id hs
 unfold pyNext
 refine cW (Kn (Jj (name:=JM "__next__") hit.ty slot_seti (Jo slot_seti hit.ty entry_seti ?_ (args_seti _))))
 unfold KF.«set_iterator.__next__»
 refine cW (tx ?_)
 refine cW (Oq ho hd ?_)
 dsimp only
 refine cW (My hos hds hf ?_)
 rw[if_neg (by simp)]
 simp only[Kb]
 refine cW (hn _ _ _ ?_)
 dsimp only
 refine cW (Lm ho hd (by simp) ?_)
 have o1:=JC (Li (·.setIfInBounds 0 (rawInt sl'))) ho (Kz (JO hd _))
 have d1:=JO hd (·.setIfInBounds 0 (rawInt sl'))
 refine cW (Lm o1 d1 (by simp) ?_)
 have o2:=JC (Li (·.setIfInBounds 1 (rawInt ((i:Int)+1)))) o1 (Kz (JO d1 _))
 have d2:=JO d1 (·.setIfInBounds 1 (rawInt ((i:Int)+1)))
 refine tx ⟨x,rfl,tx (hQ _ ⟨_,o2,?_,?_⟩ ((JN ..).trans (JN ..)))⟩
 ·rw[Me,Me];exact hc
 ·rw[d2];simp[rawInt]
def it_stop {I:Addr}{o:Obj}{fs:Array Gt}{Q:Option Gt->IQ->Prop}{Q0:Fin->IQ->Prop}(hh:A.handled=none)(ho:s.heap.get? I=some o)(hd:o.data=.fields fs)(h2:2<fs.size)
  (hQ:∀h',MP I s.heap h'->Q none {s with heap:=h'}):
  wpAny (model prog w) A.in1 (do setField (.ref I) 2 .none;raiseNew (<-newExc (.type "StopIteration") []):Sem Fin) Q0 (fun e s'=>wpAny (model prog w) A (isInstance e (.type "StopIteration")>>=fun b=>if b then pure none else throw e) Q E s') s:=by
 refine cW (Lm ho hd h2 ?_)
 refine cW ?_
 simp only[newExc,newTuple]
 refine cW (JF ?_ (by size_fits))
 refine cW (m:=firstArgMember _ _) (KZ (a:=Kk) (by first|rfl|(simp only[firstArgMember];rfl)) ?_)
 refine JF ?_ (by size_fits)
 simp only[raiseNew]
 refine cW (OH ?_)
 rw[show A.in1.handled=none from hh]
 refine cW (tx (PY ?_))
 refine cW (LY (T:="StopIteration") (b:=true) ⟨_,IT _ rfl,rfl⟩ Nu ?_)
 exact tx (hQ _ (((JN ..).extBut.push _).push _))
def it_end {I a:Addr}{i sl ep:Nat}{es:Array (Int×Gt)}{t:LI}{Q:Option Gt->IQ->Prop}(hh:A.handled=none)(hit:ItAt s.heap I a (.int sl 0) i es.size ep)(hs:StAt s.heap a es ep t)
  (hn:∀(A:JK)(E:Gt->IQ->Prop)(Q:Option (Gt×Nat)->IQ->Prop),Q none s->wpAny (model prog w) A (setNext a sl i ep) Q E s)
  (hQ:∀h',MP I s.heap h'->Q none {s with heap:=h'}):wpAny (model prog w) A (pyNext (.ref I)) Q E s:=by
 obtain⟨o,ho,hc,hd⟩:=id hit
 obtain⟨os,hos,hds,hf⟩:=id hs
 unfold pyNext
 refine cW (Kn (Jj (name:=JM "__next__") hit.ty slot_seti (Jo slot_seti hit.ty entry_seti ?_ (args_seti _))))
 unfold KF.«set_iterator.__next__»
 refine cW (tx ?_)
 refine cW (Oq ho hd ?_)
 dsimp only
 refine cW (My hos hds hf ?_)
 rw[if_neg (by simp)]
 simp only[Kb]
 refine cW (hn _ _ _ ?_)
 exact it_stop hh ho hd (by simp) hQ
def walk_slot (hh:A.handled=none){I a:Addr}(ne:a≠I){ep:Nat}{es:Array (Int×Gt)}{t:LI}(vs:List Gt)(sl:Nat->Nat)(hl:vs.length=es.size)
  (hn:∀(i:Nat)(s:IQ)(A:JK)(E:Gt->IQ->Prop)(Q:Option (Gt×Nat)->IQ->Prop),i<=es.size->StAt s.heap a es ep t->Q (vs[i]?.map fun v=>(v,sl (i+1))) s->wpAny (model prog w) A (setNext a (sl i) i ep) Q E s):
  Walks prog w A I [I,a] [I] es.size (fun i v=>vs[i]?=some v) (fun i h=>ItAt h I a (.int (sl i) 0) i es.size ep/\StAt h a es ep t)where
 sub:=fun b hb=>by simp at hb;simp[hb]
 frame:=fun _ _ _ st hk=>⟨st.1.at fun o e=>hk I (by simp) o e,st.2.at fun o e=>hk a (by simp) o e⟩
 item:=fun i s Q E hi st hQ=>by
  have hv:vs[i]?=some vs[i]:=IR (by omega)
  refine it_item (x:=vs[i]) (sl':=sl (i+1)) st.1 st.2 (fun A E Q q=>hn i s A E Q (by omega) st.2 (by rw[hv];exact q)) fun h' hit' sb=>?_
  exact hQ _ h' s.toks hv ⟨hit',st.2.at fun o e=>by rw[sb.2 a ne];exact e⟩ fun b o hb e=>by rw[sb.2 b (fun h=>hb (by simp[h]))];exact e
 done:=fun s Q E st hQ=>by
  refine it_end hh st.1 st.2 (fun A E Q q=>hn _ s A E Q (IV _) st.2 (by rw[KS (by omega)];exact q)) fun h' he'=>?_
  exact hQ h' s.toks fun b o hb e=>he' b o (fun h=>hb (by simp[h])) e
 self:=fun _ _ _ _ st hQ=>it_iter st.1 hQ
def fm_map {es:Array (Int×Gt)}{ps:List Nat}(hr:∀p∈ps,p<es.size):ps.filterMap (fun p=>es[p]?.map (·.2))=ps.map fun p=>(es.getD p (0,.none)).2:=by
 induction ps with
 |nil=>rfl
 |cons p ps ih=>
  have hp:=hr p Jw
  rw[Kp,Jp hp]
  simp only[Mq,JY]
  rw[ih fun q hq=>hr q (Je _ hq)]
  simp[NF,hp]
def walk_drawn (hh:A.handled=none){I a T:Addr}(ne:a≠I)(ne2:T≠I){ep:Nat}{es:Array (Int×Gt)}{t:LI}(ps:List Nat)(hl:ps.length=es.size)(hr:∀p∈ps,p<es.size):
  Walks prog w A I [I,a,T] [I] es.size (fun i v=>(ps.filterMap fun p=>es[p]?.map (·.2))[i]?=some v) (fun i h=>ItAt h I a (.ref T) i es.size ep/\StAt h a es ep t/\h.get? T=some {cls:=.type "tuple",data:=.seq (ps.map fun(p:Nat)=>rawInt p).toArray})where
 sub:=fun b hb=>by simp at hb;simp[hb]
 frame:=fun _ _ _ st hk=>⟨st.1.at fun o e=>hk I (by simp) o e,st.2.1.at fun o e=>hk a (by simp) o e,hk T (by simp) _ st.2.2⟩
 item:=fun i s Q E hi st hQ=>by
  obtain⟨o,ho,hc,hd⟩:=id st.1
  obtain⟨os,hos,hds,hf⟩:=id st.2.1
  have hi':i<ps.length:=by omega
  have hp:ps[i]<es.size:=hr _ (MI hi')
  unfold pyNext
  refine cW (Kn (Jj (name:=JM "__next__") st.1.ty slot_seti (Jo slot_seti st.1.ty entry_seti ?_ (args_seti _))))
  unfold KF.«set_iterator.__next__»
  refine cW (tx ?_)
  refine cW (Oq ho hd ?_)
  dsimp only
  refine cW (My hos hds hf ?_)
  rw[if_neg (by simp)]
  refine cW (JH st.2.2 rfl ?_)
  simp only[Kb]
  rw[show((ps.map fun(p:Nat)=>rawInt p).toArray)[i]?=some (rawInt ps[i])from by simp[hi']]
  dsimp only[rawInt]
  unfold setNextDrawn
  refine cW (cW (Lq hos hds hf ?_))
  dsimp only
  rw[if_neg (by simp)]
  simp only[Kb]
  rw[Jp hp]
  refine tx ?_
  refine cW (Lm ho hd (by simp) ?_)
  have o2:=JC (Li (·.setIfInBounds 1 (rawInt ((i:Int)+1)))) ho (Kz (JO hd _))
  have d2:=JO hd (·.setIfInBounds 1 (rawInt ((i:Int)+1)))
  have sb:=JN s.heap I (Li (·.setIfInBounds 1 (rawInt ((i:Int)+1))))
  refine tx ⟨es[ps[i]].2,rfl,tx (hQ _ _ s.toks ?_ ⟨⟨_,o2,?_,?_⟩,st.2.1.at fun o e=>(sb.2 a ne).trans e,(sb.2 T ne2).trans st.2.2⟩ fun b o hb e=>(sb.2 b (fun h=>hb (by simp[h]))).trans e)⟩
  ·rw[fm_map hr];simp[hi',NF,hp]
  ·rw[Me];exact hc
  ·rw[d2];simp[rawInt]
 done:=fun s Q E st hQ=>by
  obtain⟨o,ho,hc,hd⟩:=id st.1
  obtain⟨os,hos,hds,hf⟩:=id st.2.1
  unfold pyNext
  refine cW (Kn (Jj (name:=JM "__next__") st.1.ty slot_seti (Jo slot_seti st.1.ty entry_seti ?_ (args_seti _))))
  unfold KF.«set_iterator.__next__»
  refine cW (tx ?_)
  refine cW (Oq ho hd ?_)
  dsimp only
  refine cW (My hos hds hf ?_)
  rw[if_neg (by simp)]
  refine cW (JH st.2.2 rfl ?_)
  simp only[Kb]
  rw[show((ps.map fun(p:Nat)=>rawInt p).toArray)[es.size]?=none from by simp[hl]]
  dsimp only
  refine cW (Lm ho hd (by simp) ?_)
  have o2:=JC (Li (·.setIfInBounds 0 (rawInt 0))) ho (Kz (JO hd _))
  have d2:=JO hd (·.setIfInBounds 0 (rawInt 0))
  have sb:=JN s.heap I (Li (·.setIfInBounds 0 (rawInt 0)))
  refine it_stop hh o2 d2 (by simp) fun h' he'=>hQ h' s.toks fun b o hb e=>?_
  have hbI:b≠I:=fun h=>hb (by simp[h])
  exact he' b o hbI (by rw[sb.2 b hbI];exact e)
 self:=fun _ _ _ _ st hQ=>it_iter st.1 hQ
end
section
variable {prog:Jd}{w:JL}{A:JK}{E:Gt->IQ->Prop}{s:IQ}
def WkS (prog:Jd)(w:JL)(I:Addr)(fp:List Addr)(n:Nat)(vs:List Gt)(St:Nat->Heap->Prop):Prop:=
 ∀A:JK,A.handled=none->Walks prog w A I fp [I] n (fun i v=>vs[i]?=some v) St
def int_is {k:Int}{v:Gt}(h:(intKind prog w).is k v=true):∃t,v=.int k t:=by
 cases v<;>simp[intKind,Qp]at h
 exact⟨_,by rw[h]⟩
def es_vals {es:Array (Int×Gt)}{vs:List Gt}{S:Int->Bool}(el:Sb (intKind prog w) es.toList)(me:∀k,S k=true↔∃e∈es.toList,(intKind prog w).is k e.2=true)(pm:vs.Perm (es.toList.map (·.2))):
  (∀v∈vs,∃k t,v=.int k t/\S k=true)/\∀k,S k=true->∃t,.int k t∈vs:=by
 have is:∀k v,(intKind prog w).is k v=true->∃t,v=.int k t:=fun k v h=>int_is h
 refine⟨fun v hv=>?_,fun k hk=>?_⟩
 ·obtain⟨e,he,rfl⟩:=Ky.mp (pm.mem_iff.mp hv)
  obtain⟨⟨k,hk,_⟩,_⟩:=el e he
  obtain⟨t,ht⟩:=is k _ hk
  exact⟨k,t,ht,(me k).mpr ⟨e,he,hk⟩⟩
 ·obtain⟨e,he,h⟩:=(me k).mp hk
  obtain⟨t,ht⟩:=is k _ h
  exact⟨t,pm.mem_iff.mpr (Ky.mpr ⟨e,he,ht⟩)⟩
def perm_at {es:Array (Int×Gt)}{ps:List Nat}(pm:ps.Perm (MN es.size)):(ps.filterMap fun p=>es[p]?.map (·.2)).Perm (es.toList.map (·.2)):=by
 refine(pm.filterMap _).trans ?_
 have:(MN es.size).filterMap (fun p=>es[p]?.map (·.2))=es.toList.map (·.2):=by
  rw[<-filterMap_getElem?_range es,List.map_filterMap]
 rw[this]
def iter_set {a:Addr}{S:Int->Bool}{n:Nat}{Q:Gt->IQ->Prop}(G:SG prog w s.heap a S n)
  (hQ:∀I fp vs St h' d,(∀b o,s.heap.get? b=some o->h'.get? b=some o)->s.heap.objs.size<=I->I<h'.objs.size->(∀b∈fp,b=a\/s.heap.objs.size<=b)->I∈fp->WkS prog w I fp n vs St->St 0 h'->(∀i h,St i h->∃o,h.get? I=some o/\o.cls=.type "set_iterator")->vs.length=n->
   (∀v∈vs,∃k t,v=.int k t/\S k=true)->(∀k,S k=true->∃t,.int k t∈vs)->Q (.ref I) {s with heap:=h',drawn:=d}):wpAny (model prog w) A (pyIter (.ref a)) Q E s:=by
 obtain⟨o,es,ep,t,ho,hx,hd,el,me,hb,hf,hn,T⟩:=G
 subst hn
 have hT:s.TypeIs (.ref a) "set":=⟨o,ho,hx.1⟩
 have hlt:=IS ho
 refine Ny hT SQ (Jo SQ hT entry_set_iter ?_ (F.args_set_iter_1 _))
 unfold KF.«frozenset.__iter__» Ry slotArgs
 simp only[List.isEmpty_nil,Bool.not_true,KD,↓reduceIte,Tp,OV,bne_self_eq_false]
 unfold RB Rz
 refine cW (tx ?_)
 try dsimp only
 refine cW (tx ?_)
 refine cW (cW (My ho hd hf (tx ?_)))
 unfold setDrawn setsByText
 refine cW (cW (Lq ho hd hf ?_))
 dsimp only
 refine cW (cW (Mr (tx (tx ?_))))
 show wpAny _ _ (if (!ordB w&&(!t.plain&&decide (es.size>1)))=true then _ else _) _ _ _
 have hz:t.place.size=es.size:=by
  simp only[SetTable.fits,Jt,beq_iff_eq]at hf;exact hf.1
 cases hdr:(!ordB w&&(!t.plain&&decide (es.size>1)))with
 |true=>
  rw[if_pos rfl]
  refine cW (draw_perm _ _ _ (by simp) fun ps d pm=>?_)
  unfold newTuple
  refine cW (JF ?_ (by show(Tj _).size<=_;rw[IX,IU,pm.length_eq,Rl];exact OX hb))
  unfold setEpoch
  refine cW (cW (Lq (gV _ ho) hd hf (tx ?_)))
  refine cW (JF (tx ⟨_,rfl,"set_iterator",_,⟨_,IT _ rfl,rfl⟩,slot_seti.lookup,?_⟩))
  have hl:ps.length=es.size:=by rw[pm.length_eq,Rl]
  obtain⟨v1,v2⟩:=es_vals (S:=S) el me (perm_at pm)
  refine hQ _ [_,a,s.heap.objs.size] (ps.filterMap fun p=>es[p]?.map (·.2)) _ _ _ (fun b o e=>gV _ (gV _ e)) (by rw[JG];exact LO _) (by simp only[JG];omega) ?_ Jw
   (fun A hh=>walk_drawn hh (by rw[JG];exact Jb (Nl hlt)) (by rw[JG];exact Jb (Mm _)) (ep:=ep) (t:=t) ps hl fun p hp=>by have:=pm.mem_iff.mp hp;simpa using this)
   ⟨⟨_,IT _ rfl,rfl,rfl⟩,⟨o,gV _ (gV _ ho),hd,hf⟩,gV _ (IT _ rfl)⟩ (fun i h st=>let ⟨o,ho,hc,_⟩:=st.1;⟨o,ho,hc⟩)
   (by rw[(perm_at pm).length_eq,IU,Ko]) v1 v2
  intro b hb
  simp only[IY,Jl,or_false]at hb
  rcases hb with rfl|rfl|rfl
  ·exact .inr (by rw[JG];exact LO _)
  ·exact .inl rfl
  ·exact .inr (IV _)
 |false=>
  rw[if_neg (by simp)]
  refine cW (tx ?_)
  unfold setEpoch
  refine cW (cW (Lq ho hd hf (tx ?_)))
  refine cW (JF (tx ⟨_,rfl,"set_iterator",_,⟨_,IT _ rfl,rfl⟩,slot_seti.lookup,?_⟩))
  have fin:∀(vs:List Gt)(sl:Nat->Nat),sl 0=0->vs.Perm (es.toList.map (·.2))->
    (∀(i:Nat)(s:IQ)(A:JK)(E:Gt->IQ->Prop)(Q:Option (Gt×Nat)->IQ->Prop),i<=es.size->StAt s.heap a es ep t->Q (vs[i]?.map fun v=>(v,sl (i+1))) s->wpAny (model prog w) A (setNext a (sl i) i ep) Q E s)->
    Q (.ref s.heap.objs.size) {s with heap:=s.heap.push {cls:=.type "set_iterator",data:=.fields [rawInt 0,rawInt 0,Ji a,rawInt es.size,rawInt ep].toArray}}:=fun vs sl s0 pm hnx=>by
   obtain⟨v1,v2⟩:=es_vals (S:=S) el me pm
   have hl:vs.length=es.size:=by rw[pm.length_eq,IU,Ko]
   refine hQ _ [_,a] vs _ _ s.drawn (fun b o e=>gV _ e) (IV _) (by rw[JG];exact Mm _) ?_ Jw
    (fun A hh=>walk_slot hh (Jb hlt) vs sl hl hnx) ⟨⟨_,IT _ rfl,rfl,by rw[s0];rfl⟩,⟨o,gV _ ho,hd,hf⟩⟩ (fun i h st=>let ⟨o,ho,hc,_⟩:=st.1;⟨o,ho,hc⟩) hl v1 v2
   intro b hb
   simp only[IY,Jl,or_false]at hb
   rcases hb with rfl|rfl
   ·exact .inr (IV _)
   ·exact .inl rfl
  cases hob:ordB w with
  |true=>
   refine fin ((pickOrder (w.params.setOrder a ep) es).toList.map (·.2)) (fun _=>0) rfl ((pickOrder_perm _ es).map _) fun i s A E Q hi ⟨o,ho,hd,hf⟩ q=>?_
   refine next_text hob ho hd hf ?_
   rw[Jr,OS,Kx]at q
   exact q
  |false=>
   rw[hob]at hdr T
   refine fin (es.toList.map (·.2)) (slAt t.place) rfl (.refl _) fun i s A E Q hi ⟨o,ho,hd,hf⟩ q=>?_
   refine next_place hob ho hd hf T.1 (by simpa using hdr) ?_
   rw[below_slAt T.2.2 (by omega)]
   rw[Jr,OS,Kx]at q
   rcases LK i es.size with h|h
   ·rw[Jp h]at q⊢
    rw[Jp (show i<t.place.size by omega)]
    dsimp only
    have e1:slAt t.place (i+1)=t.place[i]'(by omega)+1:=by simp[slAt,NF,show i<t.place.size by omega]
    rw[<-e1];exact q
   ·rw[Lk h]at q⊢
    exact q
end
section
variable {prog:Jd}{w:JL}{A:JK}{E:Gt->IQ->Prop}{s:IQ}
def collect_set {a:Addr}{S:Int->Bool}{n:Nat}{Q:List Gt->IQ->Prop}(hh:A.handled=none)(G:SG prog w s.heap a S n)(hn:n<=sizeLine)
  (hQ:∀h' d tk (acc:List Gt),(∀b o,s.heap.get? b=some o->h'.get? b=some o)->acc.length=n->(∀v∈acc,∃k t,v=.int k t/\S k=true)->(∀k,S k=true->∃t,.int k t∈acc)->Q acc {s with heap:=h',drawn:=d,toks:=tk}):
  wpAny (model prog w) A (collect (.ref a)) Q E s:=by
 obtain⟨o,es,ep,t,ho,hx,hd,r⟩:=id G
 have hlt:=IS ho
 unfold collect
 refine cW (wpAny_runValue (LN F.entry_proto_collect ?_))
 rw[Lc F.plain_proto_collect _]
 show wpAny _ A.in1 (newList []>>=fun l=>again (.builtin "list.__iadd__" ⟨[l,.ref a],[]⟩)) _ _ s
 refine cW (JF ?_)
 refine tx ⟨MD RZ _,LN F.entry_list_iadd ?_⟩
 rw[Lc RZ _]
 generalize hH:s.heap.push {cls:=.type "list",data:=.seq ([]:List Gt).toArray}=H1
 have hHs:H1.objs.size=s.heap.objs.size+1:=by rw[<-hH,JG]
 have up:∀b o,s.heap.get? b=some o->H1.get? b=some o:=fun b o e=>hH▸gV _ e
 have hL:H1.get? s.heap.objs.size=some {cls:=.type "list",data:=.seq ([]:List Gt).toArray}:=hH▸IT _ rfl
 have hT:Pj {s with heap:=H1} (.ref a) "set":=⟨o,up a o ho,hx.1⟩
 show wpAny _ A.in1 (Kw (.ref s.heap.objs.size) (.ref a) (.ref s.heap.objs.size)) _ _ _
 unfold Kw
 refine cW (Nm hT ?_)
 have h1:Mc (.ref s.heap.objs.size) (.ref a)=false:=by simp[Mc,Kc hlt]
 have h2:(LP "set"==LP "list")=false:=by decide
 have h3:(LP "set"==LP "tuple")=false:=by decide
 simp only[h1,h2,h3,PV,KD,if_false]
 refine cW (iter_set (s:={s with heap:=H1}) (G.at fun o e=>up a o e) fun I fp vs St h' d kp hI hI2 hfp hIf W st0 ty hl v1 v2=>?_)
 have hT':Pj {s with heap:=h',drawn:=d} (.ref a) "set":=⟨o,kp a o (up a o ho),hx.1⟩
 refine cW (Km ?_)
 unfold NU
 refine cW (LL hT' F.slot_set_len.lookup ?_)
 wp_delta
 refine cW (LY (b:=true) hT' (by rw[LD];kernel_rfl) ?_)
 show wpAny _ A.in1 (typeOf (Ji a)>>=_) _ _ _
 refine cW (Nm hT' ?_)
 refine tx ?_
 rw[if_pos (by decide)]
 refine cW (KY ?_)
 refine cW ?_
 have hS1:=kp _ _ hL
 show wpAny _ A.in1 (updateSeq s.heap.objs.size (·.push .none)>>=fun _=>updateSeq s.heap.objs.size (·.pop)) _ _ _
 refine cW (MB hS1 rfl ?_)
 have hS2:=JC (Lb (·.push Kk)) hS1 rfl
 refine MB hS2 rfl ?_
 have hS3:=JC (Lb (·.pop)) hS2 rfl
 have oth:∀b o,b≠s.heap.objs.size->h'.get? b=some o->((h'.update s.heap.objs.size (Lb (·.push Kk))).update s.heap.objs.size (Lb (·.pop))).get? b=some o:=
  fun b o hb e=>(JX _ _ (KQ hb)).trans ((JX _ _ (KQ hb)).trans e)
 have hLf:s.heap.objs.size∉fp:=fun hm=>by
  rcases hfp _ hm with h|h
  ·exact Kc hlt h
  ·change H1.objs.size<=_ at h;rw[hHs]at h;omega
 have W1:=(W A.in1 (by simp[hh])).toS
 refine tx ⟨MD La _,codeAny_extend_loopS W1 hn _ hLf _ n 0 _ _ _ rfl (Kf _) ?_ hS3 (ItemsOf.nil _) fun s' acc c hm hS' hacc=>?_⟩
 ·exact(W A hh).frame 0 _ _ st0 fun b hb o e=>oth b o (fun h=>hLf (h▸hb)) e
 show wpAny _ A (load s.heap.objs.size>>=_) _ _ s'
 refine cW (wpAny_load hS' (tx ?_))
 obtain⟨h2,g2,d2,t2,o2⟩:=s'
 have eg:g2=s.gens:=hm.gens
 have ed:d2=d:=hm.drawn
 have eo:o2=s.os:=hm.os
 subst eg;subst ed;subst eo
 have hv:acc.toList=vs:=by
  refine Rn fun i=>?_
  rcases LK i acc.size with h|h
  ·have:=hacc.2 i acc[i] (Jp h)
   rw[this,Kx,Jp h]
  ·rw[Kx,Lk h,KS (by rw[hl,<-hacc.1];exact h)]
 refine hQ h2 d2 t2 acc.toList (fun b o e=>?_) (by rw[hv];exact hl) (hv▸v1) (hv▸v2)
 have hb:=IS e
 have n1:b≠s.heap.objs.size:=Jb hb
 have n2:b≠I:=Jb (Jm hb (by change H1.objs.size<=I at hI;rw[hHs]at hI;exact Nat.le_of_succ_le hI))
 exact hm.heap b o (by simp[n1,n2]) (oth b o n1 (kp b o (up b o e)))
end
end HS
namespace L2
open PySem PySem.Calls PySem.W PyProof.Rows HS
section
variable {X:Cx}{pins:List (Addr×Obj)}{σ:St}{H:Hp}{s:IQ}
theorem my:∀(ns:List Int){us:List Gt},aX (ns.map V.int) us->OA us ns
 |[],us,h=>by cases h;exact .nil
 |n::ns,us,h=>by
  cases h with
  |cons a b=>
   obtain⟨t,rfl⟩:=(show ∃t,_=Na n t from a)
   exact .cons n t (my ns b)
theorem gP (f:Nat->Int):∀i,(firstMet f i).Nodup
 |0=>.nil
 |i+1=>by
  rw[QX]
  unfold step_dedup
  split
  ·exact gP f i
  ·rename_i h
   refine Rk.mpr ⟨gP f i,Ks.mpr ⟨Jl,.nil⟩,fun a ha b hb e=>h ?_⟩
   rw[JJ.mp hb]at e
   exact OG.mpr ⟨a,ha,by simp[e]⟩
def zt (ns:List Int)(k:Int):k∈firstMet (fun i=>ns.getD i 0) ns.length↔k∈ns:=by
 have h:=firstMet_any (fun i=>ns.getD i 0) ns.length k
 rw[HT.rX]at h
 have e:∀l:List Int,l.any (·==k)=true↔k∈l:=fun l=>by simp
 rw[<-e,<-e,h]
def ze {F L:List Int}(nd:F.Nodup)(sb:∀k∈F,k∈L)(h:L.length<=F.length):F.Perm L:=by
 induction F generalizing L with
 |nil=>rw[Mw.mp (Nat.le_zero.mp h)]
 |cons a F ih=>
  have ha:=sb a Jw
  obtain⟨n1,n2⟩:=Ks.mp nd
  refine((ih (L:=L.erase a) n2 (fun k hk=>?_) ?_).cons a).trans (List.perm_cons_erase ha).symm
  ·exact(List.mem_erase_of_ne (fun(e:k=a)=>n1 (by rw[<-e];exact hk))).mpr (sb k (Je _ hk))
  ·rw[List.length_erase_of_mem ha];simp only[JU]at h;omega
def lA (P:Jd)(w:JL)(p:Addr)(ns:List Int):HO:=.ext fun h=>SG P w h p (fun k=>(firstMet (fun i=>ns.getD i 0) ns.length).any (·==k)) (firstMet (fun i=>ns.getD i 0) ns.length).length
def yG (P:Jd)(w:JL):List V->Hp->VK->Prop:=fun xs H Q=>∃l ns,xs=[.ref l]/\H l=some (.lst (ns.map V.int))/\ns.length<64/\∀p,H p=none->Q (.ref p) (upd H p (lA P w p ns))
def EE (hc:X.calm=true):bI X (.type "set") (yG X.prog X.w):=fun pins s σ H xs us Q I r h=>by
 obtain⟨l,ns,rfl,hl,h64,q⟩:=h
 obtain⟨u,rfl,ru⟩:=dU r
 cases (show u=Ji l from ru)
 obtain⟨_,us,c,rel,ho⟩:=(show aU X.prog X.w H s.heap l (.lst (ns.map V.int))from I.hok l _ hl)
 have hi:OA us ns:=my ns rel
 have lu:us.length=ns.length:=by rw[<-rel.length,IU]
 refine sg_call (items:=us.toArray) (I.ok.hd hc) ⟨_,ho,rfl,_,rfl⟩ (by rw[NV];exact hi) (by rw[IX,lu];unfold scanBound;omega) fun h' tk G kp=>?_
 rw[show us.toArray.size=ns.length from by rw[IX,lu]]at G
 have kk:∀b o,s.heap.get? b=some o->h'.get? b=some o:=fun b o e=>kp b o (IS e) e
 obtain⟨o,_,_,_,eo,_⟩:=id G
 exact⟨.ref _,_,I.laid (o:=lA X.prog X.w s.heap.objs.size ns) (t':=tk) kk (IV _) ⟨G,⟨_,eo⟩,fun h1 h2 g k=>g.at k⟩,rfl,q _ (I.hok.fresh (IV _))⟩
def Inv.keptD {t':Nat}{d':Drawn}{h':Heap}(I:Inv X pins σ H s)(k:∀b u,s.heap.get? b=some u->h'.get? b=some u):Inv X pins σ H {s with heap:=h',drawn:=d',toks:=t'}:=by
 refine I.step (g':=s.gens) (d':=d') (ch:=[]) (fun _ z=>nomatch z) (fun b o _ _ _ e _=>k b o e) (fun b o _ _ _ e _=>⟨o.slots,k b o e⟩) (fun _ _ _ _ n=>n) (fun b o _ e=>⟨o,k b o e⟩) (fun _ _ e=>e) (fun _ _ _ e=>e) (fun b ps e=>⟨#[],by rw[e];simp⟩) (fun m hm=>?_) (I.hok.kept k) I.bare
 obtain⟨o,es,ep,ho,r⟩:=hm
 exact⟨o,es,ep,k _ o ho,r⟩
def tY (P:Jd)(w:JL):List V->Hp->VK->Prop:=fun xs H Q=>∃p ns,xs=[.ref p]/\H p=some (lA P w p ns)/\ns.length<64/\
 ∀(l:Addr)(ks:List Int),H l=none->ks.Pairwise (·<·)->(∀k,k∈ks↔k∈ns)->Q (.ref l) (upd H l (.lst (ks.map V.int)))
def Bf (hc:X.calm=true):bI X (.builtin "sorted") (tY X.prog X.w):=fun pins s σ H xs us Q I r h=>by
 obtain⟨p,ns,rfl,hp,h64,q⟩:=h
 obtain⟨u,rfl,ru⟩:=dU r
 cases (show u=Ji p from ru)
 obtain⟨G,_,_⟩:=(show aU X.prog X.w H s.heap p (lA X.prog X.w p ns)from I.hok p _ hp)
 have lf:(firstMet (fun i=>ns.getD i 0) ns.length).length<=ns.length:=So _ _
 refine Pb kind_sorted plain_sorted entry_sorted (args_sorted1 _) ?_
 unfold KF.«sorted»
 refine cW (m:=checkCount "sorted" 1 1 _) (tx ?_)
 refine cW (collect_set (A:=X.A.in1) (I.ok.hd hc) G (by rw[KB];omega) fun h1 d tk acc hk la v1 v2=>?_)
 refine cW (wpAny_newList ?_ (by rw[la,KB];omega))
 have hB:(h1.push {cls:=.type "list",data:=.seq acc.toArray}).get? h1.objs.size=some (seqObj "list" acc.toArray 0):=IT _ rfl
 obtain⟨ks,hI⟩:∃ks,OA acc ks:=by
  clear la v2 hB
  induction acc with
  |nil=>exact⟨[],.nil⟩
  |cons v acc ih=>
   obtain⟨k,t,rfl,_⟩:=v1 v Jw
   obtain⟨ks,h⟩:=ih fun v hv=>v1 v (Je _ hv)
   exact⟨k::ks,.cons k t h⟩
 have lk:ks.length=acc.length:=by
  clear la v1 v2 hB
  induction hI with
  |nil=>rfl
  |cons k t _ ih=>simp only[JU,ih]
 have mk:∀k t,Na k t∈acc->k∈ks:=by
  clear la v1 v2 hB lk
  induction hI with
  |nil=>intro k t h;cases h
  |cons k' t' _ ih=>
   intro k t h
   rcases IY.mp h with e|e
   ·cases e;exact Jw
   ·exact Je _ (ih k t e)
 have pf:(firstMet (fun i=>ns.getD i 0) ns.length).Perm ks:=ze (gP _ _) (fun k hk=>by
  obtain⟨t,ht⟩:=v2 k (OG.mpr ⟨k,hk,by simp⟩)
  exact mk k t ht) (by rw[lk,la];exact IV _)
 refine cW (Km (Jo slot_list_sort ⟨_,hB,rfl⟩ entry_list_sort ?_ (args_list_sort _)))
 refine list_sort_tree hB hI (by rw[la];omega) fun out ns' hI' pm up=>?_
 refine⟨_,rfl,tx ⟨_,rfl,?_⟩⟩
 obtain⟨c,hBa⟩:=sortedHeap_at (out:=out) hB
 have lt1:∀b o,h1.get? b=some o->b<h1.objs.size:=fun b o e=>IS e
 have nw:New s.heap h1.objs.size:=fun b u e z=>by subst z;exact KG _ (lt1 _ _ (hk _ u e))
 have I1:Inv X pins σ H {s with heap:=sortedHeap (h1.push {cls:=.type "list",data:=.seq acc.toArray}) h1.objs.size acc out,drawn:=d,toks:=tk}:=I.keptD fun b o e=>by
  rw[sortedHeap_old (Jb (lt1 _ _ (hk b o e))) (by rw[JG];exact Nl (lt1 _ _ (hk b o e)))]
  exact gV _ (hk b o e)
 have hl2:(ns'.map V.int).length<=sizeLine:=by rw[IU,pm.length_eq,lk,la,KB];omega
 refine⟨.ref h1.objs.size,_,Inv.track3 I I1 nw (nw.free I) (o:=.lst (ns'.map V.int)) ⟨hl2,out.toList,c,jy hI',by rw[hBa,Array.toArray_toList]⟩,rfl,q _ ns' (nw.free I) ?_ fun k=>?_⟩
 ·have nd:ns'.Nodup:=pm.nodup_iff.mpr (pf.nodup_iff.mp (gP _ _))
  exact(up.and nd).imp fun{a b} z=>by have:=z.1;have:=z.2;omega
 ·rw[pm.mem_iff,<-pf.mem_iff,zt]
def pL (t:TA):TE:=fun σ H Q=>∀P w,tCB (tY P w) (af (tCB (yG P w) t) ak) σ H Q
def sZ {e:Expr}{es:List Expr}{t:TA}{f g:Str}{p1 p2 p3 p4:Pos}(hc:X.calm=true)(hf:X.mg f=none)(bf:bootBuiltins f=some (.builtin "sorted"))(hg:X.mg g=none)(bg:bootBuiltins g=some (.type "set"))(ha:QA X (e::es) t)
  (gf:Gl X f:=by rfl)(nf:f≠"__name__":=by decide)(df:(f==("__debug__":Str))=false:=by decide)(gg:Gl X g:=by rfl)(ng:g≠"__name__":=by decide)(dg:(g==("__debug__":Str))=false:=by decide)
  (hs:bh (e::es)=true:=by rfl):QE X (.Call (.Name f p1) [.Call (.Name g p2) (e::es) [] p3] [] p4) (pL t):=
 ⟨(aN (p:=p1) (pos:=p4) (Bf hc) hf bf (ac (fE (p:=p2) (pos:=p3) (EE hc) hg bg ha gg ng dg hs) ai) gf nf df rfl).out.imp fun σ H Q h=>h X.prog X.w⟩
def zZ {x y z u v:Str}{px py pz pu pv ep pos:Pos}{ek:Nat}{e:Expr}{te:TE}(i j k l m:Nat)(hN:X.N.Nodup)(hc:X.calm=true)(he:QE X e te)
  (h1:X.N[i]?=some x:=by rfl)(hx:Loc X.env.scope x:=by first|exact .inl rfl|exact .inr rfl)(f1:X.fn x=true\/X.env.scope.names.lookup x=some .local:=by first|exact .inl rfl|exact .inr rfl)
  (h2:X.N[j]?=some y:=by rfl)(hy:Loc X.env.scope y:=by first|exact .inl rfl|exact .inr rfl)(f2:X.fn y=true\/X.env.scope.names.lookup y=some .local:=by first|exact .inl rfl|exact .inr rfl)
  (h3:X.N[k]?=some z:=by rfl)(hz:Loc X.env.scope z:=by first|exact .inl rfl|exact .inr rfl)(f3:X.fn z=true\/X.env.scope.names.lookup z=some .local:=by first|exact .inl rfl|exact .inr rfl)
  (h4:X.N[l]?=some u:=by rfl)(hu:Loc X.env.scope u:=by first|exact .inl rfl|exact .inr rfl)(f4:X.fn u=true\/X.env.scope.names.lookup u=some .local:=by first|exact .inl rfl|exact .inr rfl)
  (h5:X.N[m]?=some v:=by rfl)(hv:Loc X.env.scope v:=by first|exact .inl rfl|exact .inr rfl)(f5:X.fn v=true\/X.env.scope.names.lookup v=some .local:=by first|exact .inl rfl|exact .inr rfl)
  (hs:swapsWithSole [.Tuple [.Name x px,.Name y py,.Name z pz,.Name u pu,.Name v pv] ek ep] e pos.line X.env=pure false:=by rfl)(hw:swappedStores [.Tuple [.Name x px,.Name y py,.Name z pz,.Name u pu,.Name v pv] ek ep] e X.env=pure none:=by rfl):
  QS X (.Assign [.Tuple [.Name x px,.Name y py,.Name z pz,.Name u pu,.Name v pv] ek ep] e pos) (aE te (rq X.K 5 (bN (au i) (bN (au j) (bN (au k) (bN (au l) (bN (au m) gD))))))):=
 ⟨uU he.out (zX hc (cK (cV hN h1 hx f1) (cK (cV hN h2 hy f2) (cK (cV hN h3 hz f3) (cK (cV hN h4 hu f4) (cK (cV hN h5 hv f5) jB)))))) hs hw⟩
end
end L2
namespace Rs
open PySem PySem.Spec PyProof.Rows L2
abbrev gOp:=List Key->Option Key
def GK (s:Stmt)(j:Nat):Stmt:=match s with
 |.ClassDef _ _ _ b _ _ _ _ _ _ _=>b.getD j (.Pass ⟨0,0,0,0⟩)
 |_=>.Pass ⟨0,0,0,0⟩
def top (i:Nat):Stmt:=PySem.Challenge.pw_rootstamp_k57_whole_one_full_paper.main.body.getD i (.Pass ⟨0,0,0,0⟩)
abbrev wU:Stmt:=top 50
abbrev s_2:Stmt:=top 49
abbrev s_6:Stmt:=top 51
abbrev xa:Stmt:=top 57
abbrev xy:Stmt:=top 52
abbrev s_7:Stmt:=top 54
abbrev xg:Stmt:=top 55
abbrev wH:Stmt:=top 53
abbrev s_5:Stmt:=top 56
abbrev s_4:Stmt:=top 65
abbrev s_9:Stmt:=top 59
abbrev s_8:Stmt:=top 60
abbrev iu:Stmt:=top 62
abbrev xD:Stmt:=top 61
abbrev wn:Stmt:=top 58
abbrev vv:Stmt:=top 8
abbrev vo:Stmt:=top 19
abbrev vE:Stmt:=top 20
abbrev xL:Stmt:=top 40
abbrev wg:Stmt:=top 12
abbrev xQ:Stmt:=top 41
abbrev vB:Stmt:=top 17
abbrev xi:Stmt:=top 18
abbrev vc:Stmt:=top 9
abbrev vn:Stmt:=top 21
abbrev vZ:Stmt:=top 27
abbrev vR:Stmt:=top 26
abbrev vi:Stmt:=top 28
abbrev vh:Stmt:=top 43
abbrev wt:Stmt:=top 32
abbrev vA:Stmt:=top 31
abbrev wX:Stmt:=top 15
abbrev wO:Stmt:=top 13
abbrev xv:Stmt:=top 34
abbrev wJ:Stmt:=top 35
abbrev xH:Stmt:=top 33
abbrev vp:Stmt:=top 30
abbrev xK:Stmt:=top 14
abbrev xZ:Stmt:=top 37
abbrev xk:Stmt:=top 36
abbrev vX:Stmt:=top 44
abbrev xh:Stmt:=top 23
abbrev xt:Stmt:=top 24
abbrev s_0:Stmt:=GK (top 6) 0
abbrev lP:Stmt:=top 42
abbrev xE:Stmt:=top 38
abbrev lB:Stmt:=top 45
abbrev s_1:Stmt:=top 63
abbrev wu:Stmt:=top 47
abbrev s_3:Stmt:=top 64
abbrev wR:Stmt:=top 66
def sAt (i:Nat)(l:List Stmt):Stmt:=l.getD i (.Pass ⟨0,0,0,0⟩)
def sIf:Stmt->List Stmt|.If _ a _ _=>a|_=>[]
def uY:Stmt->Expr|.Return (some e) _=>e|.Assign _ e _=>e|.Expr e _=>e|_=>.Constant .none 0 ⟨0,0,0,0⟩
def gm:Expr->Expr|.Lambda _ b _ _=>b|e=>e
def kF:Expr->Scope|.Lambda _ _ sc _=>sc|_=>{kind:=.function,names:=[],isGenerator:=false,isCoroutine:=false}
abbrev wB:Expr:=(uY (sAt 0 (sIf (sAt 0 (ba iu)))))
def eZ:cQ:=⟨(("_law_stamper":Str)++".<locals>.")++"<lambda>",.expr (gm wB),kF wB,["_law_term"],["_law_book"]⟩
abbrev wz:Expr:=(uY (sAt 0 (sIf (sAt 1 (ba iu)))))
def gb:cQ:=⟨(("_law_stamper":Str)++".<locals>.")++"<lambda>",.expr (gm wz),kF wz,["_law_those"],["_law_other_here","_law_one","_law_book"]⟩
abbrev vd:Expr:=(uY (sAt 2 (ba iu)))
def gc:cQ:=⟨(("_law_stamper":Str)++".<locals>.")++"<lambda>",.expr (gm vd),kF vd,["_law_these"],["_law_many"]⟩
abbrev Rd (sp:Sp)(t:TS)(N:List Str):Prop:=∀(vs:List V)(H:Hp)(Q:VK)(E:XK),sp vs H Q E->t {nx:=fun _ H'=>Q .non H',rt:=Q} (L2.start N vs) H
abbrev Ln (sp:Sp)(n:Nat):Prop:=∀vs H Q E,sp vs H Q E->vs.length=n
set_option genInjectivity false in
structure Adr where
 a_16:Addr
 d_16:Jn
 a_2:Addr
 d_2:Jn
 a_6:Addr
 d_6:Jn
 a_19:Addr
 d_19:Jn
 a_15:Addr
 d_15:Jn
 a_7:Addr
 d_7:Jn
 a_14:Addr
 d_14:Jn
 a_20:Addr
 d_20:Jn
 a_5:Addr
 d_5:Jn
 a_4:Addr
 d_4:Jn
 a_9:Addr
 d_9:Jn
 a_8:Addr
 d_8:Jn
 a_10:Addr
 d_10:Jn
 a_17:Addr
 d_17:Jn
 a_18:Addr
 d_18:Jn
 a_43:Addr
 d_43:Jn
 a_31:Addr
 d_31:Jn
 a_37:Addr
 d_37:Jn
 a_26:Addr
 d_26:Jn
 a_35:Addr
 d_35:Jn
 a_25:Addr
 d_25:Jn
 a_30:Addr
 d_30:Jn
 a_52:Addr
 d_52:Jn
 a_40:Addr
 d_40:Jn
 a_21:Addr
 d_21:Jn
 a_38:Addr
 d_38:Jn
 a_44:Addr
 d_44:Jn
 a_46:Addr
 d_46:Jn
 a_53:Addr
 d_53:Jn
 a_41:Addr
 d_41:Jn
 a_22:Addr
 d_22:Jn
 a_50:Addr
 d_50:Jn
 a_42:Addr
 d_42:Jn
 a_36:Addr
 d_36:Jn
 a_33:Addr
 d_33:Jn
 a_32:Addr
 d_32:Jn
 a_39:Addr
 d_39:Jn
 a_47:Addr
 d_47:Jn
 a_51:Addr
 d_51:Jn
 a_48:Addr
 d_48:Jn
 a_29:Addr
 d_29:Jn
 a_34:Addr
 d_34:Jn
 a_23:Addr
 d_23:Jn
 a_0:Addr
 d_0:Jn
 a_24:Addr
 d_24:Jn
 a_49:Addr
 d_49:Jn
 a_28:Addr
 d_28:Jn
 a_1:Addr
 d_1:Jn
 a_27:Addr
 d_27:Jn
 a_3:Addr
 d_3:Jn
 a_45:Addr
 d_45:Jn
 k_10:Addr
 t_10:Addr
 c_Broken:Addr
set_option genInjectivity false in
structure Txt (K:If)(mg:Str->Option Gt)(A:Adr):Prop where
 f_16:Fm K mg "_law_sum" "_law_sum" wU A.a_16 A.d_16 ["_law_term"]
 f_2:Fm K mg "_law_cell_at" "_law_cell_at" s_2 A.a_2 A.d_2 ["_law_script","_law_k"]
 f_6:Fm K mg "_law_key" "_law_key" s_6 A.a_6 A.d_6 ["_law_cell","_law_bits"]
 f_19:Fm K mg "_law_turns" "_law_turns" xa A.a_19 A.d_19 ["_law_place","_law_count"]
 f_15:Fm K mg "_law_stream" "_law_stream" xy A.a_15 A.d_15 ["_law_cell","_law_many"]
 f_7:Fm K mg "_law_mark" "_law_mark" s_7 A.a_7 A.d_7 ["_law_number"]
 f_14:Fm K mg "_law_steps" "_law_steps" xg A.a_14 A.d_14 ["_law_xs","_law_bits","_law_many"]
 f_20:Fm K mg "_law_word" "_law_word" wH A.a_20 A.d_20 ["_law_number"]
 f_5:Fm K mg "_law_end" "_law_end" s_5 A.a_5 A.d_5 ["_law_xs","_law_bits","_law_key_here","_law_steps_here"]
 f_4:Fm K mg "_law_drawn" "_law_drawn" s_4 A.a_4 A.d_4 ["_law_script"]
 f_9:Fm K mg "_law_other_mark" "_law_other_mark" s_9 A.a_9 A.d_9 ["_law_mark_here"]
 f_8:Fm K mg "_law_other" "_law_other" s_8 A.a_8 A.d_8 ["_law_paper","_law_at","_law_other_here"]
 f_10:Fm K mg "_law_stamper" "_law_stamper" iu A.a_10 A.d_10 ["_law_way","_law_many","_law_book","_law_one","_law_other_here"]
 f_17:Fm K mg "_law_term_at" "_law_term_at" xD A.a_17 A.d_17 ["_law_paper","_law_at"]
 f_18:Fm K mg "_law_terms" "_law_terms" wn A.a_18 A.d_18 ["_law_stamper_here","_law_bits","_law_key_here","_law_count","_law_turns_here","_law_paper"]
 f_43:Fm K mg "is_whole" "is_whole" vv A.a_43 A.d_43 ["thing"]
 f_31:Fm K mg "is_count" "is_count" vo A.a_31 A.d_31 ["thing"]
 f_37:Fm K mg "is_place" "is_place" vE A.a_37 A.d_37 ["count","place"]
 f_26:Fm K mg "check_place" "check_place" xL A.a_26 A.d_26 ["count","place"]
 f_35:Fm K mg "is_key" "is_key" wg A.a_35 A.d_35 ["bits","thing"]
 f_25:Fm K mg "check_pair" "check_pair" xQ A.a_25 A.d_25 ["thing"]
 f_30:Fm K mg "half" "half" vB A.a_30 A.d_30 ["many"]
 f_52:Fm K mg "ways" "ways" xi A.a_52 A.d_52 ["place","many"]
 f_40:Fm K mg "is_stamp" "is_stamp" vc A.a_40 A.d_40 ["thing"]
 f_21:Fm K mg "are_marks" "are_marks" vn A.a_21 A.d_21 ["many","thing"]
 f_38:Fm K mg "is_place_paper" "is_place_paper" vZ A.a_38 A.d_38 ["turns","thing"]
 f_44:Fm K mg "joint" "joint" vR A.a_44 A.d_44 ["turn","own","aside"]
 f_46:Fm K mg "place_terms" "place_terms" vi A.a_46 A.d_46 ["stamper","count","place","paper"]
 f_53:Fm K mg "with_place" "with_place" vh A.a_53 A.d_53 ["stamper","count","place","terms","marks"]
 f_41:Fm K mg "is_step" "is_step" wt A.a_41 A.d_41 ["bits","least","thing"]
 f_22:Fm K mg "are_steps" "are_steps" vA A.a_22 A.d_22 ["bits","thing"]
 f_50:Fm K mg "start" "start" wX A.a_50 A.d_50 ["bits","key","depth"]
 f_42:Fm K mg "is_value" "is_value" wO A.a_42 A.d_42 ["thing"]
 f_36:Fm K mg "is_leaf" "is_leaf" xv A.a_36 A.d_36 ["bits","depth","begin","thing"]
 f_33:Fm K mg "is_fork" "is_fork" wJ A.a_33 A.d_33 ["bits","depth","begin","thing"]
 f_32:Fm K mg "is_end" "is_end" xH A.a_32 A.d_32 ["bits","key","place","thing"]
 f_39:Fm K mg "is_slip" "is_slip" vp A.a_39 A.d_39 ["bits","key","thing"]
 f_47:Fm K mg "side" "side" xK A.a_47 A.d_47 ["bits","key","depth"]
 f_51:Fm K mg "step_term" "step_term" xZ A.a_51 A.d_51 ["bits","key","step","mark"]
 f_48:Fm K mg "slip_terms" "slip_terms" xk A.a_48 A.d_48 ["stamper","bits","key","slip"]
 f_29:Fm K mg "full_terms" "full_terms" vX A.a_29 A.d_29 ["stamper","bits","count","place","key","paper"]
 f_34:Fm K mg "is_head" "is_head" xh A.a_34 A.d_34 ["thing"]
 f_23:Fm K mg "check_head" "check_head" xt A.a_23 A.d_23 ["thing"]
 f_0:Fun K "__init__" "Broken.__init__" s_0 A.a_0 A.d_0
 b_0:dG K A.d_0 ["self","due","came"] []
 f_24:Fm K mg "check_mark" "check_mark" lP A.a_24 A.d_24 ["stamper","head","terms"]
 f_49:Fm K mg "slip_value" "slip_value" xE A.a_49 A.d_49 ["key","slip"]
 f_28:Fm K mg "full_answer" "full_answer" lB A.a_28 A.d_28 ["stamper","bits","head","place","key","paper"]
 f_1:Fm K mg "_law_answered" "_law_answered" s_1 A.a_1 A.d_1 ["_law_stamper_here","_law_bits","_law_head","_law_place","_law_key_here","_law_paper","_law_came"]
 f_27:Fm K mg "clash" "clash" wu A.a_27 A.d_27 ["stamper","terms"]
 f_3:Fm K mg "_law_clash" "_law_clash" s_3 A.a_3 A.d_3 ["_law_stamper_here","_law_terms_here"]
 f_45:Fm K mg "law" "law" wR A.a_45 A.d_45 ["_law_script"]
 z_all:mg "all"=none
 z_bool:mg "bool"=none
 z_int:mg "int"=none
 z_isinstance:mg "isinstance"=none
 z_len:mg "len"=none
 z_list:mg "list"=none
 z_ord:mg "ord"=none
 z_range:mg "range"=none
 z_reversed:mg "reversed"=none
 z_set:mg "set"=none
 z_sorted:mg "sorted"=none
 z_str:mg "str"=none
 z_tuple:mg "tuple"=none
 z_zip:mg "zip"=none
 c_MOST_SIGNS:∃t,mg "MOST_SIGNS"=some (.int 60 t)
 kc_10:A.d_10.code=.ref A.k_10
 mc_Broken:mg "Broken"=some (.ref A.c_Broken)
 eo_Broken:dI K A.c_Broken
 eg_Broken:jx K A.c_Broken
 ef_Broken_came:HT.fR K A.c_Broken "came"
 ef_Broken_due:HT.fR K A.c_Broken "due"
 em_Broken:yS K A.c_Broken A.a_0
 sb_Broken_Broken:iG K A.c_Broken A.c_Broken=some true
def FC (A:Adr)(H:Hp):Prop:=H A.t_10=some (.tbl #[])/\([A.t_10]:List Addr).Nodup
def Fk:gw ["_law_term","_law_book"] ["_law_term"] ["_law_book"] eZ.scope:=⟨rfl,rfl,rfl,by decide+kernel,rfl,rfl,by decide+kernel,by decide+kernel,by decide+kernel,by decide+kernel,by decide+kernel⟩
def Ed:gw ["_law_those","_law_other_here","_law_one","_law_book"] ["_law_those"] ["_law_other_here","_law_one","_law_book"] gb.scope:=⟨rfl,rfl,rfl,by decide+kernel,rfl,rfl,by decide+kernel,by decide+kernel,by decide+kernel,by decide+kernel,by decide+kernel⟩
def FR:gw ["_law_these","_law_many"] ["_law_these"] ["_law_many"] gc.scope:=⟨rfl,rfl,rfl,by decide+kernel,rfl,rfl,by decide+kernel,by decide+kernel,by decide+kernel,by decide+kernel,by decide+kernel⟩
def gH:aC ["_law_term","_law_total","_law_part","_law_sign"] ["_law_term"] (am wU):=scF
def HC:aC ["_law_script","_law_k"] ["_law_script","_law_k"] (am s_2):=scF
def BR:aC ["_law_cell","_law_bits","_law_top"] ["_law_cell","_law_bits"] (am s_6):=scF
def iv:aC ["_law_place","_law_count","_law_turns_here","_law_cut"] ["_law_place","_law_count"] (am xa):=scF
def kK:aC ["_law_cell","_law_many","_law_found","_law_number","_law_k"] ["_law_cell","_law_many"] (am xy):=scF
def Ie:aC ["_law_number"] ["_law_number"] (am s_7):=scF
def yq:aC ["_law_xs","_law_bits","_law_many","_law_depths"] ["_law_xs","_law_bits","_law_many"] (am xg):=scF
def sy:aC ["_law_number","_law_letters","_law_size"] ["_law_number"] (am wH):=scF
def jf:aC ["_law_xs","_law_bits","_law_key_here","_law_steps_here","_law_depth","_law_free","_law_further","_law_begin","_law_near"] ["_law_xs","_law_bits","_law_key_here","_law_steps_here"] (am s_5):=scF
def iw:aC ["_law_script","_law_bits","_law_key_here","_law_cell","_law_count","_law_turns_here","_law_xs","_law_steps_here","_law_marks"] ["_law_script"] (am s_4):=scF
def Hi:aC ["_law_mark_here"] ["_law_mark_here"] (am s_9):=scF
def oP:aC ["_law_paper","_law_at","_law_other_here","_law_marks","_law_slip","_law_steps_here","_law_end_here","_law_step","_law_k"] ["_law_paper","_law_at","_law_other_here"] (am s_8):=scF
def GW:aC ["_law_way","_law_many","_law_book","_law_one","_law_other_here"] ["_law_way","_law_many","_law_book","_law_one","_law_other_here"] (am iu):=scF
def yQ:aC ["_law_paper","_law_at","_law_steps_here"] ["_law_paper","_law_at"] (am xD):=scF
def jG:aC ["_law_stamper_here","_law_bits","_law_key_here","_law_count","_law_turns_here","_law_paper","_law_steps_here","_law_end_here","_law_terms_here","_law_depth","_law_mark_here","_law_begin","_law_turn"] ["_law_stamper_here","_law_bits","_law_key_here","_law_count","_law_turns_here","_law_paper"] (am wn):=scF
def Ge:aC ["thing"] ["thing"] (am vv):=scF
def Gg:aC ["thing"] ["thing"] (am vo):=scF
def FM:aC ["count","place"] ["count","place"] (am vE):=scF
def EC:aC ["count","place"] ["count","place"] (am xL):=scF
def Gz:aC ["bits","thing"] ["bits","thing"] (am wg):=scF
def Gx:aC ["thing"] ["thing"] (am xQ):=scF
def Eb:aC ["many"] ["many"] (am vB):=scF
def gJ:aC ["place","many","turns","first","rest","ahead"] ["place","many"] (am xi):=scF
def FE:aC ["thing"] ["thing"] (am vc):=scF
def GM:aC ["many","thing"] ["many","thing"] (am vn):=scF
def EN:aC ["turns","thing"] ["turns","thing"] (am vZ):=scF
def Eg:aC ["turn","own","aside"] ["turn","own","aside"] (am vR):=scF
def nK:aC ["stamper","count","place","paper","turns","terms","step"] ["stamper","count","place","paper"] (am vi):=scF
def Gu:aC ["stamper","count","place","terms","marks"] ["stamper","count","place","terms","marks"] (am vh):=scF
def GT:aC ["bits","least","thing"] ["bits","least","thing"] (am wt):=scF
def mQ:aC ["bits","thing","least","step"] ["bits","thing"] (am vA):=scF
def GD:aC ["bits","key","depth"] ["bits","key","depth"] (am wX):=scF
def FA:aC ["thing"] ["thing"] (am wO):=scF
def Gh:aC ["bits","depth","begin","thing"] ["bits","depth","begin","thing"] (am xv):=scF
def DH:aC ["bits","depth","begin","thing"] ["bits","depth","begin","thing"] (am wJ):=scF
def yE:aC ["bits","key","place","thing","begin"] ["bits","key","place","thing"] (am xH):=scF
def yw:aC ["bits","key","thing","place"] ["bits","key","thing"] (am vp):=scF
def DF:aC ["bits","key","depth"] ["bits","key","depth"] (am xK):=scF
def sq:aC ["bits","key","step","mark","depth","begin"] ["bits","key","step","mark"] (am xZ):=scF
def rO:aC ["stamper","bits","key","slip","terms","step"] ["stamper","bits","key","slip"] (am xk):=scF
def DQ:aC ["stamper","bits","count","place","key","paper"] ["stamper","bits","count","place","key","paper"] (am vX):=scF
def GP:aC ["thing"] ["thing"] (am xh):=scF
def FF:aC ["thing"] ["thing"] (am xt):=scF
def HB:aC ["self","due","came"] ["self","due","came"] (am s_0):=scF
def yL:aC ["stamper","head","terms","came"] ["stamper","head","terms"] (am lP):=scF
def yj:aC ["key","slip","end"] ["key","slip"] (am xE):=scF
def Eo:aC ["stamper","bits","head","place","key","paper"] ["stamper","bits","head","place","key","paper"] (am lB):=scF
def ip:aC ["_law_stamper_here","_law_bits","_law_head","_law_place","_law_key_here","_law_paper","_law_came","_law_end_here","_law_due","_law_marks","_law_found","e"] ["_law_stamper_here","_law_bits","_law_head","_law_place","_law_key_here","_law_paper","_law_came"] (am s_1):=scF
def nu:aC ["stamper","terms","firsts","term","ahead"] ["stamper","terms"] (am wu):=scF
def Bl:aC ["_law_stamper_here","_law_terms_here","_law_found"] ["_law_stamper_here","_law_terms_here"] (am s_3):=scF
def bT:aC ["_law_script","_law_bits","_law_key_here","_law_count","_law_turns_here","_law_paper","_law_place","_law_ys","_law_steps_here","_law_at","_law_other_here","_law_more","_law_way","_law_book","_law_sure","_law_one","_law_two","_law_due","_law_stamper_here","_law_head","_law_terms_here","_law_others","_law_came"] ["_law_script"] (am wR):=scF
inductive Dat where
 |non
 |bl (b:Bool)
 |int (i:Int)
 |str (z:Str)
 |lst (ds:List Dat)
 |tup (ds:List Dat)
 |dic
mutual
inductive bj (H:Hp):V->Dat->Prop
 |non:bj H .non .non
 |bl (b):bj H (.bl b) (.bl b)
 |int (i):bj H (.int i) (.int i)
 |str (z):bj H (.str z) (.str z)
 |lst {a xs ds}:H a=some (.lst xs)->DatWs H xs ds->bj H (.ref a) (.lst ds)
 |tup {a xs ds}:H a=some (.tup xs)->DatWs H xs ds->bj H (.ref a) (.tup ds)
 |dic {a}:(∃kvs,H a=some (.dK kvs))->bj H (.ref a) .dic
inductive DatWs (H:Hp):List V->List Dat->Prop
 |nil:DatWs H [] []
 |cons {x xs d ds}:bj H x d->DatWs H xs ds->DatWs H (x::xs) (d::ds)
end
mutual
def du:Dat->QB
 |.non=>.none
 |.bl b=>.bool b
 |.int i=>.int i
 |.str z=>.str z
 |.lst ds=>.list (toPys ds)
 |.tup ds=>.tuple (toPys ds)
 |.dic=>.none
def toPys:List Dat->List QB
 |[]=>[]
 |d::r=>du d::toPys r
end
def cm (z:Str):Bool:=z.cps.all (·<128)
mutual
def okD:Dat->Bool
 |.str z=>cm z&&decide (z.length<=100000)
 |.lst ds=>okDs ds
 |.tup ds=>okDs ds
 |.dic=>false
 |.non=>true
 |.bl _=>true
 |.int _=>true
def okDs:List Dat->Bool
 |[]=>true
 |d::r=>okD d&&okDs r
end
def vS:Dat->Bool
 |.int _=>true
 |_=>false
def bq:Dat->Bool
 |.int i=>decide (0<=i/\i<10^60)
 |.str _=>true
 |_=>false
def ck (w:Str):Dat->Bool
 |.str z=>decide (z=w)
 |_=>false
def hV (bits:Int):Dat->Bool
 |.int i=>decide (0<=i/\i<2^bits.toNat)
 |_=>false
def eR:Dat->Bool
 |.str z=>decide (z.length<=60)
 |_=>false
def aJ (bits key depth:Int):Int:=key/2^(bits- depth).toNat
def dN (bits depth begin:Int):Dat->Bool
 |.tup [w,.int k,z]=>ck "leaf" w&&decide (0<=k/\k<2^bits.toNat)&&eR z&&decide (aJ bits k depth=begin)
 |_=>false
def cz (bits depth begin:Int):Dat->Bool
 |.tup [w,.int e,.int b,_,_]=>ck "fork" w&&decide (depth<=e/\e<bits)&&decide (0<=b/\b<2^e.toNat)&&decide (b/2^(e- depth).toNat=begin)
 |_=>false
def fI:Dat->Bool
 |.tup [w]=>ck "bare" w
 |_=>false
def bz (bits least:Int):Dat->Bool
 |.tup [.int d,m]=>decide (least<=d/\d<bits)&&bq m
 |_=>false
def dy:Dat->Int
 |.tup (.int d::_)=>d
 |_=>0
def aQ (bits:Int):Int->List Dat->Bool
 |_,[]=>true
 |least,s::r=>bz bits least s&&aQ bits (dy s+1) r
def sC (bits key:Int):Dat->Bool
 |.tup [_,.int e,.int b,m,n]=> !decide (b=aJ bits key e)&&bq m&&bq n
 |_=>false
def cv (bits key place:Int)(d:Dat):Bool:=
 if fI d then decide (place=0)
 else dN bits place (aJ bits key place) d||(cz bits place (aJ bits key place) d&&sC bits key d)
def hJ (ds:List Dat):Int:=match ds.getLast? with
 |some s=>dy s+1
 |none=>0
def jD (bits key:Int):Dat->Bool
 |.tup [.tup ds,e]=>aQ bits 0 ds&&cv bits key (hJ ds) e
 |_=>false
def fY (d:Dat):Prop:=(okD d=true/\(du d).depth<=140)\/d=.dic
def fK (K:If)(A:Adr):Sp:=fun vs H Q _=>∃v d,vs=[v]/\bj H v d/\Q (.bl (vS d)) H
def gh (K:If)(A:Adr):Sp:=fun vs H Q _=>∃v d,vs=[v]/\bj H v d/\Q (.bl (bq d)) H
def iM (K:If)(A:Adr):Sp:=fun vs H Q _=>∃(b k d:Int),vs=[.int b,.int k,.int d]/\d<=b/\Q (.int (aJ b k d)) H
inductive jJ (K:If)(A:Adr)(vs:List V)(H:Hp)(Q:VK)(E:XK):Prop|mk (b:Int)(v:V)(d:Dat)(_:vs=[.int b,v])(_:0<=b)(_:b<=60)(_:bj H v d)(_:Q (.bl (hV b d)) H)
def mX (K:If)(A:Adr):Sp:=fun vs H Q _=>∃(v:V)(d:Dat),vs=[v]/\bj H v d/\okD d=true/\Q (.bl (eR d)) H
inductive nF (K:If)(A:Adr)(vs:List V)(H:Hp)(Q:VK)(E:XK):Prop|mk (b p g:Int)(v:V)(d:Dat)(_:vs=[.int b,.int p,.int g,v])(_:0<=b)(_:b<=60)(_:p<=b)(_:bj H v d)(_:fY d)(_:Q (.bl (dN b p g d)) H)
inductive nh (K:If)(A:Adr)(vs:List V)(H:Hp)(Q:VK)(E:XK):Prop|mk (b p g:Int)(v:V)(d:Dat)(_:vs=[.int b,.int p,.int g,v])(_:0<=p)(_:b<=60)(_:p<=b)(_:bj H v d)(_:fY d)(_:Q (.bl (cz b p g d)) H)
def nq (K:If)(A:Adr):Sp:=fun vs H Q _=>∃(b l:Int)(v:V)(d:Dat),vs=[.int b,.int l,v]/\bj H v d/\Q (.bl (bz b l d)) H
def nj (K:If)(A:Adr):Sp:=fun vs H Q _=>∃(b:Int)(v:V)(d:Dat),vs=[.int b,v]/\bj H v d/\Q (.bl (match d with|.tup ds=>aQ b 0 ds|_=>false)) H
inductive nV (K:If)(A:Adr)(vs:List V)(H:Hp)(Q:VK)(E:XK):Prop|mk (b k p:Int)(v:V)(d:Dat)(_:vs=[.int b,.int k,.int p,v])(_:0<=p)(_:b<=60)(_:p<=b)(_:bj H v d)(_:fY d)(_:∀H',ar H H'->Q (.bl (cv b k p d)) H')
def AE:Dat->Prop
 |.tup [_,e]=>fY e
 |_=>True
inductive ni (K:If)(A:Adr)(vs:List V)(H:Hp)(Q:VK)(E:XK):Prop|mk (b k:Int)(v:V)(d:Dat)(_:vs=[.int b,.int k,v])(_:0<=b)(_:b<=60)(_:bj H v d)(_:AE d)(_:∀H',ar H H'->Q (.bl (jD b k d)) H')
def aT:Key->Dat
 |.inl i=>.int i
 |.inr z=>.str z
def stD (s:Int×Key):Dat:=.tup [.int s.1,aT s.2]
def bR (low:Int)(ds:List Dat):Int:=match ds.getLast? with
 |some s=>dy s+1
 |none=>low
def okP:Key->Bool
 |.inl i=>decide (0<=i/\i<10^60)
 |.inr z=>cm z&&decide (z.length<=100000)
def kN:Key->Bool
 |.inr _=>true
 |.inl _=>false
def okT (k:List Key):Bool:=decide (1<=k.length/\k.length<=8)&&(k.head?.map kN).getD false&&k.all okP
def cw (kvs:List (List Key×Key)):List (List Key×V):=kvs.map fun p=>(p.1,kV p.2)
def cN (kvs:List (List Key×Key))(k:List Key):Option Key:=(kvs.find? fun p=>decide (p.1=k)).map (·.2)
def eM (v:Key):Prop:=∃i:Int,v=.inl i/\0<=i/\i<10^60
def eL (kvs:List (List Key×Key)):Prop:=∀p∈kvs,eM p.2
def aG (b:Addr)(H H':Hp):Prop:=∀x o,x≠b->H x=some o->H' x=some o
def Lin (a c:Int)(kvs:List (List Key×Key)):Prop:=∀(i:Nat)(p:List Key×Key),kvs[i]?=some p->p.2=LR (a*(i:Int)+c)
def mW (t:Int)(c:Nat):Int:=t*3+(c:Int)
def ny (t:Int):Key->Int
 |.inl i=>(t*5+i)%1000000007
 |.inr z=>((ME z none (some 6)).cps.toList.foldl mW (t*7+3*(z.length:Int)))%1000000007
def Hs (z:Str):Prop:=cm z=true/\z.length<=60
inductive Kd where
 |sur
 |oth
def oi (k:List Key):Int:=k.foldl ny 0
inductive Stp (A:Adr)(H:Hp)(f b:Addr)(d:Kd)(g:gOp)(n:Nat):Prop
 |sur (q:Addr) (kvs:List (List Key×Key)) (hc:eY H f eZ [q] [.ref b]) (hb:H b=some (.dT (cw kvs))) (hl:kvs.length<=n) (hs:eL kvs) (st:Lin 3 5 kvs) (hg:g=cN kvs) (ed:d=.sur)
 |pla (q0 q1 q2 o1 o2:Addr) (k1 k2:List Key) (kvs:List (List Key×Key)) (hc:eY H f gb [q0,q1,q2] [.ref o2,.ref o1,.ref b]) (h1:H o1=some (.tup (k1.map kV))) (h2:H o2=some (.tup (k2.map kV))) (hb:H b=some (.dT (cw kvs))) (hl:kvs.length<=n) (hs:eL kvs) (st:Lin 3 5 kvs) (hg:g=fun k=>cN kvs (if k=k2 then k1 else k)) (ed:d=.oth)
 |wea (q:Addr) (m:Int) (h1:1<=m) (h2:m<=7) (hc:eY H f gc [q] [.int m]) (hb:b=f) (hg:g=fun k=>some (.inl (oi k%m))) (ed:d=.oth)
def Sub (g g':gOp):Prop:=∀k v,g k=some v->g' k=some v
def Ext (g:gOp)(h:List Key->Key):Prop:=∀k v,g k=some v->h k=v
abbrev PK (H:Hp):List Addr->List (List Key)->Prop:=Paired (fun(p:Addr)(k:List Key)=>H p=some (.tup (k.map kV))/\okT k=true)
def kA (kvs:List (List Key×V))(kk:List Key)(d:V):V:=(bM kvs kk).getD d
def kg (H:Hp)(b:Addr)(kvs:List (List Key×V))(kk:List Key)(d:V):Hp:=if (bM kvs kk).isSome=true then H else upd H b (.dT (dw kvs kk d))
def dh (P:Addr)(H H':Hp):Prop:=∀b o,H b=some o->b≠P->H' b=some o
def nJ (K:If)(A:Adr):Sp:=fun vs H Q _=>∃(p:Addr)(k:List Key),vs=[.ref p]/\H p=some (.tup (k.map kV))/\okT k=true/\Q (.int (oi k)) H
inductive sd (K:If)(A:Adr)(vs:List V)(H:Hp)(Q:VK)(E:XK):Prop|mk (p b:Addr)(k:List Key)(kvs:List (List Key×V))(_:vs=[.ref p,.ref b])(_:H p=some (.tup (k.map kV)))(_:H b=some (.dT kvs))(_:kvs.length<=50000)(_:Q (kA kvs k (.int (3*(kvs.length:Int)+5))) (kg H b kvs k (.int (3*(kvs.length:Int)+5))))
inductive rM (K:If)(A:Adr)(vs:List V)(H:Hp)(Q:VK)(E:XK):Prop|mk (p b o1 o2:Addr)(k k1 k2:List Key)(kvs:List (List Key×V))(_:vs=[.ref p,.ref o2,.ref o1,.ref b])(_:H p=some (.tup (k.map kV)))(_:H o1=some (.tup (k1.map kV)))(_:H o2=some (.tup (k2.map kV)))(_:H b=some (.dT kvs))(_:kvs.length<=50000)(_:∀H',ar H H'->Q (kA kvs (if k=k2 then k1 else k) (.int (3*(kvs.length:Int)+5))) (kg H' b kvs (if k=k2 then k1 else k) (.int (3*(kvs.length:Int)+5))))
inductive rL (K:If)(A:Adr)(vs:List V)(H:Hp)(Q:VK)(E:XK):Prop|mk (p:Addr)(m:Int)(k:List Key)(_:vs=[.ref p,.int m])(_:1<=m)(_:m<=7)(_:H p=some (.tup (k.map kV)))(_:okT k=true)(_:Q (.int (oi k%m)) H)
def iQ (A:Adr)(H:Hp):Prop:=∃ps,H A.t_10=some (.tbl ps)/\(ps=#[]\/∃c,ps=#[]++#[rawInt ((284:Nat):Int),rawInt ((15:Nat):Int),.ref c]/\H c=some (gj c eZ.qual))
inductive kI (K:If)(A:Adr)(vs:List V)(H:Hp)(Q:VK)(E:XK):Prop|mk (w m:Int)(b:Addr)(v1 v2:V)(kvs:List (List Key×Key))(n:Nat)(_:vs=[.int w,.int m,.ref b,v1,v2])(_:iQ A H)(_:H b=some (.dT (cw kvs)))(_:kvs.length<=n)(_:eL kvs)(_:Lin 3 5 kvs)(_:0<=w)(_:w<=2)(_:1<=m)(_:m<=7)(_:(∃(o1 o2:Addr)(k1 k2:List Key),v1=.ref o1/\v2=.ref o2/\H o1=some (.tup (k1.map kV))/\H o2=some (.tup (k2.map kV))))(_:∀(f b':Addr)(d:Kd)(g:gOp)(H':Hp),dh A.t_10 H H'->(w=0->iQ A H')->Stp A H' f b' d g n->(w=0->b'=b/\d=.sur)->Q (.ref f) H')
def lO (o:Key->List Key):Prop:=∀v,eM v->okT (o v)=true
def cU (h:List Key->Key):List Key->List (Key->List Key)->List (List Key)
 |e,[]=>[e]
 |e,o::r=>e::cU h (o (h e)) r
def eS (h:List Key->Key):List Key->List (Key->List Key)->List Key
 |e,[]=>e
 |e,o::r=>eS h (o (h e)) r
def TQ (A:Adr)(f b:Addr)(d:Kd)(e:List Key)(os:List (Key->List Key))(g:gOp)(n:Nat)(H:Hp)(Q:VK):Prop:=
 ∀(M:Addr)(ps:List Addr)(tt:List (List Key))(g':gOp)(H':Hp),aG b H H'->Stp A H' f b d g' (n+os.length)->Sub g g'->H M=none->H' M=some (.lst (ps.map V.ref))->PK H' ps tt->tt.length=os.length+1->(∀x∈tt.dropLast,∃v,g' x=some v)->(∀h,Ext g' h->tt=cU h e os)->Q (.ref M) H'
def bv (b k d:Int)(m s:Key):List Key:=if k/2^(b- d- 1).toNat%2=0 then[.inr "fork",.inl d,.inl (aJ b k d),s,m]else[.inr "fork",.inl d,.inl (aJ b k d),m,s]
def jtT (t:Int)(o a:Key):List Key:=if t=0 then[.inr "joint",o,a]else[.inr "joint",a,o]
def enT (v:Key):List Key:=[.inr "entry",v]
def roT (c:Int)(v:Key):List Key:=[.inr "row",.inl c,v]
def gY (B k:Int)(st:List (Int×Key)):List (Key->List Key):=st.reverse.map fun s v=>bv B k s.1 s.2 v
def fo (c:Int)(ts:List Int)(ks:List Key):List (Key->List Key):=((ts.zip ks).reverse.map fun x v=>jtT x.1 v x.2)++[roT c]
def bH (B k c:Int)(st:List (Int×Key))(ts:List Int)(ks:List Key):List (Key->List Key):=gY B k st++enT::fo c ts ks
structure cT (b k:Int)(st:List (Int×Key))(e:List Key):Prop where
 b1:1<=b
 b60:b<=60
 k0:0<=k
 k1:k<2^b.toNat
 gs:aQ b 0 (st.map stD)=true
 so:∀s∈st,okP s.2=true
 et:okT e=true
 en:cv b k (bR 0 (st.map stD)) (.tup (e.map aT))=true
def nk (H:Hp)(v:V)(b k:Int)(st:List (Int×Key))(e:List Key):Prop:=bj H v (.tup [.tup (st.map stD),.tup (e.map aT)])/\cT b k st e
def io (k:Int):List Key->V
 |[.inr w,.inl x,.inr z]=>if w="leaf"/\x=k then .str z else .non
 |_=>.non
def nI (K:If)(A:Adr):Sp:=fun vs H Q _=>∃(b k d:Int),vs=[.int b,.int k,.int d]/\d<b/\0<=k/\Q (.int (k/2^(b- d- 1).toNat%2)) H
inductive nR (K:If)(A:Adr)(vs:List V)(H:Hp)(Q:VK)(E:XK):Prop|mk (b k d:Int)(m s:Key)(p:Addr)(_:vs=[.int b,.int k,.ref p,kV s])(_:H p=some (.tup [.int d,kV m]))(_:d<b)(_:0<=k)(_:∀t,H t=none->Q (.ref t) (upd H t (.tup ((bv b k d m s).map kV))))
inductive mR (K:If)(A:Adr)(vs:List V)(H:Hp)(Q:VK)(E:XK):Prop|mk (f b:Addr)(d:Kd)(B k:Int)(w:V)(st:List (Int×Key))(e:List Key)(g:gOp)(n:Nat)(_:vs=[.ref f,.int B,.int k,w])(_:nk H w B k st e)(_:Stp A H f b d g n)(_:n<=40000)(_:TQ A f b d e (gY B k st) g n H Q)
inductive mL (K:If)(A:Adr)(vs:List V)(H:Hp)(Q:VK)(E:XK):Prop|mk (b k:Int)(v:V)(st:List (Int×Key))(e:List Key)(_:vs=[.int k,v])(_:nk H v b k st e)(_:Q (io k e) H)
def be (n:Nat):Nat:=2^OT (n- 1)
def cy:Nat->Nat->Nat->List Int
 |0,_,_=>[]
 |f+1,p,m=>if m<=1 then[]else if p<be m then 0::cy f p (be m)else 1::cy f (p- be m) (m- be m)
abbrev bi (c p:Nat):List Int:=cy 60 p c
structure pb (H:Hp)(P T:Addr)(e:Key)(ks:List Key):Prop where
 hP:H P=some (.tup [kV e,.ref T])
 hT:H T=some (.tup (ks.map kV))
def cg (ns:List Int)(k:Int):Int:=ns.getD k.toNat 0
def fq (K:If)(A:Adr):Sp:=fun vs H Q _=>∃(a:Addr)(ns:List Int)(k:Int),vs=[.ref a,.int k]/\SqL K H a (ns.map V.int)/\0<=k/\Q (.int (cg ns k)) H
def mY (K:If)(A:Adr):Sp:=fun vs H Q _=>∃m:Nat,vs=[.int (m:Int)]/\2<=m/\m<=2^60/\Q (.int ((be m:Nat):Int)) H
def nP (K:If)(A:Adr):Sp:=fun vs H Q _=>∃p m:Nat,vs=[.int (p:Int),.int (m:Int)]/\p<m/\m<=2^60/\∀D,H D=none->Q (.ref D) (upd H D (.lst ((bi m p).map V.int)))
def nG (K:If)(A:Adr):Sp:=fun vs H Q _=>∃p m:Nat,vs=[.int (p:Int),.int (m:Int)]/\p<m/\m<=2^60/\∀D,H D=none->Q (.ref D) (upd H D (.lst ((bi m p).map V.int)))
def kY (K:If)(A:Adr):Sp:=fun vs H Q _=>∃i:Int,vs=[.int i]/\0<=i/\i<2^60/\Q (.bl true) H
def kG (K:If)(A:Adr):Sp:=fun vs H Q _=>∃c p:Int,vs=[.int c,.int p]/\0<=p/\p<c/\c<2^60/\Q (.bl true) H
def nv (K:If)(A:Adr):Sp:=fun vs H Q _=>∃c p:Int,vs=[.int c,.int p]/\0<=p/\p<c/\c<2^60/\Q .non H
inductive nE (K:If)(A:Adr)(vs:List V)(H:Hp)(Q:VK)(E:XK):Prop|mk (p:Addr)(c:Nat)(v:Key)(_:vs=[.ref p])(_:H p=some (.tup [.int (c:Int),kV v]))(_:c<2^60)(_:okP v=true)(_:Q (.bl true) H)
inductive mK (K:If)(A:Adr)(vs:List V)(H:Hp)(Q:VK)(E:XK):Prop|mk (p:Addr)(c:Nat)(v:Key)(_:vs=[.ref p])(_:H p=some (.tup [.int (c:Int),kV v]))(_:c<2^60)(_:okP v=true)(_:Q .non H)
def nH (K:If)(A:Adr):Sp:=fun vs H Q _=>∃(p:Addr)(ks:List Key),vs=[.int (ks.length:Int),.ref p]/\H p=some (.tup (ks.map kV))/\(∀k∈ks,okP k=true)/\ks.length<=500/\∀H',ar H H'->Q (.bl true) H'
def nB (K:If)(A:Adr):Sp:=fun vs H Q _=>∃(t:Int)(o a:Key),vs=[.int t,kV o,kV a]/\∀p,H p=none->Q (.ref p) (upd H p (.tup ((jtT t o a).map kV)))
inductive nO (K:If)(A:Adr)(vs:List V)(H:Hp)(Q:VK)(E:XK):Prop|mk (L P T:Addr)(ts:List Int)(e:Key)(ks:List Key)(_:vs=[.ref L,.ref P])(_:H L=some (.lst (ts.map V.int)))(_:pb H P T e ks)(_:okP e=true)(_:(∀k∈ks,okP k=true))(_:ks.length=ts.length)(_:ks.length<=500)(_:∀H',ar H H'->Q (.bl true) H')
inductive nW (K:If)(A:Adr)(vs:List V)(H:Hp)(Q:VK)(E:XK):Prop|mk (f b P T:Addr)(d:Kd)(c p:Nat)(ks:List Key)(e:Key)(g:gOp)(n:Nat)(_:vs=[.ref f,.int (c:Int),.int (p:Int),.ref P])(_:pb H P T e ks)(_:okP e=true)(_:(∀k∈ks,okP k=true))(_:ks.length=(bi c p).length)(_:p<c)(_:c<2^60)(_:Stp A H f b d g n)(_:n<=40000)(_:TQ A f b d (enT e) (fo c (bi c p) ks) g n H Q)
def si (K:If)(A:Adr):Sp:=fun vs H Q _=>∃(a:Addr)(x y:V),vs=[.ref a,x,y]/\H a=some (fk A.c_Broken a none)/\∀dx,H dx=none->Q .non (upd (upd (upd H a (fk A.c_Broken a (some dx))) dx (gz [("due",x)] dx)) dx (gz (iK "came" y [("due",x)]) dx))
def oy (ks:List Key)(st:List (Int×Key))(e:List Key):Dat:=.tup [.tup (ks.map aT),.tup [.tup (st.map stD),.tup (e.map aT)]]
structure Pap (H:Hp)(P:Addr)(B k:Int)(m:Nat)(ks:List Key)(st:List (Int×Key))(e:List Key):Prop where
 w:bj H (.ref P) (oy ks st e)
 g:cT B k st e
 kl:ks.length=m
 ke:∀x∈ks,okP x=true
def nX (K:If)(A:Adr):Sp:=fun vs H Q _=>∃(p:Addr)(x y:V),vs=[.ref p]/\H p=some (.tup [x,y])/\Q .non H
inductive nU (K:If)(A:Adr)(vs:List V)(H:Hp)(Q:VK)(E:XK):Prop|mk (f b hd M p:Addr)(d:Kd)(c:Int)(mk:Key)(ps:List Addr)(t:List Key)(g:gOp)(n:Nat)(_:vs=[.ref f,.ref hd,.ref M])(_:Stp A H f b d g n)(_:n<=45000)(_:H hd=some (.tup [.int c,kV mk]))(_:H M=some (.lst ((ps++[p]).map V.ref)))(_:H p=some (.tup (t.map kV)))(_:okT t=true)(_:∀(w:Key)(g':gOp)(H':Hp),aG b H H'->Stp A H' f b d g' (n+1)->Sub g g'->g' t=some w->(w=mk->Q .non H')/\(w≠mk->∀(dx:Addr)(H'':Hp),ar H' H''->H'' dx=some (gz (iK "came" (kV w) [("due",kV mk)]) dx)->E (.ref A.c_Broken) (some dx) H''))
inductive mU (K:If)(A:Adr)(vs:List V)(H:Hp)(Q:VK)(E:XK):Prop|mk (f b M T:Addr)(d:Kd)(c p:Nat)(B k:Int)(st:List (Int×Key))(e:List Key)(ps:List Addr)(tt:List (List Key))(ks:List Key)(g:gOp)(n:Nat)(_:vs=[.ref f,.int (c:Int),.int (p:Int),.ref M,.ref T])(_:Stp A H f b d g n)(_:n<=39000)(_:H M=some (.lst (ps.map V.ref)))(_:PK H ps tt)(_:tt.length<=70)(_:(∀x∈tt.dropLast,∃v,g x=some v))(_:(∀h,Ext g h->tt=cU h e (gY B k st)))(_:tt.length=st.length+1)(_:H T=some (.tup (ks.map kV)))(_:(∀k∈ks,okP k=true))(_:ks.length=(bi c p).length)(_:p<c)(_:c<2^60)(_:∀(M':Addr)(ps':List Addr)(tt':List (List Key))(g':gOp)(H':Hp),aG b H H'->Stp A H' f b d g' (n+63)->Sub g g'->H M'=none->H' M'=some (.lst (ps'.map V.ref))->PK H' ps' tt'->tt'.length=(bH B k c st (bi c p) ks).length+1->(∀x∈tt'.dropLast,∃v,g' x=some v)->(∀h,Ext g' h->tt'=cU h e (bH B k c st (bi c p) ks))->Q (.ref M') H')
def FQ (A:Adr)(f b:Addr)(d:Kd)(e:List Key)(os:List (Key->List Key))(g:gOp)(n:Nat)(H:Hp)(Q:VK):Prop:=
 ∀(M:Addr)(ps:List Addr)(tt:List (List Key))(g':gOp)(H':Hp),aG b H H'->Stp A H' f b d g' (n+130)->Sub g g'->H M=none->H' M=some (.lst (ps.map V.ref))->PK H' ps tt->tt.length=os.length+1->(∀x∈tt.dropLast,∃v,g' x=some v)->(∀h,Ext g' h->tt=cU h e os)->Q (.ref M) H'
inductive jW (K:If)(A:Adr)(vs:List V)(H:Hp)(Q:VK)(E:XK):Prop|mk (f b P:Addr)(d:Kd)(B k:Int)(c p:Nat)(ks:List Key)(st:List (Int×Key))(e:List Key)(g:gOp)(n:Nat)(_:vs=[.ref f,.int B,.int (c:Int),.int (p:Int),.int k,.ref P])(_:Pap H P B k (bi c p).length ks st e)(_:p<c)(_:c<2^60)(_:Stp A H f b d g n)(_:n<=38000)(_:FQ A f b d e (bH B k c st (bi c p) ks) g n H Q)
inductive iz (K:If)(A:Adr)(vs:List V)(H:Hp)(Q:VK)(E:XK):Prop|mk (f b P L:Addr)(d:Kd)(B k:Int)(c:Nat)(ts:List Int)(ks:List Key)(st:List (Int×Key))(e:List Key)(g:gOp)(n:Nat)(_:vs=[.ref f,.int B,.int k,.int (c:Int),.ref L,.ref P])(_:Pap H P B k ts.length ks st e)(_:H L=some (.lst (ts.map V.int)))(_:(∀t∈ts,t=0\/t=1))(_:ts.length<=60)(_:c<2^60)(_:Stp A H f b d g n)(_:n<=38000)(_:FQ A f b d e (bH B k c st ts ks) g n H Q)
def Ih (A:Adr)(f b:Addr)(d:Kd)(e:List Key)(os:List (Key->List Key))(g:gOp)(n:Nat)(H:Hp)(R:Key->Hp->Prop):Prop:=
 ∀(w:Key)(g':gOp)(H':Hp),aG b H H'->Stp A H' f b d g' (n+140)->Sub g g'->(∀h,Ext g' h->w=h (eS h e os))->R w H'
def mO (K:If)(A:Adr):Sp:=fun vs H Q E=>∃(f b hd P:Addr)(d:Kd)(B k:Int)(c p:Nat)(mk:Key)(ks:List Key)(st:List (Int×Key))(e:List Key)(g:gOp)(n:Nat),vs=[.ref f,.int B,.ref hd,.int (p:Int),.int k,.ref P]/\Pap H P B k (bi c p).length ks st e/\p<c/\c<2^60/\H hd=some (.tup [.int (c:Int),kV mk])/\okP mk=true/\Stp A H f b d g n/\n<=38000/\
 Ih A f b d e (bH B k c st (bi c p) ks) g n H fun w H'=>(w=mk->Q (io k e) H')/\(w≠mk->∀(dx:Addr)(H'':Hp),ar H' H''->H'' dx=some (gz (iK "came" (kV w) [("due",kV mk)]) dx)->E (.ref A.c_Broken) (some dx) H'')
inductive oQ (K:If)(A:Adr)(vs:List V)(H:Hp)(Q:VK)(E:XK):Prop|mk (f b hd P:Addr)(d:Kd)(B k:Int)(c p:Nat)(mk w:Key)(ks:List Key)(st:List (Int×Key))(e:List Key)(g:gOp)(n:Nat)(_:vs=[.ref f,.int B,.ref hd,.int (p:Int),.int k,.ref P,kV w])(_:Pap H P B k (bi c p).length ks st e)(_:p<c)(_:c<2^60)(_:H hd=some (.tup [.int (c:Int),kV mk]))(_:okP mk=true)(_:okP w=true)(_:Stp A H f b d g n)(_:n<=38000)(_:(∀h,Ext g h->w=h (eS h e (bH B k c st (bi c p) ks))))(_:∀(g':gOp)(H':Hp),aG b H H'->Stp A H' f b d g' (n+140)->Sub g g'->Q (.bl true) H')
def smK:Key->Prop
 |.inl i=>0<=i/\i<=2000000
 |.inr z=>cm z=true/\z.length<=10
def sN (K:If)(A:Adr):Sp:=fun vs H Q _=>∃(c:Int)(B:Nat),vs=[.int c,.int (B:Int)]/\1<=B/\B<=60/\∀k:Nat,k<2^B->Q (.int (k:Int)) H
def lj (K:If)(A:Adr):Sp:=fun vs H Q _=>∃c m:Int,vs=[.int c,.int m]/\0<=m/\m<=100/\∀(D:Addr)(ns:List Int)(H':Hp),ar H H'->H D=none->(ns.length:Int)=m->H' D=some (.lst (ns.map V.int))->Q (.ref D) H'
def mT (K:If)(A:Adr):Sp:=fun vs H Q _=>∃c:Int,vs=[.int c]/\∀(z:Str)(H':Hp),ar H H'->Hs z->Q (.str z) H'
def iB (K:If)(A:Adr):Sp:=fun vs H Q _=>∃c:Int,vs=[.int c]/\∀(m:Key)(H':Hp),ar H H'->smK m->Q (kV m) H'
inductive kM (K:If)(A:Adr)(vs:List V)(H:Hp)(Q:VK)(E:XK):Prop|mk (L:Addr)(ns:List Int)(B m:Int)(_:vs=[.ref L,.int B,.int m])(_:H L=some (.lst (ns.map V.int)))(_:ns.length<=100)(_:1<=B)(_:B<=60)(_:0<=m)(_:m<=6)(_:∀(p:Addr)(st:List (Int×Key))(H':Hp),ar H H'->bj H' (.ref p) (.tup (st.map stD))->aQ B 0 (st.map stD)=true->(∀s∈st,smK s.2)->Q (.ref p) H')
inductive lC (K:If)(A:Adr)(vs:List V)(H:Hp)(Q:VK)(E:XK):Prop|mk (L p:Addr)(ns:List Int)(B k:Int)(st:List (Int×Key))(_:vs=[.ref L,.int B,.int k,.ref p])(_:H L=some (.lst (ns.map V.int)))(_:5<=ns.length)(_:1<=B)(_:B<=60)(_:0<=k)(_:k<2^B.toNat)(_:bj H (.ref p) (.tup (st.map stD)))(_:aQ B 0 (st.map stD)=true)(_:(∀s∈st,okP s.2=true))(_:∀(t:Addr)(e:List Key)(H':Hp),ar H H'->H' t=some (.tup (e.map kV))->okT e=true->cv B k (bR 0 (st.map stD)) (.tup (e.map aT))=true->Q (.ref t) H')
def rB (K:If)(A:Adr):Sp:=fun vs H Q _=>∃(a:Addr)(ns:List Int),vs=[.ref a]/\SqL K H a (ns.map V.int)/\
 ∀(R L P:Addr)(B k:Int)(c p:Nat)(ks:List Key)(st:List (Int×Key))(e:List Key)(H':Hp),ar H H'->H' R=some (.lst [.int B,.int k,.int (c:Int),.ref L,.ref P])->(p:Int)=cg ns 3%(c:Int)->p<c->c<2^60->H' L=some (.lst ((bi c p).map V.int))->Pap H' P B k (bi c p).length ks st e->(∀x∈ks,smK x)->(∀s∈st,smK s.2)->Q (.ref R) H'
def oI (K:If)(A:Adr):Sp:=fun vs H Q _=>∃m:Key,vs=[kV m]/\smK m/\∀w,okP w=true->Q (kV w) H
inductive sK (K:If)(A:Adr)(vs:List V)(H:Hp)(Q:VK)(E:XK):Prop|mk (P t:Addr)(i m:Nat)(B k:Int)(ks:List Key)(st:List (Int×Key))(e e2:List Key)(_:vs=[.ref P,.int (i:Int),.ref t])(_:Pap H P B k m ks st e)(_:m<=60)(_:(∀x∈ks,smK x))(_:(∀s∈st,smK s.2))(_:i<=st.length+ks.length)(_:H t=some (.tup (e2.map kV)))(_:cT B k st e2)(_:∀(P':Addr)(ks':List Key)(st':List (Int×Key))(e':List Key)(H':Hp),ar H H'->Pap H' P' B k m ks' st' e'->Q (.ref P') H')
inductive mP (K:If)(A:Adr)(vs:List V)(H:Hp)(Q:VK)(E:XK):Prop|mk (P:Addr)(i m:Nat)(B k:Int)(ks:List Key)(st:List (Int×Key))(e:List Key)(_:vs=[.ref P,.int (i:Int)])(_:Pap H P B k m ks st e)(_:i<=st.length+ks.length)(_:∀j:Nat,j<=st.length+ks.length+1->Q (.int (j:Int)) H)
def FD (h:List Key->Key)(ks:List (List Key)):Option (List Key×List Key)->Prop
 |none=>∀(j k:Nat) a b,j<k->ks[j]?=some a->ks[k]?=some b->h a=h b->a=b
 |some r=>∃j k:Nat,j<k/\ks[j]?=some r.1/\ks[k]?=some r.2/\r.1≠r.2/\h r.1=h r.2/\(∀(j' k':Nat) a b,j'<k'->k'<k->ks[j']?=some a->ks[k']?=some b->h a=h b->a=b)/\∀(j':Nat) a,j'<j->ks[j']?=some a->h a=h r.2->a=r.2
def Br (H:Hp):Option (List Key×List Key)->V->Prop
 |none,v=>v=.non
 |some r,v=>∃p a b:Addr,v=.ref p/\H p=some (.tup [.ref a,.ref b])/\H a=some (.tup (r.1.map kV))/\H b=some (.tup (r.2.map kV))/\okT r.1=true/\okT r.2=true
inductive mV (K:If)(A:Adr)(vs:List V)(H:Hp)(Q:VK)(E:XK):Prop|mk (f b L:Addr)(d:Kd)(ps:List Addr)(ks:List (List Key))(g:gOp)(n:Nat)(_:vs=[.ref f,.ref L])(_:Stp A H f b d g n)(_:H L=some (.lst (ps.map V.ref)))(_:PK H ps ks)(_:ks.length<=900)(_:n<=40000)(_:∀(v:V)(H':Hp)(g':gOp)(r:Option (List Key×List Key)),aG b H H'->Stp A H' f b d g' (n+ks.length)->Sub g g'->Br H' r v->(∀h:List Key->Key,Ext g' h->FD h ks r)->Q v H')
inductive sO (K:If)(A:Adr)(vs:List V)(H:Hp)(Q:VK)(E:XK):Prop|mk (f b L:Addr)(d:Kd)(ps:List Addr)(ks:List (List Key))(g:gOp)(n:Nat)(_:vs=[.ref f,.ref L])(_:Stp A H f b d g n)(_:H L=some (.lst (ps.map V.ref)))(_:PK H ps ks)(_:ks.length<=900)(_:n<=38000)(_:(∀h,Ext g h->∃x∈ks,∃y∈ks,x≠y/\h x=h y))(_:∀H',Q (.bl true) H')
def nQ (K:If)(A:Adr):Sp:=fun vs H Q _=>∃(a:Addr)(ns:List Int),vs=[.ref a]/\SqL K H a (ns.map V.int)/\ns.length<=63/\FC A H/\∀H',Q (.bl true) H'
def dk (K:If)(A:Adr):L2.lc:=[(eZ,sd K A),(gb,rM K A),(gc,rL K A)]
def Dw (K:If)(A:Adr):TE:=tBM K "dict" jN (ae 1) (af (ae 0) (af (tOp (bo K) (tOp (dq) (tC (.int 3)) (tCB (bS K) (af (ae 1) (ak)))) (tC (.int 5))) (ak)))
def AG (K:If)(A:Adr):TE:=tBM K "dict" jN (ae 3) (af (tOp (az K) (fH (af (ae 0) (af (ae 2) (ak)))) (tCB (sI) (af (tOp (bw K) (ae 0) (ae 1)) (ak)))) (af (tOp (bo K) (tOp (dq) (tC (.int 3)) (tCB (bS K) (af (ae 3) (ak)))) (tC (.int 5))) (ak)))
def Dm (K:If)(A:Adr):TE:=tOp (bE) (ax (nJ K A) (fun _=>E0) (af (ae 0) (ak))) (ae 1)
def HU (K:If)(A:Adr):TS:=av (aE (tC (.int 0)) (au 1)) (av (fU (gI K (ae 0)) (au 2) (av (aZ (bQ K (tCB (dD) (af (ae 2) (af (tC (.ty "str")) (ak))))) (av (aE (tOp (bo K) (tOp (dq) (ae 1) (tC (.int 7))) (tOp (dq) (tC (.int 3)) (tCB (bS K) (af (ae 2) (ak))))) (au 1)) (fU (gI K (tSl (fJ K) (ae 2) (dA) (eG (tC (.int 6))))) (au 3) (aE (tOp (bo K) (tOp (dq) (ae 1) (tC (.int 3))) (tCB (xC) (af (ae 3) (ak)))) (au 1)))) (aE (tOp (bo K) (tOp (dq) (ae 1) (tC (.int 5))) (ae 2)) (au 1))) (aE (tOp (bE) (ae 1) (tC (.int 1000000007))) (au 1)))) (aI (ae 1)))
def T_2 (K:If)(A:Adr):TS:=av (aZ (aO (tOp (mLt) (ae 1) (tCB (bS K) (af (ae 0) (ak))))) (aI (tOp (az K) (ae 0) (ae 1))) (aS)) (aI (tC (.int 0)))
def T_6 (K:If)(A:Adr):TS:=av (aE (tOp (gQ) (tC (.int 1)) (ae 1)) (au 2)) (av (aZ (aO (tOp (bw K) (tOp (bE) (ae 0) (tC (.int 3))) (tC (.int 0)))) (aI (tOp (bE) (tOp (di) (ae 0) (tC (.int 3))) (ae 2))) (aS)) (av (aZ (aO (tOp (bw K) (tOp (bE) (ae 0) (tC (.int 3))) (tC (.int 1)))) (aI (tOp (bE) (tOp (dq) (tOp (di) (ae 0) (tC (.int 3))) (tC (.int 982451653))) (ae 2))) (aS)) (aI (tOp (bV) (tOp (bV) (ae 2) (tC (.int 1))) (tOp (bE) (tOp (di) (ae 0) (tC (.int 3))) (ae 2))))))
def Iq (K:If)(A:Adr):TS:=av (aE (fH (ak)) (au 2)) (av (jd (aO (tOp (mGt) (ae 1) (tC (.int 1)))) (av (aE (tC (.int 1)) (au 3)) (av (jd (aO (tOp (mLt) (tOp (dq) (tC (.int 2)) (ae 3)) (ae 1))) (aE (tOp (dq) (tC (.int 2)) (ae 3)) (au 3))) (aZ (aO (tOp (mLt) (ae 0) (ae 3))) (av (cA (tBM K "list" cn (ae 2) (af (tC (.int 0)) (ak)))) (aE (ae 3) (au 1))) (av (cA (tBM K "list" cn (ae 2) (af (tC (.int 1)) (ak)))) (av (aE (tOp (bV) (ae 0) (ae 3)) (au 0)) (aE (tOp (bV) (ae 1) (ae 3)) (au 1)))))))) (aI (ae 2)))
def HG (K:If)(A:Adr):TS:=av (aE (fH (ak)) (au 2)) (av (aE (tOp (bo K) (tOp (bE) (ae 0) (tC (.int 2147483647))) (tC (.int 11))) (au 3)) (av (fU (nA (af (ae 1) (ak))) (au 4) (av (aE (tOp (bE) (tOp (bo K) (tOp (bo K) (tOp (dq) (ae 3) (tC (.int 48271))) (tOp (dq) (tC (.int 7)) (ae 4))) (tC (.int 1))) (tC (.int 2147483647))) (au 3)) (cA (tBM K "list" cn (ae 2) (af (tOp (di) (ae 3) (tC (.int 8))) (ak)))))) (aI (ae 2))))
def T_7 (K:If)(A:Adr):TS:=aI (tOp (az K) (fH (af (tOp (bE) (tOp (di) (ae 0) (tC (.int 4))) (tC (.int 1000003))) (af (tCB (xj) (af (tOp (bE) (tOp (di) (ae 0) (tC (.int 4))) (tC (.int 10))) (ak))) (af (tOp (bE) (tOp (di) (ae 0) (tC (.int 4))) (tC (.int 10))) (af (tOp (dq) (tC (.str "m")) (tOp (bE) (tOp (di) (ae 0) (tC (.int 4))) (tC (.int 3)))) (ak)))))) (tOp (bE) (ae 0) (tC (.int 4))))
def Iu (K:If)(A:Adr):TS:=av (aE (pL (af (jF [1] (gI K (tSl (fJ K) (ae 0) (dA) (eG (ae 2)))) (fun _ H Q=>Q true H) (tOp (bE) (ae 0) (ae 1))) (ak))) (au 3)) (aI (tCB (pM K) (af (oM K [] (yR K (af (ae 3) (af (tSl (fJ K) (ae 0) (eG (ae 2)) (dA)) (ak)))) (fun _ H Q=>Q true H) (bx (af (ae 0) (af (ax (iB K A) (fun _=>E0) (af (ae 1) (ak))) (ak))))) (ak))))
def sS (K:If)(A:Adr):TS:=aI (tBM K "str" yD (tC (.str "")) (af (jF [0,1] (nA (af (ae 2) (ak))) (fun _ H Q=>Q true H) (tOp (az K) (ae 2) (tOp (bE) (tOp (bo K) (tOp (di) (ae 1) (tC (.int 64))) (tOp (dq) (tC (.int 7)) (ae 0))) (tC (.int 36))))) (ak)))
def Hf (K:If)(A:Adr):TS:=av (aE (tC (.str "abcdefghijklmnopqrstuvwxyz ABC0123;:")) (au 1)) (av (aE (tOp (bo K) (tOp (az K) (fH (af (tC (.int 0)) (af (tC (.int 1)) (af (tC (.int 2)) (af (tC (.int 5)) (ak)))))) (tOp (bE) (ae 0) (tC (.int 4)))) (tOp (dq) (tC (.int 55)) (tCB (sI) (af (tOp (bw K) (tOp (bE) (tOp (di) (ae 0) (tC (.int 4))) (tC (.int 16))) (tC (.int 9))) (ak))))) (au 2)) (sS K A))
def rS (K:If)(A:Adr):TS:=aI (bx (af (tC (.str "leaf")) (af (ae 8) (af (ax (mT K A) (fun _=>E0) (af (tOp (az K) (ae 0) (tC (.int 2))) (ak))) (ak)))))
def GA (K:If)(A:Adr):TS:=av (aZ (iX (aO (tOp (bw K) (tOp (bE) (tOp (az K) (ae 0) (tC (.int 0))) (tC (.int 4))) (tC (.int 2)))) (aO (tOp (mGt) (ae 5) (tC (.int 0))))) (aE (tOp (rl) (ae 2) (tOp (gQ) (tC (.int 1)) (tOp (bE) (tOp (az K) (ae 0) (tC (.int 1))) (ae 5)))) (au 8)) (aS)) (rS K A)
def yz (K:If)(A:Adr):TS:=av (aE (ae 2) (au 8)) (GA K A)
def yc (K:If)(A:Adr):TS:=av (aZ (iX (aO (tOp (bw K) (tOp (bE) (tOp (az K) (ae 0) (tC (.int 0))) (tC (.int 4))) (tC (.int 1)))) (aO (tOp (mGt) (ae 5) (tC (.int 1))))) (av (aE (tOp (bo K) (tOp (bo K) (ae 4) (tC (.int 1))) (tOp (bE) (tOp (az K) (ae 0) (tC (.int 1))) (tOp (bV) (ae 5) (tC (.int 1))))) (au 6)) (av (aE (tOp (rl) (tOp (jw) (ae 2) (tOp (bV) (ae 1) (ae 6))) (tOp (gQ) (tC (.int 1)) (tOp (bE) (tOp (az K) (ae 0) (tC (.int 2))) (tOp (bV) (ae 6) (ae 4))))) (au 7)) (aI (bx (af (tC (.str "fork")) (af (ae 6) (af (ae 7) (af (ax (iB K A) (fun _=>E0) (af (tOp (az K) (ae 0) (tC (.int 3))) (ak))) (af (ax (iB K A) (fun _=>E0) (af (tOp (az K) (ae 0) (tC (.int 4))) (ak))) (ak)))))))))) (aS)) (yz K A)
def FO (K:If)(A:Adr):TS:=av (aZ (iX (aO (tOp (bw K) (tOp (bE) (tOp (az K) (ae 0) (tC (.int 0))) (tC (.int 4))) (tC (.int 0)))) (aO (tOp (bw K) (ae 3) (bx (ak))))) (aI (bx (af (tC (.str "bare")) (ak)))) (aS)) (yc K A)
def yk (K:If)(A:Adr):TS:=av (aE (tOp (bV) (ae 1) (ae 4)) (au 5)) (FO K A)
def T_5 (K:If)(A:Adr):TS:=av (aE (tC (.int 0)) (au 4)) (av (aZ (aO (tOp (cR K) (ae 3) (bx (ak)))) (aE (tOp (bo K) (tOp (az K) (tOp (az K) (ae 3) (tUn dS (tC (.int 1)))) (tC (.int 0))) (tC (.int 1))) (au 4)) (aS)) (yk K A))
def Em (K:If)(A:Adr):TS:=aI (fH (af (ae 1) (af (ae 2) (af (ae 4) (af (ae 5) (af (bx (af (ae 8) (af (bx (af (ae 7) (af (ax (lC K A) (fun _=>E0) (af (tSl (fJ K) (ae 6) (eG (tC (.int 91))) (dA)) (af (ae 1) (af (ae 2) (af (ae 7) (ak)))))) (ak)))) (ak)))) (ak)))))))
def DW (K:If)(A:Adr):TS:=av (aE (tCB (pM K) (af (jF [] (gI K (tSl (fJ K) (ae 6) (eG (tC (.int 20))) (eG (tOp (bo K) (tC (.int 20)) (tCB (bS K) (af (ae 5) (ak))))))) (fun _ H Q=>Q true H) (ax (iB K A) (fun _=>E0) (af (ae 0) (ak)))) (ak))) (au 8)) (Em K A)
def Gc (K:If)(A:Adr):TS:=av (aE (ax (kM K A) (fun _=>E0) (af (ae 6) (af (ae 1) (af (tOp (bE) (tOp (az K) (ae 6) (tC (.int 90))) (tC (.int 7))) (ak))))) (au 7)) (DW K A)
def DS (K:If)(A:Adr):TS:=av (aE (ax (lj K A) (fun _=>E0) (af (ax (fq K A) (fun _=>E0) (af (ae 0) (af (tC (.int 4)) (ak)))) (af (tC (.int 100)) (ak)))) (au 6)) (Gc K A)
def yd (K:If)(A:Adr):TS:=av (aE (ax (nG K A) (fun _=>E0) (af (tOp (bE) (ax (fq K A) (fun _=>E0) (af (ae 0) (af (tC (.int 3)) (ak)))) (ae 4)) (af (ae 4) (ak)))) (au 5)) (DS K A)
def FP (K:If)(A:Adr):TS:=av (aE (tOp (bo K) (tC (.int 1)) (tOp (bE) (tOp (di) (ae 3) (tC (.int 4))) (tOp (az K) (fH (af (tC (.int 9)) (af (tC (.int 9)) (af (tC (.int 100)) (af (tOp (bV) (tOp (gQ) (tC (.int 1)) (tC (.int 60))) (tC (.int 1))) (ak)))))) (tOp (bE) (ae 3) (tC (.int 4)))))) (au 4)) (yd K A)
def FH (K:If)(A:Adr):TS:=av (aE (ax (fq K A) (fun _=>E0) (af (ae 0) (af (tC (.int 2)) (ak)))) (au 3)) (FP K A)
def yo (K:If)(A:Adr):TS:=av (aE (ax (sN K A) (fun _=>E0) (af (ax (fq K A) (fun _=>E0) (af (ae 0) (af (tC (.int 1)) (ak)))) (af (ae 1) (ak)))) (au 2)) (FH K A)
def T_4 (K:If)(A:Adr):TS:=av (aE (tOp (bo K) (tC (.int 1)) (tOp (bE) (ax (fq K A) (fun _=>E0) (af (ae 0) (af (tC (.int 0)) (ak)))) (tC (.int 60)))) (au 1)) (yo K A)
def T_9 (K:If)(A:Adr):TS:=av (aZ (bQ K (tCB (dD) (af (ae 0) (af (tC (.ty "str")) (ak))))) (aI (tOp (bo K) (ae 0) (tC (.str "x")))) (aS)) (aI (tOp (bo K) (ae 0) (tC (.int 1))))
def yA (K:If)(A:Adr):TS:=aI (bx (af (tOp (bo K) (tOp (bo K) (tSl (fJ K) (ae 3) (dA) (eG (ae 8))) (bx (af (ax (oI K A) (fun _=>E0) (af (tOp (az K) (ae 3) (ae 8)) (ak))) (ak)))) (tSl (fJ K) (ae 3) (eG (tOp (bo K) (ae 8) (tC (.int 1)))) (dA))) (af (ae 4) (ak))))
def T_8 (K:If)(A:Adr):TS:=av (aE (ae 0) (iR K 2 (bN (au 3) (bN (au 4) gD)))) (av (aE (ae 4) (iR K 2 (bN (au 5) (bN (au 6) gD)))) (av (aZ (aO (tOp (bw K) (ae 1) (tC (.int 0)))) (aI (bx (af (ae 3) (af (bx (af (ae 5) (af (ae 2) (ak)))) (ak))))) (aS)) (av (aZ (aO (tOp (mLe) (ae 1) (tCB (bS K) (af (ae 5) (ak))))) (av (aE (bx (af (tOp (az K) (tOp (az K) (ae 5) (tOp (bV) (ae 1) (tC (.int 1)))) (tC (.int 0))) (af (ax (oI K A) (fun _=>E0) (af (tOp (az K) (tOp (az K) (ae 5) (tOp (bV) (ae 1) (tC (.int 1)))) (tC (.int 1))) (ak))) (ak)))) (au 7)) (aI (bx (af (ae 3) (af (bx (af (tOp (bo K) (tOp (bo K) (tSl (fJ K) (ae 5) (dA) (eG (tOp (bV) (ae 1) (tC (.int 1))))) (bx (af (ae 7) (ak)))) (tSl (fJ K) (ae 5) (eG (ae 1)) (dA))) (af (ae 6) (ak)))) (ak)))))) (aS)) (av (aE (tOp (bV) (tOp (bV) (ae 1) (tC (.int 1))) (tCB (bS K) (af (ae 5) (ak)))) (au 8)) (yA K A)))))
def Ba (K:If)(A:Adr)(q0 q1 q2 q3:Addr):TSM:=vH (xq (aO (tOp (bw K) (ae 0) (tC (.int 0)))) (rH (pZ A.t_10 ⟨284,15,284,88⟩ eZ [q1])) (sG)) (vH (xq (aO (tOp (bw K) (ae 0) (tC (.int 1)))) (rH (pZ A.t_10 ⟨286,15,286,138⟩ gb [q3,q2,q1])) (sG)) (rH (pZ A.t_10 ⟨287,11,287,62⟩ gc [q0])))
def HJ (K:If)(A:Adr):TS:=av (aE (tCB (bS K) (af (tOp (az K) (tOp (az K) (ae 0) (tC (.int 1))) (tC (.int 0))) (ak))) (au 2)) (av (aZ (aO (tOp (bw K) (ae 1) (tC (.int 0)))) (aI (tC (.int 0))) (aS)) (av (aZ (aO (tOp (mLe) (ae 1) (ae 2))) (aI (tOp (bo K) (tOp (bV) (ae 2) (ae 1)) (tC (.int 1)))) (aS)) (aI (tOp (bV) (tOp (bo K) (tOp (bo K) (ae 2) (tC (.int 1))) (tCB (bS K) (af (tOp (az K) (ae 0) (tC (.int 0))) (ak)))) (tOp (bV) (tOp (bV) (ae 1) (tC (.int 1))) (ae 2))))))
def Hq (K:If)(A:Adr):TS:=av (aE (tOp (az K) (ae 5) (tC (.int 1))) (iR K 2 (bN (au 6) (bN (au 7) gD)))) (av (aE (fH (af (ae 7) (ak))) (au 8)) (av (fU (nC K (af (ae 6) (ak))) (iR K 2 (bN (au 9) (bN (au 10) gD))) (av (aE (tOp (jw) (ae 2) (tOp (bV) (ae 1) (ae 9))) (au 11)) (aZ (aO (tOp (bw K) (tOp (bE) (tOp (jw) (ae 2) (tOp (bV) (tOp (bV) (ae 1) (ae 9)) (tC (.int 1)))) (tC (.int 2))) (tC (.int 0)))) (cA (tBM K "list" cn (ae 8) (af (bx (af (tC (.str "fork")) (af (ae 9) (af (ae 11) (af (dj (dk K A) (fun _=>E0) (ae 0) (af (tOp (az K) (ae 8) (tUn dS (tC (.int 1)))) (ak))) (af (ae 10) (ak))))))) (ak)))) (cA (tBM K "list" cn (ae 8) (af (bx (af (tC (.str "fork")) (af (ae 9) (af (ae 11) (af (ae 10) (af (dj (dk K A) (fun _=>E0) (ae 0) (af (tOp (az K) (ae 8) (tUn dS (tC (.int 1)))) (ak))) (ak))))))) (ak))))))) (av (cA (tBM K "list" cn (ae 8) (af (bx (af (tC (.str "entry")) (af (dj (dk K A) (fun _=>E0) (ae 0) (af (tOp (az K) (ae 8) (tUn dS (tC (.int 1)))) (ak))) (ak)))) (ak)))) (av (fU (yu K (af (ae 4) (ak)) (af (tOp (az K) (ae 5) (tC (.int 0))) (ak))) (iR K 2 (bN (au 12) (bN (au 10) gD))) (aZ (aO (tOp (bw K) (ae 12) (tC (.int 0)))) (cA (tBM K "list" cn (ae 8) (af (bx (af (tC (.str "joint")) (af (dj (dk K A) (fun _=>E0) (ae 0) (af (tOp (az K) (ae 8) (tUn dS (tC (.int 1)))) (ak))) (af (ae 10) (ak))))) (ak)))) (cA (tBM K "list" cn (ae 8) (af (bx (af (tC (.str "joint")) (af (ae 10) (af (dj (dk K A) (fun _=>E0) (ae 0) (af (tOp (az K) (ae 8) (tUn dS (tC (.int 1)))) (ak))) (ak))))) (ak)))))) (av (cA (tBM K "list" cn (ae 8) (af (bx (af (tC (.str "row")) (af (ae 3) (af (dj (dk K A) (fun _=>E0) (ae 0) (af (tOp (az K) (ae 8) (tUn dS (tC (.int 1)))) (ak))) (ak))))) (ak)))) (aI (ae 8)))))))
def Hv (K:If)(A:Adr):TS:=aI (cr (tCB (dD) (af (ae 0) (af (tC (.ty "int")) (ak)))) (rp (tCB (dD) (af (ae 0) (af (tC (.ty "bool")) (ak))))))
def Hl (K:If)(A:Adr):TS:=aI (cr (ax (fK K A) (fun _=>E0) (af (ae 0) (ak))) (ej (mLe) (mLt) (tC (.int 0)) (ae 0) (tOp (gQ) (tC (.int 1)) (tC (.int 60)))))
def Iz (K:If)(A:Adr):TS:=aI (cr (ax (kY K A) (fun _=>E0) (af (ae 0) (ak))) (cr (ax (fK K A) (fun _=>E0) (af (ae 1) (ak))) (ej (mLe) (mLt) (tC (.int 0)) (ae 1) (ae 0))))
def Hd (K:If)(A:Adr):TS:=aZ (cf (bQ K (ax (kG K A) (fun _=>E0) (af (ae 0) (af (ae 1) (ak)))))) (eJ) (aS)
def HM (K:If)(A:Adr):TS:=aI (cr (ax (fK K A) (fun _=>E0) (af (ae 1) (ak))) (ej (mLe) (mLt) (tC (.int 0)) (ae 1) (tOp (gQ) (tC (.int 1)) (ae 0))))
def Hy (K:If)(A:Adr):TS:=aZ (mOr (cf (bQ K (tCB (dD) (af (ae 0) (af (tC (.ty "tuple")) (ak)))))) (aO (tOp (cR K) (tCB (bS K) (af (ae 0) (ak))) (tC (.int 2))))) (eJ) (aS)
def HX (K:If)(A:Adr):TS:=aI (tOp (gQ) (tC (.int 1)) (tOp (bV) (xR K "int" su (tOp (bV) (ae 0) (tC (.int 1)))) (tC (.int 1))))
def Hk (K:If)(A:Adr):TS:=av (aE (fH (ak)) (au 2)) (av (aE (tC (.int 0)) (au 3)) (av (aE (ae 1) (au 4)) (av (jd (aO (tOp (mGt) (ae 4) (tC (.int 1)))) (av (aE (ax (mY K A) (fun _=>E0) (af (ae 4) (ak))) (au 5)) (aZ (aO (tOp (mLt) (ae 0) (tOp (bo K) (ae 3) (ae 5)))) (av (cA (tBM K "list" cn (ae 2) (af (tC (.int 0)) (ak)))) (aE (ae 5) (au 4))) (av (cA (tBM K "list" cn (ae 2) (af (tC (.int 1)) (ak)))) (av (aE (tOp (bo K) (ae 3) (ae 5)) (au 3)) (aE (tOp (bV) (ae 4) (ae 5)) (au 4))))))) (aI (ae 2)))))
def GY (K:If)(A:Adr):TS:=av (aZ (bQ K (ax (fK K A) (fun _=>E0) (af (ae 0) (ak)))) (aI (ej (mLe) (mLt) (tC (.int 0)) (ae 0) (tOp (vM) (tC (.int 10)) (tC (.int 60))))) (aS)) (aI (tCB (dD) (af (ae 0) (af (tC (.ty "str")) (ak)))))
def Il (K:If)(A:Adr):TS:=aI (cr (tCB (dD) (af (ae 1) (af (tC (.ty "tuple")) (ak)))) (cr (tOp (bw K) (tCB (bS K) (af (ae 1) (ak))) (ae 0)) (tCB (CV) (af (jF [] (gI K (ae 1)) (fun _ H Q=>Q true H) (ax (gh K A) (fun _=>E0) (af (ae 0) (ak)))) (ak)))))
def Hj (K:If)(A:Adr):TS:=av (aZ (mOr (cf (bQ K (tCB (dD) (af (ae 1) (af (tC (.ty "tuple")) (ak)))))) (aO (tOp (cR K) (tCB (bS K) (af (ae 1) (ak))) (tC (.int 2))))) (aI (tC (.bl false))) (aS)) (aI (cr (ax (gh K A) (fun _=>E0) (af (tOp (az K) (ae 1) (tC (.int 0))) (ak))) (ax (nH K A) (fun _=>E0) (af (tCB (bS K) (af (ae 0) (ak))) (af (tOp (az K) (ae 1) (tC (.int 1))) (ak))))))
def HA (K:If)(A:Adr):TS:=aI (mIf (aO (tOp (bw K) (ae 0) (tC (.int 0)))) (bx (af (tC (.str "joint")) (af (ae 1) (af (ae 2) (ak))))) (bx (af (tC (.str "joint")) (af (ae 2) (af (ae 1) (ak))))))
def HN (K:If)(A:Adr):TS:=av (aZ (cf (bQ K (ax (kG K A) (fun _=>E0) (af (ae 1) (af (ae 2) (ak)))))) (eJ) (aS)) (av (aE (ax (nP K A) (fun _=>E0) (af (ae 2) (af (ae 1) (ak)))) (au 4)) (av (aZ (cf (bQ K (ax (nO K A) (fun _=>E0) (af (ae 4) (af (ae 3) (ak)))))) (eJ) (aS)) (av (aE (fH (af (bx (af (tC (.str "entry")) (af (tOp (az K) (ae 3) (tC (.int 0))) (ak)))) (ak))) (au 5)) (av (fU (nC K (af (tCB (pA K) (af (ae 4) (af (tOp (az K) (ae 3) (tC (.int 1))) (ak)))) (ak))) (au 6) (cA (tBM K "list" cn (ae 5) (af (ax (nB K A) (fun _=>E0) (af (tOp (az K) (ae 6) (tC (.int 0))) (af (dj (dk K A) (fun _=>E0) (ae 0) (af (tOp (az K) (ae 5) (tUn dS (tC (.int 1)))) (ak))) (af (tOp (az K) (ae 6) (tC (.int 1))) (ak))))) (ak))))) (av (cA (tBM K "list" cn (ae 5) (af (bx (af (tC (.str "row")) (af (ae 1) (af (dj (dk K A) (fun _=>E0) (ae 0) (af (tOp (az K) (ae 5) (tUn dS (tC (.int 1)))) (ak))) (ak))))) (ak)))) (aI (ae 5)))))))
def IH (K:If)(A:Adr):TS:=aI (tOp (bo K) (ae 3) (ax (nW K A) (fun _=>E0) (af (ae 0) (af (ae 1) (af (ae 2) (af (bx (af (dj (dk K A) (fun _=>E0) (ae 0) (af (tOp (az K) (ae 3) (tUn dS (tC (.int 1)))) (ak))) (af (ae 4) (ak)))) (ak)))))))
def Iy (K:If)(A:Adr):TS:=av (aZ (mOr (cf (bQ K (tCB (dD) (af (ae 2) (af (tC (.ty "tuple")) (ak)))))) (aO (tOp (cR K) (tCB (bS K) (af (ae 2) (ak))) (tC (.int 2))))) (aI (tC (.bl false))) (aS)) (aI (cr (ax (fK K A) (fun _=>E0) (af (tOp (az K) (ae 2) (tC (.int 0))) (ak))) (cr (ej (mLe) (mLt) (ae 1) (tOp (az K) (ae 2) (tC (.int 0))) (ae 0)) (ax (gh K A) (fun _=>E0) (af (tOp (az K) (ae 2) (tC (.int 1))) (ak))))))
def HL (K:If)(A:Adr):TS:=av (aZ (cf (bQ K (tCB (dD) (af (ae 1) (af (tC (.ty "tuple")) (ak)))))) (aI (tC (.bl false))) (aS)) (av (aE (tC (.int 0)) (au 2)) (av (fU (gI K (ae 1)) (au 3) (av (aZ (cf (bQ K (ax (nq K A) (fun _=>E0) (af (ae 0) (af (ae 2) (af (ae 3) (ak))))))) (aI (tC (.bl false))) (aS)) (aE (tOp (bo K) (tOp (az K) (ae 3) (tC (.int 0))) (tC (.int 1))) (au 2)))) (aI (tC (.bl true)))))
def IE (K:If)(A:Adr):TS:=aI (tOp (jw) (ae 1) (tOp (bV) (ae 0) (ae 2)))
def IB (K:If)(A:Adr):TS:=aI (cr (tCB (dD) (af (ae 0) (af (tC (.ty "str")) (ak)))) (tOp (mLe) (tCB (bS K) (af (ae 0) (ak))) (tC (.int 60))))
def IC (K:If)(A:Adr):TS:=av (aZ (mOr (cf (bQ K (tCB (dD) (af (ae 3) (af (tC (.ty "tuple")) (ak)))))) (mOr (aO (tOp (cR K) (tCB (bS K) (af (ae 3) (ak))) (tC (.int 3)))) (aO (tOp (cR K) (tOp (az K) (ae 3) (tC (.int 0))) (tC (.str "leaf")))))) (aI (tC (.bl false))) (aS)) (av (aZ (mOr (cf (bQ K (ax (jJ K A) (fun _=>E0) (af (ae 0) (af (tOp (az K) (ae 3) (tC (.int 1))) (ak)))))) (cf (bQ K (ax (mX K A) (fun _=>E0) (af (tOp (az K) (ae 3) (tC (.int 2))) (ak)))))) (aI (tC (.bl false))) (aS)) (aI (tOp (bw K) (ax (iM K A) (fun _=>E0) (af (ae 0) (af (tOp (az K) (ae 3) (tC (.int 1))) (af (ae 1) (ak))))) (ae 2))))
def Ha (K:If)(A:Adr):TS:=av (aZ (mOr (cf (bQ K (tCB (dD) (af (ae 3) (af (tC (.ty "tuple")) (ak)))))) (mOr (aO (tOp (cR K) (tCB (bS K) (af (ae 3) (ak))) (tC (.int 5)))) (aO (tOp (cR K) (tOp (az K) (ae 3) (tC (.int 0))) (tC (.str "fork")))))) (aI (tC (.bl false))) (aS)) (av (aZ (mOr (cf (bQ K (ax (fK K A) (fun _=>E0) (af (tOp (az K) (ae 3) (tC (.int 1))) (ak))))) (cf (aO (ej (mLe) (mLt) (ae 1) (tOp (az K) (ae 3) (tC (.int 1))) (ae 0))))) (aI (tC (.bl false))) (aS)) (av (aZ (mOr (cf (bQ K (ax (fK K A) (fun _=>E0) (af (tOp (az K) (ae 3) (tC (.int 2))) (ak))))) (cf (aO (ej (mLe) (mLt) (tC (.int 0)) (tOp (az K) (ae 3) (tC (.int 2))) (tOp (gQ) (tC (.int 1)) (tOp (az K) (ae 3) (tC (.int 1)))))))) (aI (tC (.bl false))) (aS)) (aI (tOp (bw K) (tOp (jw) (tOp (az K) (ae 3) (tC (.int 2))) (tOp (bV) (tOp (az K) (ae 3) (tC (.int 1))) (ae 1))) (ae 2)))))
def Ik (K:If)(A:Adr):TS:=av (aZ (aO (tOp (bw K) (ae 3) (bx (af (tC (.str "bare")) (ak))))) (aI (tOp (bw K) (ae 2) (tC (.int 0)))) (aS)) (av (aE (ax (iM K A) (fun _=>E0) (af (ae 0) (af (ae 1) (af (ae 2) (ak))))) (au 4)) (av (aZ (bQ K (ax (nF K A) (fun _=>E0) (af (ae 0) (af (ae 2) (af (ae 4) (af (ae 3) (ak))))))) (aI (tC (.bl true))) (aS)) (av (aZ (cf (bQ K (ax (nh K A) (fun _=>E0) (af (ae 0) (af (ae 2) (af (ae 4) (af (ae 3) (ak)))))))) (aI (tC (.bl false))) (aS)) (av (aZ (aO (tOp (bw K) (tOp (az K) (ae 3) (tC (.int 2))) (ax (iM K A) (fun _=>E0) (af (ae 0) (af (ae 1) (af (tOp (az K) (ae 3) (tC (.int 1))) (ak))))))) (aI (tC (.bl false))) (aS)) (aI (cr (ax (gh K A) (fun _=>E0) (af (tOp (az K) (ae 3) (tC (.int 3))) (ak))) (ax (gh K A) (fun _=>E0) (af (tOp (az K) (ae 3) (tC (.int 4))) (ak)))))))))
def Ic (K:If)(A:Adr):TS:=av (aZ (mOr (cf (bQ K (tCB (dD) (af (ae 2) (af (tC (.ty "tuple")) (ak)))))) (aO (tOp (cR K) (tCB (bS K) (af (ae 2) (ak))) (tC (.int 2))))) (aI (tC (.bl false))) (aS)) (av (aZ (cf (bQ K (ax (nj K A) (fun _=>E0) (af (ae 0) (af (tOp (az K) (ae 2) (tC (.int 0))) (ak)))))) (aI (tC (.bl false))) (aS)) (av (aE (mIf (bQ K (tOp (az K) (ae 2) (tC (.int 0)))) (tOp (bo K) (tOp (az K) (tOp (az K) (tOp (az K) (ae 2) (tC (.int 0))) (tUn dS (tC (.int 1)))) (tC (.int 0))) (tC (.int 1))) (tC (.int 0))) (au 3)) (aI (ax (nV K A) (fun _=>E0) (af (ae 0) (af (ae 1) (af (ae 3) (af (tOp (az K) (ae 2) (tC (.int 1))) (ak)))))))))
def Hb (K:If)(A:Adr):TS:=aI (tOp (sh) (tOp (jw) (ae 1) (tOp (bV) (tOp (bV) (ae 0) (ae 2)) (tC (.int 1)))) (tC (.int 1)))
def HY (K:If)(A:Adr):TS:=av (aE (tOp (az K) (ae 2) (tC (.int 0))) (au 4)) (av (aE (ax (iM K A) (fun _=>E0) (af (ae 0) (af (ae 1) (af (ae 4) (ak))))) (au 5)) (av (aZ (aO (tOp (bw K) (ax (nI K A) (fun _=>E0) (af (ae 0) (af (ae 1) (af (ae 4) (ak))))) (tC (.int 0)))) (aI (bx (af (tC (.str "fork")) (af (ae 4) (af (ae 5) (af (ae 3) (af (tOp (az K) (ae 2) (tC (.int 1))) (ak)))))))) (aS)) (aI (bx (af (tC (.str "fork")) (af (ae 4) (af (ae 5) (af (tOp (az K) (ae 2) (tC (.int 1))) (af (ae 3) (ak))))))))))
def Ir (K:If)(A:Adr):TS:=av (aZ (cf (bQ K (ax (jJ K A) (fun _=>E0) (af (ae 1) (af (ae 2) (ak)))))) (eJ) (aS)) (av (aZ (cf (bQ K (ax (ni K A) (fun _=>E0) (af (ae 1) (af (ae 2) (af (ae 3) (ak))))))) (eJ) (aS)) (av (aE (fH (af (tOp (az K) (ae 3) (tC (.int 1))) (ak))) (au 4)) (av (fU (nC K (af (tOp (az K) (ae 3) (tC (.int 0))) (ak))) (au 5) (cA (tBM K "list" cn (ae 4) (af (ax (nR K A) (fun _=>E0) (af (ae 1) (af (ae 2) (af (ae 5) (af (dj (dk K A) (fun _=>E0) (ae 0) (af (tOp (az K) (ae 4) (tUn dS (tC (.int 1)))) (ak))) (ak)))))) (ak))))) (aI (ae 4)))))
def HI (K:If)(A:Adr):TS:=av (cA (ax (nv K A) (fun _=>E0) (af (ae 2) (af (ae 3) (ak))))) (av (aZ (cf (bQ K (ax (jJ K A) (fun _=>E0) (af (ae 1) (af (ae 4) (ak)))))) (eJ) (aS)) (av (cA (ax (nX K A) (fun _=>E0) (af (ae 5) (ak)))) (aI (ax (mU K A) (fun _=>E0) (af (ae 0) (af (ae 2) (af (ae 3) (af (ax (mR K A) (fun _=>E0) (af (ae 0) (af (ae 1) (af (ae 4) (af (tOp (az K) (ae 5) (tC (.int 1))) (ak)))))) (af (tOp (az K) (ae 5) (tC (.int 0))) (ak))))))))))
def IN (K:If)(A:Adr):TS:=aI (cr (tCB (dD) (af (ae 0) (af (tC (.ty "tuple")) (ak)))) (cr (tOp (bw K) (tCB (bS K) (af (ae 0) (ak))) (tC (.int 2))) (cr (ax (kY K A) (fun _=>E0) (af (tOp (az K) (ae 0) (tC (.int 0))) (ak))) (ax (gh K A) (fun _=>E0) (af (tOp (az K) (ae 0) (tC (.int 1))) (ak))))))
def Io (K:If)(A:Adr):TS:=aZ (cf (bQ K (ax (nE K A) (fun _=>E0) (af (ae 0) (ak))))) (eJ) (aS)
def T_0 (K:If)(A:Adr):TS:=av (rF K A.c_Broken (ae 0) (ae 1) "due") (rF K A.c_Broken (ae 0) (ae 2) "came")
def CB (K:If)(A:Adr)(E:XK):TS:=av (aE (dj (dk K A) (fun _=>E0) (ae 0) (af (tOp (az K) (ae 2) (tUn dS (tC (.int 1)))) (ak))) (au 3)) (aZ (aO (tOp (cR K) (ae 3) (tOp (az K) (ae 1) (tC (.int 1))))) (rf A.c_Broken (si K A) (fun _=>E) (af (tOp (az K) (ae 1) (tC (.int 1))) (af (ae 3) (ak)))) (aS))
def Iw (K:If)(A:Adr):TS:=av (aE (tOp (az K) (ae 1) (tC (.int 1))) (au 2)) (aI (mIf (iX (aO (tOp (bw K) (tOp (az K) (ae 2) (tC (.int 0))) (tC (.str "leaf")))) (aO (tOp (bw K) (tOp (az K) (ae 2) (tC (.int 1))) (ae 0)))) (tOp (az K) (ae 2) (tC (.int 2))) (tC .non)))
def Bz (K:If)(A:Adr)(E:XK):TS:=av (cA (ax (mK K A) (fun _=>E0) (af (ae 2) (ak)))) (av (cA (ax (nU K A) (fun _=>E) (af (ae 0) (af (ae 2) (af (ax (jW K A) (fun _=>E0) (af (ae 0) (af (ae 1) (af (tOp (az K) (ae 2) (tC (.int 0))) (af (ae 3) (af (ae 4) (af (ae 5) (ak)))))))) (ak)))))) (aI (ax (mL K A) (fun _=>E0) (af (ae 4) (af (tOp (az K) (ae 5) (tC (.int 1))) (ak))))))
def ER (K:If)(A:Adr):TS:=aI (cr (tOp (sf) (ae 9) (tC .non)) (cr (tOp (bw K) (ae 10) (ae 8)) (xP (tOp (sf) (ae 10) (tC .non)) (tCB (dD) (af (ae 10) (af (tC (.ty "str")) (ak)))))))
def Ew (K:If)(A:Adr):TS:=av (aZ (aO (tOp (cR K) (ae 6) (tOp (az K) (ae 2) (tC (.int 1))))) (aI (tOp (bw K) (ae 9) (bx (af (tOp (az K) (ae 2) (tC (.int 1))) (af (ae 6) (ak)))))) (aS)) (ER K A)
def GJ (K:If)(A:Adr):TS:=av (Bd K (fun EH=>aE (ax (mO K A) EH (af (ae 0) (af (ae 1) (af (ae 2) (af (ae 3) (af (ae 4) (af (ae 5) (ak)))))))) (au 10)) (hAs K A.c_Broken 11 (aE (bx (af (rC K (ae 11) "due") (af (rC K (ae 11) "came") (ak)))) (au 9)) (yy)) (aS)) (Ew K A)
def Fb (K:If)(A:Adr):TS:=av (aE (tC .non) (au 10)) (GJ K A)
def ym (K:If)(A:Adr):TS:=av (aE (tC .non) (au 9)) (Fb K A)
def T_1 (K:If)(A:Adr):TS:=av (aE (tOp (az K) (tOp (az K) (ae 5) (tC (.int 1))) (tC (.int 1))) (au 7)) (av (aE (tC .non) (au 8)) (av (aZ (iX (aO (tOp (bw K) (tOp (az K) (ae 7) (tC (.int 0))) (tC (.str "leaf")))) (aO (tOp (bw K) (tOp (az K) (ae 7) (tC (.int 1))) (ae 4)))) (aE (tOp (az K) (ae 7) (tC (.int 2))) (au 8)) (aS)) (ym K A)))
def Ig (K:If)(A:Adr):TS:=av (aE (pQ) (au 2)) (av (fU (gI K (ae 1)) (au 3) (av (aE (tBM K "dict" jN (ae 2) (af (dj (dk K A) (fun _=>E0) (ae 0) (af (ae 3) (ak))) (af (ae 3) (ak)))) (au 4)) (aZ (aO (tOp (cR K) (ae 4) (ae 3))) (aI (bx (af (ae 4) (af (ae 3) (ak))))) (aS)))) (aI (tC .non)))
def T_3 (K:If)(A:Adr):TS:=av (aE (ax (mV K A) (fun _=>E0) (af (ae 0) (af (ae 1) (ak)))) (au 2)) (av (aZ (mOr (cf (bQ K (tCB (dD) (af (ae 2) (af (tC (.ty "tuple")) (ak)))))) (mOr (aO (tOp (cR K) (tCB (bS K) (af (ae 2) (ak))) (tC (.int 2)))) (aO (tOp (bw K) (tOp (az K) (ae 2) (tC (.int 0))) (tOp (az K) (ae 2) (tC (.int 1))))))) (aI (tC (.bl false))) (aS)) (aI (cr (tOp (oB K) (tOp (az K) (ae 2) (tC (.int 0))) (ae 1)) (cr (tOp (oB K) (tOp (az K) (ae 2) (tC (.int 1))) (ae 1)) (tOp (bw K) (dj (dk K A) (fun _=>E0) (ae 0) (af (tOp (az K) (ae 2) (tC (.int 0))) (ak))) (dj (dk K A) (fun _=>E0) (ae 0) (af (tOp (az K) (ae 2) (tC (.int 1))) (ak))))))))
def zE (K:If)(A:Adr):TS:=aI (ax (sO K A) (fun _=>E0) (af (ae 18) (af (tOp (bo K) (ae 20) (ae 21)) (ak))))
def qA (K:If)(A:Adr):TS:=av (aZ (mOr (aO (tOp (cR K) (ae 22) (tOp (az K) (ae 19) (tC (.int 1))))) (aO (tOp (bw K) (ae 5) (ae 10)))) (aI (tC (.bl true))) (aS)) (zE K A)
def zp (K:If)(A:Adr):TS:=av (aZ (iX (aO (tOp (bw K) (ae 12) (tC (.int 0)))) (aO (tOp (cR K) (tOp (bw K) (ae 22) (tOp (az K) (ae 19) (tC (.int 1)))) (tOp (bw K) (ae 5) (ae 10))))) (aI (tC (.bl false))) (aS)) (qA K A)
def zf (K:If)(A:Adr):TS:=av (aZ (cf (bQ K (ax (oQ K A) (fun _=>E0) (af (ae 18) (af (ae 1) (af (ae 19) (af (ae 6) (af (ae 2) (af (ae 10) (af (ae 22) (ak))))))))))) (aI (tC (.bl false))) (aS)) (zp K A)
def qx (K:If)(A:Adr):TS:=av (aZ (cf (bQ K (ax (oQ K A) (fun _=>E0) (af (ae 18) (af (ae 1) (af (ae 19) (af (ae 6) (af (ae 2) (af (ae 5) (af (tOp (az K) (ae 19) (tC (.int 1))) (ak))))))))))) (aI (tC (.bl false))) (aS)) (zf K A)
def zq (K:If)(A:Adr):TS:=av (aE (dj (dk K A) (fun _=>E0) (ae 18) (af (tOp (az K) (ae 21) (tUn dS (tC (.int 1)))) (ak))) (au 22)) (qx K A)
def zg (K:If)(A:Adr):TS:=av (aZ (aO (tOp (cR K) (ae 21) (ae 17))) (aI (tC (.bl false))) (aS)) (zq K A)
def zG (K:If)(A:Adr):TS:=av (aE (ax (iz K A) (fun _=>E0) (af (ae 18) (af (ae 1) (af (ae 2) (af (ae 3) (af (ae 4) (af (ae 10) (ak)))))))) (au 17)) (zg K A)
def zj (K:If)(A:Adr):TS:=av (aZ (aO (tOp (cR K) (ae 20) (ae 17))) (aI (tC (.bl false))) (aS)) (zG K A)
def zR (K:If)(A:Adr):TS:=av (aE (ax (jW K A) (fun _=>E0) (af (ae 18) (af (ae 1) (af (ae 3) (af (ae 6) (af (ae 2) (af (ae 10) (ak)))))))) (au 21)) (zj K A)
def zC (K:If)(A:Adr):TS:=av (aE (ax (jW K A) (fun _=>E0) (af (ae 18) (af (ae 1) (af (ae 3) (af (ae 6) (af (ae 2) (af (ae 5) (ak)))))))) (au 20)) (zR K A)
def zM (K:If)(A:Adr):TS:=av (aE (bx (af (ae 3) (af (dj (dk K A) (fun _=>E0) (ae 18) (af (tOp (az K) (ae 17) (tUn dS (tC (.int 1)))) (ak))) (ak)))) (au 19)) (zC K A)
def rc (K:If)(A:Adr):TS:=av (aE (ax (iz K A) (fun _=>E0) (af (ae 18) (af (ae 1) (af (ae 2) (af (ae 3) (af (ae 4) (af (ae 5) (ak)))))))) (au 17)) (zM K A)
def qG (K:If)(A:Adr):TS:=av (aE (ax (kI K A) (fun _=>E0) (af (ae 12) (af (tOp (bo K) (tC (.int 1)) (tOp (bE) (tOp (di) (ax (fq K A) (fun _=>E0) (af (ae 0) (af (tC (.int 7)) (ak)))) (tC (.int 3))) (tC (.int 7)))) (af (ae 13) (af (ae 15) (af (ae 16) (ak))))))) (au 18)) (rc K A)
def zT (K:If)(A:Adr):TS:=av (aZ (aO (tOp (mLt) (ae 9) (tCB (bS K) (af (ae 17) (ak))))) (aE (tOp (az K) (ae 17) (ae 9)) (au 16)) (aS)) (qG K A)
def Ai (K:If)(A:Adr):TS:=av (aE (ax (iz K A) (fun _=>E0) (af (ae 14) (af (ae 1) (af (ae 2) (af (ae 3) (af (ae 4) (af (ae 10) (ak)))))))) (au 17)) (zT K A)
def zy (K:If)(A:Adr):TS:=av (aE (ae 15) (au 16)) (Ai K A)
def Ac (K:If)(A:Adr):TS:=av (aE (tOp (az K) (ax (iz K A) (fun _=>E0) (af (ae 14) (af (ae 1) (af (ae 2) (af (ae 3) (af (ae 4) (af (ae 5) (ak)))))))) (ae 9)) (au 15)) (zy K A)
def zK (K:If)(A:Adr):TS:=av (aE (ax (mP K A) (fun _=>E0) (af (ae 5) (af (ae 9) (ak)))) (au 9)) (Ac K A)
def CP (K:If)(A:Adr):TS:=av (aE (ax (kI K A) (fun _=>E0) (af (tC (.int 0)) (af (tC (.int 1)) (af (ae 13) (af (bx (ak)) (af (bx (ak)) (ak))))))) (au 14)) (zK K A)
def Do (K:If)(A:Adr):TS:=av (aE (pQ) (au 13)) (CP K A)
def oq (K:If)(A:Adr):TS:=av (aE (tOp (bE) (ax (fq K A) (fun _=>E0) (af (ae 0) (af (tC (.int 7)) (ak)))) (tC (.int 3))) (au 12)) (Do K A)
def Dq (K:If)(A:Adr):TS:=av (aZ (aO (tOp (bw K) (tOp (bE) (tOp (az K) (ae 7) (tC (.int 9))) (tC (.int 5))) (tC (.int 0)))) (av (aE (ax (kM K A) (fun _=>E0) (af (tSl (fJ K) (ae 7) (eG (tC (.int 10))) (dA)) (af (ae 1) (af (tOp (bE) (tOp (az K) (ae 7) (tC (.int 9))) (tC (.int 7))) (ak))))) (au 11)) (aE (bx (af (tOp (az K) (ae 5) (tC (.int 0))) (af (bx (af (ae 11) (af (ax (lC K A) (fun _=>E0) (af (ae 7) (af (ae 1) (af (ae 2) (af (ae 11) (ak)))))) (ak)))) (ak)))) (au 10))) (aS)) (oq K A)
def uR (K:If)(A:Adr):TS:=av (aE (ax (sK K A) (fun _=>E0) (af (ae 5) (af (ae 9) (af (ax (lC K A) (fun _=>E0) (af (ae 7) (af (ae 1) (af (ae 2) (af (ae 8) (ak)))))) (ak))))) (au 10)) (Dq K A)
def HW (K:If)(A:Adr):TS:=av (aE (ax (rB K A) (fun _=>E0) (af (ae 0) (ak))) (rq K 5 (bN (au 1) (bN (au 2) (bN (au 3) (bN (au 4) (bN (au 5) gD))))))) (av (aE (tOp (bE) (ax (fq K A) (fun _=>E0) (af (ae 0) (af (tC (.int 3)) (ak)))) (ae 3)) (au 6)) (av (aE (ax (lj K A) (fun _=>E0) (af (ax (fq K A) (fun _=>E0) (af (ae 0) (af (tC (.int 5)) (ak)))) (af (tC (.int 30)) (ak)))) (au 7)) (av (aE (tOp (az K) (tOp (az K) (ae 5) (tC (.int 1))) (tC (.int 0))) (au 8)) (av (aE (tOp (bE) (ax (fq K A) (fun _=>E0) (af (ae 0) (af (tC (.int 6)) (ak)))) (tOp (bo K) (tOp (bo K) (tC (.int 1)) (tCB (bS K) (af (ae 8) (ak)))) (tCB (bS K) (af (tOp (az K) (ae 5) (tC (.int 0))) (ak))))) (au 9)) (uR K A)))))
variable {K:If}{mg:Str->Option Gt}{A:Adr}
def tyD:Dat->String
 |.non=>"NoneType"
 |.bl _=>"bool"
 |.int _=>"int"
 |.str _=>"str"
 |.lst _=>"list"
 |.tup _=>"tuple"
 |.dic=>"dict"
def bj.ty {H:Hp}{v:V}{d:Dat}(h:bj H v d):tyN H v=some (tyD d):=by
 cases h with
 |lst e _=>unfold tyN;dsimp only;rw[e];rfl
 |tup e _=>unfold tyN;dsimp only;rw[e];rfl
 |dic e=>unfold tyN;dsimp only;obtain⟨kvs,e⟩:=e;rw[e];rfl
 |_=>rfl
mutual
theorem bj.toV {K:If}{H:Hp}{v:V}{d:Dat}(h:bj H v d)(ok:okD d=true):dz K H v (du d):=by
 cases h with
 |non=>exact .non
 |bl b=>exact .bl b
 |int i=>exact .int i
 |str z=>exact .str z
 |lst e r=>exact .lst (SqL.of e) (DatWs.toV r ok)
 |tup e r=>exact .tup (SqT.of e) (DatWs.toV r ok)
 |dic e=>cases ok
theorem DatWs.toV {K:If}{H:Hp}{xs:List V}{ds:List Dat}(h:DatWs H xs ds)(ok:okDs ds=true):DatVs K H xs (toPys ds):=by
 cases h with
 |nil=>exact .nil
 |cons a r=>
  have ok:(okD _&&okDs _)=true:=ok
  rw[Jt]at ok
  exact .cons (bj.toV a ok.1) (DatWs.toV r ok.2)
end
def uA {z:Str}(h:cm z=true):MR z=true:=by
 unfold MR
 unfold cm at h
 rw[On]at h⊢
 intro i hi
 have:=of_decide_eq_true (h i hi)
 exact decide_eq_true (by omega)
mutual
theorem eQ:∀{d:Dat},okD d=true->(du d).canLay0=true
 |.non,_=>rfl
 |.bl _,_=>rfl
 |.int _,_=>rfl
 |.str z,h=>uA (Jf.mp h).1
 |.lst ds,h=>lay_toPys h
 |.tup ds,h=>lay_toPys h
theorem lay_toPys:∀{ds:List Dat},okDs ds=true->Lg (toPys ds)=true
 |[],_=>rfl
 |d::r,h=>by
  have h:(okD d&&okDs r)=true:=h
  rw[Jt]at h
  show((du d).canLay0&&Lg (toPys r))=true
  rw[eQ h.1,lay_toPys h.2];rfl
end
theorem DatWs.len {H:Hp}:∀{xs:List V}{ds:List Dat},DatWs H xs ds->xs.length=ds.length
 |_,_,.nil=>rfl
 |_,_,.cons _ r=>by rw[JU,JU,r.len]
theorem DatWs.get {H:Hp}:∀{xs:List V}{ds:List Dat},DatWs H xs ds->∀{i:Nat}{x:V},xs[i]? =some x->∃d,ds[i]? =some d/\bj H x d
 |_,_,.nil,i,x,e=>by cases e
 |_,_,.cons a r,i,x,e=>by
  cases i with
  |zero=>cases e;exact⟨_,rfl,a⟩
  |succ i=>exact r.get e
mutual
theorem bj.mono {H H':Hp}{v:V}{d:Dat}(s:ar H H')(h:bj H v d):bj H' v d:=by
 cases h with
 |non=>exact .non
 |bl b=>exact .bl b
 |int i=>exact .int i
 |str z=>exact .str z
 |lst e r=>exact .lst (s _ _ e) (DatWs.mono s r)
 |tup e r=>exact .tup (s _ _ e) (DatWs.mono s r)
 |dic e=>exact(let ⟨k,e⟩:=e;.dic ⟨k,s _ _ e⟩)
theorem DatWs.mono {H H':Hp}{xs:List V}{ds:List Dat}(s:ar H H')(h:DatWs H xs ds):DatWs H' xs ds:=by
 cases h with
 |nil=>exact .nil
 |cons a r=>exact .cons (bj.mono s a) (DatWs.mono s r)
end
def qY {K:If}{H:Hp}{v:V}{d:Dat}{w:Str}{Q:VK}(h:bj H v d)(ok:okD d=true)(dp:(du d).depth<=150)(hw:MR w=true)(q:Q (.bl (!ck w d)) H):cR K v (.str w) H Q:=by
 have ref:∀a,v=.ref a->(du d).eqv (.str w)=false->ck w d=false->cR K v (.str w) H Q:=fun a e e1 e2=>by
  subst e
  refine⟨_,_,h.toV ok,.str w,eQ ok,hw,dp,?_⟩
  rw[e1];rw[e2]at q;exact q
 cases h with
 |non=>exact q
 |bl b=>exact q
 |int i=>exact q
 |str z=>exact q
 |lst e r=>exact ref _ rfl rfl rfl
 |tup e r=>exact ref _ rfl rfl rfl
 |dic e=>cases ok
def ixT {K:If}{H:Hp}{Q:VK}{a:Addr}{xs:List V}{x:V}{i:Int}{j:Nat}(ha:H a=some (.tup xs))(e:i=j)(hx:xs[j]?=some x)(q:Q x H):az K (.ref a) (.int i) H Q:=by
 subst e
 refine .inl (.inr (.inl ⟨a,xs,j,x,rfl,rfl,SqT.of ha,?_,q⟩))
 have hj:=(IW.mp hx).1
 rw[pe (by omega) (by omega)]
 simp[Jk,hx]
def Dt (K:If)(A:Adr):Ln (fK K A) 1:=by rintro vs H Q E ⟨v,d,rfl,_⟩;rfl
def DP (T:Txt K mg A)(vs:List V)(H:Hp)(Q:VK)(E:XK)(h:fK K A vs H Q E):Hv K A {nx:=fun _ H'=>Q .non H',rt:=Q} (start ["thing"] vs) H:=by
 obtain⟨v,d,rfl,w,q⟩:=h
 refine⟨by decide,_,w.ty,?_⟩
 cases d
 case int i=>exact Sel.yes rfl ⟨by decide,_,w.ty,q⟩
 case bl b=>exact Sel.yes rfl ⟨by decide,_,w.ty,q⟩
 all_goals exact Sel.no rfl q
def AO (K:If)(A:Adr):Ln (gh K A) 1:=by rintro vs H Q E ⟨v,d,rfl,_⟩;rfl
def Ej (T:Txt K mg A)(vs:List V)(H:Hp)(Q:VK)(E:XK)(h:gh K A vs H Q E):GY K A {nx:=fun _ H'=>Q .non H',rt:=Q} (start ["thing"] vs) H:=by
 obtain⟨v,d,rfl,w,q⟩:=h
 refine⟨v,d,rfl,w,?_⟩
 cases w with
 |int i=>
  refine Sel.yes rfl (Sel.dec (fun h0=>⟨⟨by decide,by decide,by decide⟩,?_⟩) (fun h0=>?_))
  ·show Q (.bl (decide (i<10^((60:Int).toNat)))) H
   have e:bq (.int i)=decide (i<10^((60:Int).toNat)):=by
    show decide (0<=i/\i<10^60)=decide (i<10^60)
    by_cases h1:i<10^60
    ·rw[decide_eq_true h1,decide_eq_true ⟨h0,h1⟩]
    ·rw[decide_eq_false h1,decide_eq_false fun z=>h1 z.2]
   rw[<-e];exact q
  ·have e:bq (.int i)=false:=decide_eq_false fun z=>h0 z.1
   rw[<-e];exact q
 |non=>exact Sel.no rfl ⟨by decide,_,rfl,q⟩
 |bl b=>exact Sel.no rfl ⟨by decide,_,rfl,q⟩
 |str z=>exact Sel.no rfl ⟨by decide,_,rfl,q⟩
 |lst e r=>exact Sel.no rfl ⟨by decide,_,(bj.lst e r).ty,q⟩
 |tup e r=>exact Sel.no rfl ⟨by decide,_,(bj.tup e r).ty,q⟩
 |dic e=>exact Sel.no rfl ⟨by decide,_,(bj.dic e).ty,q⟩
def AF (K:If)(A:Adr):Ln (iM K A) 3:=by rintro vs H Q E ⟨b,k,d,rfl,_⟩;rfl
def Ga (T:Txt K mg A):Rd (iM K A) (IE K A) ["bits","key","depth"]:=by
 intro vs H Q E h
 obtain⟨b,k,d,rfl,hd,q⟩:=h
 exact⟨by omega,q⟩
def Dh (K:If)(A:Adr):Ln (jJ K A) 2:=by rintro vs H Q E ⟨b,v,d,rfl,_⟩;rfl
def FY (T:Txt K mg A):Rd (jJ K A) (HM K A) ["bits","thing"]:=by
 intro vs H Q E h
 obtain⟨b,v,d,rfl,h0,h1,w,q⟩:=h
 refine⟨v,d,rfl,w,?_⟩
 cases w with
 |int i=>
  refine Sel.yes rfl (Sel.dec (fun h2=>⟨⟨h0,by omega,by decide⟩,?_⟩) (fun h2=>?_))
  ·show Q (.bl (decide (i<1*2^b.toNat))) H
   have e:hV b (.int i)=decide (i<1*2^b.toNat):=by
    show decide (0<=i/\i<2^b.toNat)=_
    rw[Nv]
    by_cases h1:i<2^b.toNat
    ·rw[decide_eq_true h1,decide_eq_true ⟨h2,h1⟩]
    ·rw[decide_eq_false h1,decide_eq_false fun z=>h1 z.2]
   rw[<-e];exact q
  ·have e:hV b (.int i)=false:=decide_eq_false fun z=>h2 z.1
   rw[<-e];exact q
 |_=>exact Sel.no rfl q
def Cj (K:If)(A:Adr):Ln (mX K A) 1:=by rintro vs H Q E ⟨v,d,rfl,_⟩;rfl
def ED (T:Txt K mg A):Rd (mX K A) (IB K A) ["thing"]:=by
 intro vs H Q E h
 obtain⟨v,d,rfl,w,ok,q⟩:=h
 refine⟨by decide,_,w.ty,?_⟩
 cases w with
 |str z=>
  have hl:=of_decide_eq_true (Jf.mp ok).2
  refine Sel.yes rfl (.inl ⟨aF (by omega),?_⟩)
  have e:eR (.str z)=decide ((z.length:Int)<=60):=by
   show decide (z.length<=60)=_
   by_cases h1:z.length<=60
   ·rw[decide_eq_true h1,decide_eq_true (by omega)]
   ·rw[decide_eq_false h1,decide_eq_false (by omega)]
  show Q (.bl (decide ((z.length:Int)<=60))) H
  rw[<-e];exact q
 |_=>exact Sel.no rfl q
def jb (b l i:Int)(m:Dat):bz b l (.tup [.int i,m])=(decide (l<=i/\i<b)&&bq m):=rfl
def AY (K:If)(A:Adr):Ln (nq K A) 3:=by rintro vs H Q E ⟨b,l,v,d,rfl,_⟩;rfl
def DE (T:Txt K mg A):Rd (nq K A) (Iy K A) ["bits","least","thing"]:=by
 intro vs H Q E h
 obtain⟨b,l,v,d,rfl,w,q⟩:=h
 refine⟨by decide,_,w.ty,?_⟩
 cases w with
 | @tup a xs ds e r=>
   refine Sel.no rfl (.inl (.inr (.inl ⟨_,SqT.of e,?_⟩)))
   have el:=r.len
   refine Sel.ndec (fun hne=>?_) (fun he=>?_)
   ·have e2:bz b l (.tup ds)=false:=by
     unfold bz
     split
     ·rename_i heq;cases heq;simp at el;omega
     ·rfl
    show Q (.bl false) H
    rw[<-e2];exact q
   ·cases r with
    |nil=>simp at he
    |cons w0 r=>
     cases r with
     |nil=>simp at he
     |cons w1 r=>
      cases r with
      |cons _ _=>simp at he;omega
      |nil=>
       refine ixT (j:=0) e rfl rfl ⟨_,_,rfl,w0,?_⟩
       cases w0 with
       |int i=>
        refine Sel.yes rfl (ixT (j:=0) e rfl rfl (Sel.dec (fun h1=>?_) (fun h1=>?_)))
        ·refine Sel.dec (fun h2=>?_) (fun h2=>?_)
         ·refine ixT (j:=1) e rfl rfl ⟨_,_,rfl,w1,?_⟩
          rw[jb,decide_eq_true ⟨h1,h2⟩]at q;exact q
         ·rw[jb,decide_eq_false (fun z=>h2 z.2)]at q;exact q
        ·rw[jb,decide_eq_false (fun z=>h1 z.1)]at q;exact Sel.no rfl q
       |_=>exact Sel.no rfl q
 |_=>exact Sel.yes rfl (Sel.t q)
def gA {b l:Int}{d:Dat}(h:bz b l d=true):∃i m,d=.tup [.int i,m]:=by
 unfold bz at h
 split at h
 ·exact⟨_,_,rfl⟩
 ·cases h
def tI {d:Dat}{ds:List Dat}(hm:d∈ds):(du d).depth<=JA (toPys ds):=by
 induction ds with
 |nil=>cases hm
 |cons x r ih=>
  show _<=max (du x).depth (JA (toPys r))
  rcases IY.mp hm with rfl|hm
  ·omega
  ·have:=ih hm;omega
def oS {d:Dat}{ds:List Dat}(h:okDs ds=true)(hm:d∈ds):okD d=true:=by
 induction ds with
 |nil=>cases hm
 |cons x r ih=>
  have h:(okD x&&okDs r)=true:=h
  rw[Jt]at h
  rcases IY.mp hm with rfl|hm
  ·exact h.1
  ·exact ih h.2 hm
def fY.tup {ds:List Dat}(h:fY (.tup ds)):okDs ds=true/\JA (toPys ds)<=139:=by
 rcases h with⟨h1,h2⟩|h
 ·exact⟨h1,by have h2:JA (toPys ds)+1<=140:=h2;omega⟩
 ·cases h
def Af {K:If}{H:Hp}{v:V}{d:Dat}{p:Addr}{Q:VK}(w:bj H v d)(ok:fY d)(hp:H p=some (.tup [.str "bare"]))(q:Q (.bl (fI d)) H):bw K v (.ref p) H Q:=by
 have dv:dz K H (.ref p) (.tuple [.str "bare"]):=.tup (SqT.of hp) (.cons (.str _) .nil)
 have lv:(Lt [.str "bare"]).canLay0=true:=by decide+kernel
 rcases ok with⟨ok,dp⟩|rfl
 ·have hd:∀e:(du d).eqv (.tuple [.str "bare"])=fI d,pG K v (.ref p) H Q:=fun e=>⟨_,_,w.toV ok,dv,eQ ok,lv,by omega,by rw[e];exact q⟩
  cases w with
  |non=>exact hd rfl
  |bl b=>exact hd rfl
  |int i=>exact hd rfl
  |str z=>exact hd rfl
  |lst e r=>exact .inr (.inl (hd rfl))
  | @tup a xs ds e r=>
    refine .inr (.inl (hd ?_))
    clear hd r ok dp q
    cases ds with
    |nil=>rfl
    |cons x rs=>
     cases rs with
     |nil=>
      show((du x).eqv (.str "bare")&&true)=ck "bare" x
      rw[Sv]
      cases x with
      |str z=>
       show(z==("bare":Str))=decide (z="bare")
       by_cases h:z="bare"<;>simp[h]
      |_=>rfl
     |cons y rs=>
      show((du x).eqv (.str "bare")&&false)=false
      rw[Px]
  |dic e=>cases ok
 ·cases w with
  |dic e=>exact .inr (.inr ⟨_,p,_,rfl,rfl,.inl e,SqT.of hp,q⟩)
def BS (K:If)(A:Adr):Ln (nj K A) 2:=by rintro vs H Q E ⟨b,v,d,rfl,_⟩;rfl
def EG (T:Txt K mg A):Rd (nj K A) (HL K A) ["bits","thing","least","step"]:=by
 intro vs H Q E h
 obtain⟨b,v,d,rfl,w,q⟩:=h
 refine⟨by decide,_,w.ty,?_⟩
 cases w with
 | @tup a xs ds e r=>
   have q:Q (.bl (aQ b 0 ds)) H:=q
   refine Sel.no rfl ⟨a,rfl,.inr ⟨⟨_,SqT.of e⟩,?_⟩⟩
   have el:=r.len
   refine qw (xs:=xs) (fun i σ H'=>H'=H/\∃l x3,σ=[some (.int b),some (.ref a),some (.int l),x3]/\aQ b 0 ds=aQ b l (ds.drop i)) ⟨rfl,0,none,rfl,rfl⟩ ?_ ?_ ?_
   ·rintro i σ _ _ ⟨rfl,_⟩;exact SqT.of e
   ·rintro i x σ _ hx ⟨rfl,l,x3,rfl,eq⟩
    obtain⟨d,hd,wx⟩:=r.get hx
    have hi:i<ds.length:=(IW.mp hd).1
    have dr:ds.drop i=d::ds.drop (i+1):=by
     rw[List.drop_eq_getElem_cons hi]
     rw[IR hi]at hd;rw[Js hd]
    rw[dr]at eq
    have eq:aQ b 0 ds=(bz b l d&&aQ b (dy d+1) (ds.drop (i+1))):=eq
    refine⟨b,l,x,d,rfl,wx,Sel.mk (fun hf=>?_) (fun ht=>?_)⟩
    ·have hf:bz b l d=false:=by simpa using hf
     rw[hf]at eq
     rw[eq]at q;exact q
    ·have ht:bz b l d=true:=by simpa using ht
     obtain⟨i0,m,rfl⟩:=gA ht
     cases wx with
     |tup ex rx=>
      cases rx with
      |cons w0 rx=>
       cases w0
       refine ixT (j:=0) ex rfl rfl ⟨rfl,_,_,rfl,?_⟩
       rw[ht]at eq;exact eq
   ·rintro σ _ ⟨rfl,l,x3,rfl,eq⟩
    rw[Qe (by omega)]at eq
    rw[eq]at q;exact q
 |_=>exact Sel.yes rfl q
def CA (K:If)(A:Adr):Ln (nF K A) 4:=by rintro vs H Q E ⟨b,p,g,v,d,rfl,_⟩;rfl
def FX (T:Txt K mg A):Rd (nF K A) (IC K A) ["bits","depth","begin","thing"]:=by
 intro vs H Q E h
 obtain⟨b,p,g,v,d,rfl,b0,b60,hp,w,ok,q⟩:=h
 refine⟨by decide,_,w.ty,?_⟩
 cases w with
 | @tup a xs ds e r=>
   obtain⟨ok,dp⟩:=ok.tup
   have el:=r.len
   refine Sel.no rfl (.inl (.inr (.inl ⟨_,SqT.of e,Sel.ndec (fun ne=>Sel.t ?_) (fun he=>?_)⟩)))
   ·have e2:dN b p g (.tup ds)=false:=by
     unfold dN
     split
     ·rename_i heq;cases heq;simp at el;omega
     ·rfl
    rw[e2]at q;exact q
   ·cases r with
    |nil=>simp at he
    | @cons x0 _ d0 _ w0 r=>
    cases r with
    |nil=>simp at he
    | @cons x1 _ d1 _ w1 r=>
    cases r with
    |nil=>simp at he
    | @cons x2 _ d2 _ w2 r=>
    cases r with
    |cons _ _=>simp at he;omega
    |nil=>
    have o0:=oS ok (d:=d0) (by simp)
    have p0:=tI (d:=d0) (ds:=[d0,d1,d2]) (by simp)
    have o2:=oS ok (d:=d2) (by simp)
    refine ixT (j:=0) e rfl rfl (qY w0 o0 (by omega) (by decide+kernel) (Sel.mk (fun hn=>?_) (fun hy=>?_)))
    ·have hn:ck "leaf" d0=false:=by simpa using hn
     have e2:dN b p g (.tup [d0,d1,d2])=false:=by
      cases d1<;>first|rfl|(show(ck "leaf" d0&&_&&_&&_)=false;rw[hn];rfl)
     rw[e2]at q;exact q
    ·have hy:ck "leaf" d0=true:=by simpa using hy
     refine ixT (j:=1) e rfl rfl ⟨b,x1,d1,rfl,b0,b60,w1,?_⟩
     cases w1 with
     |int k=>
      have e2:dN b p g (.tup [d0,.int k,d2])=(decide (0<=k/\k<2^b.toNat)&&eR d2&&decide (aJ b k p=g)):=by
       show(ck "leaf" d0&&_&&_&&_)=_
       rw[hy];simp
      rw[e2]at q
      refine Sel.mk (fun hk=>Sel.t ?_) (fun hk=>?_)
      ·have hk:hV b (.int k)=false:=by simpa only[Nh]using hk
       have hk:decide (0<=k/\k<2^b.toNat)=false:=hk
       rw[hk]at q;exact q
      ·have hk:hV b (.int k)=true:=by simpa only[Of]using hk
       have hk:decide (0<=k/\k<2^b.toNat)=true:=hk
       rw[hk,Oe]at q
       refine ixT (j:=2) e rfl rfl ⟨x2,d2,rfl,w2,o2,?_⟩
       refine Sel.mk (fun hv=>?_) (fun hv=>?_)
       ·have hv:eR d2=false:=by simpa using hv
        rw[hv]at q;exact q
       ·have hv:eR d2=true:=by simpa using hv
        rw[hv,Oe]at q
        exact ixT (j:=1) e rfl rfl ⟨b,k,p,rfl,hp,q⟩
     |_=>exact Sel.t (Sel.t q)
 |_=>exact Sel.yes rfl (Sel.t q)
def BK (K:If)(A:Adr):Ln (nh K A) 4:=by rintro vs H Q E ⟨b,p,g,v,d,rfl,_⟩;rfl
def DM (T:Txt K mg A):Rd (nh K A) (Ha K A) ["bits","depth","begin","thing"]:=by
 intro vs H Q E h
 obtain⟨b,p,g,v,d,rfl,p0,b60,hp,w,ok,q⟩:=h
 refine⟨by decide,_,w.ty,?_⟩
 cases w with
 | @tup a xs ds e r=>
   obtain⟨ok,dp⟩:=ok.tup
   have el:=r.len
   refine Sel.no rfl (.inl (.inr (.inl ⟨_,SqT.of e,Sel.ndec (fun ne=>Sel.t ?_) (fun he=>?_)⟩)))
   ·have e2:cz b p g (.tup ds)=false:=by
     unfold cz
     split
     ·rename_i heq;cases heq;simp at el;omega
     ·rfl
    rw[e2]at q;exact q
   ·cases r with
    |nil=>simp at he
    | @cons x0 _ d0 _ w0 r=>
    cases r with
    |nil=>simp at he
    | @cons x1 _ d1 _ w1 r=>
    cases r with
    |nil=>simp at he
    | @cons x2 _ d2 _ w2 r=>
    cases r with
    |nil=>simp at he
    | @cons x3 _ d3 _ w3 r=>
    cases r with
    |nil=>simp at he
    | @cons x4 _ d4 _ w4 r=>
    cases r with
    |cons _ _=>simp at he;omega
    |nil=>
    have o0:=oS ok (d:=d0) (by simp)
    have pp:=tI (d:=d0) (ds:=[d0,d1,d2,d3,d4]) (by simp)
    refine ixT (j:=0) e rfl rfl (qY w0 o0 (by omega) (by decide+kernel) (Sel.mk (fun hn=>?_) (fun hy=>?_)))
    ·have hn:ck "fork" d0=false:=by simpa using hn
     have e2:cz b p g (.tup [d0,d1,d2,d3,d4])=false:=by
      cases d1<;>first|rfl|(cases d2<;>first|rfl|(show(ck "fork" d0&&_&&_&&_)=false;rw[hn];rfl))
     rw[e2]at q;exact q
    ·have hy:ck "fork" d0=true:=by simpa using hy
     refine ixT (j:=1) e rfl rfl ⟨x1,d1,rfl,w1,?_⟩
     cases w1 with
     |int ee=>
      refine Sel.no rfl (ixT (j:=1) e rfl rfl ?_)
      have bad:decide (p<=ee/\ee<b)=false->cz b p g (.tup [d0,.int ee,d2,d3,d4])=false:=fun z=>by
       cases d2<;>first|rfl|(show(ck "fork" d0&&_&&_&&_)=false;rw[z];simp)
      refine Sel.dec (fun h1=>Sel.ndec (fun h2=>?_) (fun h2=>?_)) (fun h1=>?_)
      ·rw[bad (decide_eq_false fun z=>h2 z.2)]at q;exact q
      ·refine ixT (j:=2) e rfl rfl ⟨x2,d2,rfl,w2,?_⟩
       cases w2 with
       |int bb=>
        have e2:cz b p g (.tup [d0,.int ee,.int bb,d3,d4])=(decide (0<=bb/\bb<2^ee.toNat)&&decide (bb/2^(ee- p).toNat=g)):=by
         show(ck "fork" d0&&decide (p<=ee/\ee<b)&&_&&_)=_
         rw[hy,decide_eq_true ⟨h1,h2⟩];simp
        rw[e2]at q
        refine Sel.no rfl (ixT (j:=2) e rfl rfl ?_)
        refine Sel.dec (fun h3=>ixT (j:=1) e rfl rfl ⟨⟨by omega,by omega,by decide⟩,Sel.mk (fun h4=>?_) (fun h4=>?_)⟩) (fun h3=>?_)
        ·rw[Nv]at h4
         have h4:¬bb<2^ee.toNat:=by simpa using h4
         rw[decide_eq_false (fun z=>h4 z.2)]at q;exact q
        ·rw[Nv]at h4
         have h4:bb<2^ee.toNat:=by simpa using h4
         rw[decide_eq_true ⟨h3,h4⟩,Oe]at q
         exact ixT (j:=2) e rfl rfl (ixT (j:=1) e rfl rfl ⟨by omega,q⟩)
        ·rw[decide_eq_false (fun z=>h3 z.1)]at q;exact Sel.yes rfl q
       |_=>exact Sel.yes rfl (Sel.t q)
      ·rw[bad (decide_eq_false fun z=>h1 z.1)]at q;exact Sel.yes rfl q
     |_=>exact Sel.yes rfl (Sel.t q)
 |_=>exact Sel.yes rfl (Sel.t q)
def pH {b p g:Int}{d:Dat}(h:cz b p g d=true):∃w e bb m n,d=.tup [w,.int e,.int bb,m,n]/\p<=e/\e<b:=by
 unfold cz at h
 split at h
 ·rename_i w e bb m n
  simp only[Jt,decide_eq_true_eq]at h
  exact⟨w,e,bb,m,n,rfl,h.1.1.2.1,h.1.1.2.2⟩
 ·cases h
def Bx (K:If)(A:Adr):Ln (nV K A) 4:=by rintro vs H Q E ⟨b,k,p,v,d,rfl,_⟩;rfl
def FW (T:Txt K mg A):Rd (nV K A) (Ik K A) ["bits","key","place","thing","begin"]:=by
 intro vs H Q E h
 obtain⟨b,k,p,v,d,rfl,p0,b60,hp,w,ok,q⟩:=h
 refine⟨aF (n:=1) (by decide),fun r hr=>?_⟩
 have S:=ar.upd (o:=.tup [V.str "bare"]) hr
 have q:=q _ S
 have w:=w.mono S
 refine Af w ok al ?_
 generalize upd H r (.tup [V.str "bare"])=H1 at w q⊢
 unfold cv at q
 refine Sel.mk (fun hb=>?_) (fun hb=>?_)
 ·rw[hb,if_pos rfl]at q;exact q
 ·rw[hb]at q
  have q:Q (.bl (dN b p (aJ b k p) d||(cz b p (aJ b k p) d&&sC b k d))) H1:=q
  refine⟨b,k,p,rfl,hp,b,p,aJ b k p,v,d,rfl,by omega,b60,hp,w,ok,?_⟩
  refine Sel.mk (fun hl=>?_) (fun hl=>?_)
  ·rw[hl,Tq]at q;exact q
  ·rw[hl,Ss]at q
   refine⟨b,p,aJ b k p,v,d,rfl,p0,b60,hp,w,ok,?_⟩
   refine Sel.mk (fun hf=>?_) (fun hf=>?_)
   ·have hf:cz b p (aJ b k p) d=false:=by simpa only[Nh]using hf
    rw[hf,Si]at q;exact q
   ·have hf:cz b p (aJ b k p) d=true:=by simpa only[Of]using hf
    rw[hf,Oe]at q
    obtain⟨w0,e,bb,m,n,rfl,h1,h2⟩:=pH hf
    have q:Q (.bl (!decide (bb=aJ b k e)&&bq m&&bq n)) H1:=q
    cases w with
    |tup ea r=>
    cases r with
    |cons _ r=>
    cases r with
    |cons z1 r=>
    cases r with
    |cons z2 r=>
    cases r with
    |cons z3 r=>
    cases r with
    |cons z4 r=>
    cases r
    cases z1
    cases z2
    refine ixT (j:=2) ea rfl rfl (ixT (j:=1) ea rfl rfl ⟨b,k,e,rfl,by omega,?_⟩)
    refine Sel.dec (fun he=>?_) (fun he=>?_)
    ·rw[decide_eq_true he]at q;exact q
    ·rw[decide_eq_false he]at q
     refine ixT (j:=3) ea rfl rfl ⟨_,_,rfl,z3,Sel.mk (fun hm=>?_) (fun hm=>?_)⟩
     ·rw[hm]at q
      exact ixT (j:=4) ea rfl rfl ⟨_,_,rfl,z4,q⟩
     ·rw[hm]at q;exact q
theorem fV {b:Int}:∀{ds:List Dat}{l:Int},0<=l->aQ b l ds=true->∀{s},ds.getLast?=some s->∃i m,s=.tup [.int i,m]/\0<=i/\i<b
 |[],l,_,_,s,e=>by cases e
 |x::r,l,hl,h,s,e=>by
  have h:(bz b l x&&aQ b (dy x+1) r)=true:=h
  rw[Jt]at h
  obtain⟨i,m,rfl⟩:=gA h.1
  have hi:(decide (l<=i/\i<b)&&bq m)=true:=h.1
  rw[Jt,decide_eq_true_eq]at hi
  cases r with
  |nil=>
   cases e
   exact⟨i,m,rfl,by omega,hi.1.2⟩
  |cons y r=>
   rw[Nr]at e
   exact fV (l:=i+1) (by omega) h.2 e
def Cy (K:If)(A:Adr):Ln (ni K A) 3:=by rintro vs H Q E ⟨b,k,v,d,rfl,_⟩;rfl
def Fj (T:Txt K mg A):Rd (ni K A) (Ic K A) ["bits","key","thing","place"]:=by
 intro vs H Q E h
 obtain⟨b,k,v,d,rfl,b0,b60,w,ok,q⟩:=h
 have q0:=q H (.refl H)
 refine⟨by decide,_,w.ty,?_⟩
 cases w with
 | @tup a xs ds e r=>
   have el:=r.len
   refine Sel.no rfl (.inl (.inr (.inl ⟨_,SqT.of e,Sel.ndec (fun ne=>?_) (fun he=>?_)⟩)))
   ·have e2:jD b k (.tup ds)=false:=by
     unfold jD
     split
     ·rename_i heq;cases heq;simp at el;omega
     ·rfl
    rw[e2]at q0;exact q0
   ·cases r with
    |nil=>simp at he
    | @cons x0 _ d0 _ w0 r=>
    cases r with
    |nil=>simp at he
    | @cons x1 _ d1 _ w1 r=>
    cases r with
    |cons _ _=>simp at he;omega
    |nil=>
    have ok:fY d1:=ok
    refine ixT (j:=0) e rfl rfl ⟨b,x0,d0,rfl,w0,?_⟩
    cases w0 with
    | @tup a0 ys es e0 r0=>
      have q:∀H',ar H H'->Q (.bl (aQ b 0 es&&cv b k (hJ es) d1)) H':=q
      refine Sel.mk (fun hs=>?_) (fun hs=>?_)
      ·have hs:aQ b 0 es=false:=by simpa only[Nh]using hs
       have q:=q H (.refl H)
       rw[hs]at q;exact q
      ·have hs:aQ b 0 es=true:=by simpa only[Of]using hs
       rw[hs]at q
       refine ixT (j:=0) e rfl rfl ⟨!ys.isEmpty,.inr (.inl ⟨ys,SqT.of e0,rfl⟩),?_⟩
       have l0:=r0.len
       cases ys with
       |nil=>
        cases r0
        exact Sel.no rfl (ixT (j:=1) e rfl rfl ⟨b,k,0,x1,d1,rfl,by decide,b60,b0,w1,ok,q⟩)
       |cons y yr=>
        obtain⟨s,hsl⟩:∃s,es.getLast?=some s:=by
         cases es with
         |nil=>simp at l0
         |cons z zr=>exact⟨_,OF (by simp)⟩
        obtain⟨i,m,rfl,i0,i1⟩:=fV (Nw 0) hs hsl
        have hlast:es[es.length- 1]? =some (.tup [.int i,m]):=by rw[<-MY];exact hsl
        have hpl:hJ es=i+1:=by unfold hJ;rw[hsl];rfl
        have hpos:0<(y::yr).length:=by simp
        obtain⟨v',hv'⟩:∃v',(y::yr)[(y::yr).length- 1]? =some v':=⟨_,IR (by omega)⟩
        obtain⟨d',hd',wd'⟩:=r0.get hv'
        rw[l0]at hd'
        rw[hlast]at hd';cases hd'
        refine Sel.yes rfl (ixT (j:=0) e rfl rfl ?_)
        refine .inl (.inr (.inl ⟨a0,y::yr,-1,v',rfl,rfl,SqT.of e0,?_,?_⟩))
        ·unfold atI ixN
         rw[if_neg (by decide),if_pos (by simp;omega)]
         show(y::yr)[(-1+((y::yr).length:Int)).toNat]? =_
         have:(-1+((y::yr).length:Int)).toNat=(y::yr).length- 1:=by omega
         rw[this];exact hv'
        ·cases wd' with
         |tup ee rr=>
          cases rr with
          |cons z0 rr=>
           cases z0
           refine ixT (j:=0) ee rfl rfl (ixT (j:=1) e rfl rfl ⟨b,k,i+1,x1,d1,rfl,by omega,b60,by omega,w1,ok,?_⟩)
           rw[hpl]at q
           exact q
    |_=>exact Sel.t q0
 |_=>exact Sel.yes rfl (Sel.t q0)
def BJ {x:Int}(h:x.natAbs<2^64):Le x<=64:=by
 unfold Le
 split
 ·decide
 ·rename_i hx
  have hx:x≠0:=by simpa using hx
  have:x.natAbs.log2<64:=(Ra (by omega)).mpr h
  omega
def wa {x y:Int}(h0:0<=y)(h:y<2^64):IntMulOk x y:=Ms (BJ (by omega))
def tB {a b:Int}(h0:0<=a)(h:a<=b):(2:Int)^b.toNat=2^a.toNat*2^(b- a).toNat:=by
 rw[<-Int.pow_add]
 congr 1
 omega
def zu {x y z:Int}(hy:0<y):x/y/z=x/(y*z):=by
 rw[Int.ediv_ediv,if_neg (by omega),Int.sub_zero]
def ml {b k e:Int}(e0:0<=e)(h:e<=b)(hk:k<2^b.toNat):aJ b k e<2^e.toNat:=by
 unfold aJ
 refine Int.ediv_lt_of_lt_mul (ir _) ?_
 rw[<-tB e0 h];exact hk
def lW {b k e:Int}(k0:0<=k):0<=aJ b k e:=Sh k0 (Int.le_of_lt (ir _))
def qa {b k e l:Int}(h1:l<=e)(h2:e<=b):aJ b k e/2^(e- l).toNat=aJ b k l:=by
 unfold aJ
 rw[zu (ir _),<-Int.pow_add]
 congr 2
 omega
def vb {b k l x:Int}{z:Str}(l0:0<=l)(hl:l<=b)(x0:0<=x)(x1:x<2^b.toNat)(hs:aJ b x l=aJ b k l)(hz:z.length<=60):cv b k l (.tup [.str "leaf",.int x,.str z])=true:=by
 unfold cv
 have e1:fI (.tup [.str "leaf",.int x,.str z])=false:=rfl
 rw[e1]
 have e2:dN b l (aJ b k l) (.tup [.str "leaf",.int x,.str z])=true:=by
  show(decide (("leaf":Str)="leaf")&&decide (0<=x/\x<2^b.toNat)&&decide (z.length<=60)&&decide (aJ b x l=aJ b k l))=true
  rw[decide_eq_true rfl,decide_eq_true ⟨x0,x1⟩,decide_eq_true hz,decide_eq_true hs];rfl
 rw[e2];rfl
def xM {b k l e bb:Int}{m n:Dat}(hl:l<=e)(he:e<b)(b0:0<=bb)(b1:bb<2^e.toNat)(hs:bb/2^(e- l).toNat=aJ b k l)(hne:bb≠aJ b k e)(hm:bq m=true)(hn:bq n=true):cv b k l (.tup [.str "fork",.int e,.int bb,m,n])=true:=by
 unfold cv
 have e1:fI (.tup [.str "fork",.int e,.int bb,m,n])=false:=rfl
 rw[e1]
 have e2:cz b l (aJ b k l) (.tup [.str "fork",.int e,.int bb,m,n])=true:=by
  show(decide (("fork":Str)="fork")&&decide (l<=e/\e<b)&&decide (0<=bb/\bb<2^e.toNat)&&decide (bb/2^(e- l).toNat=aJ b k l))=true
  rw[decide_eq_true rfl,decide_eq_true ⟨hl,he⟩,decide_eq_true ⟨b0,b1⟩,decide_eq_true hs];rfl
 have e3:sC b k (.tup [.str "fork",.int e,.int bb,m,n])=true:=by
  show(!decide (bb=aJ b k e)&&bq m&&bq n)=true
  rw[decide_eq_false hne,hm,hn];rfl
 rw[e2,e3]
 simp
def mw {x y:Str}(h1:cm x=true)(h2:cm y=true):cm (x++y)=true:=by
 unfold cm at h1 h2⊢
 show(x.cps++y.cps).all _=true
 rw[Array.all_append,h1,h2];rfl
def DB (H:Hp)(m:Key):bj H (kV m) (aT m):=by cases m<;>constructor
def qQ (m:Key):(du (aT m)).depth=0:=by cases m<;>rfl
def BG (w:Str)(h:cm w=true)(hl:w.length<=4):okP (.inr w)=true:=by
 show(cm w&&decide (w.length<=100000))=true
 rw[h,decide_eq_true (by omega)];rfl
def HZ {x y z:Key}(hx:okP x=true)(hy:okP y=true)(hz:okP z=true)(h:kN x=true):okT [x,y,z]=true:=by
 show(true&&kN x&&(okP x&&(okP y&&(okP z&&true))))=true
 rw[h,hx,hy,hz];rfl
def xN {x y z u v:Key}(hx:okP x=true)(hy:okP y=true)(hz:okP z=true)(hu:okP u=true)(hv:okP v=true)(h:kN x=true):okT [x,y,z,u,v]=true:=by
 show(true&&kN x&&(okP x&&(okP y&&(okP z&&(okP u&&(okP v&&true))))))=true
 rw[h,hx,hy,hz,hu,hv];rfl
def lR:okP (.inr "fork")=true/\okP (.inr "leaf")=true/\okP (.inr "bare")=true:=by decide+kernel
def pW {K:If}{H:Hp}{Q:VK}{a b:Key}(q:Q (.bl (decide (a=b))) H):bw K (kV a) (kV b) H Q:=by
 cases a<;>cases b
 ·rename_i i j
  have e:decide ((LR i:Key)=LR j)=decide (i=j):=by simp
  rw[e]at q;exact q
 ·have e:∀(i:Int)(j:Str),decide ((LR i:Key)=Mn j)=false:=by simp
  rw[e]at q;exact q
 ·have e:∀(i:Int)(j:Str),decide ((Mn j:Key)=LR i)=false:=by simp
  rw[e]at q;exact q
 ·rename_i i j
  have e:decide ((Mn i:Key)=Mn j)=decide (i=j):=by simp
  rw[e]at q;exact q
def yB {H:Hp}{v:V}{k:Key}(w:bj H v (aT k)):v=kV k:=by cases k<;>(cases w;rfl)
theorem uB {H:Hp}{v:V}:∀{e:List Key}{xs:List V},DatWs H xs (e.map aT)->xs=e.map kV
 |[],_,h=>by cases h;rfl
 |x::r,_,h=>by
  cases h with
  |cons a b=>rw[yB a,uB (v:=v) b];rfl
def yC {H:Hp}{v:V}{e:List Key}(h:bj H v (.tup (e.map aT))):∃a,v=.ref a/\H a=some (.tup (e.map kV)):=by
 cases h with
 | @tup a xs _ ea r=>exact⟨a,rfl,by rw[ea,uB (v:=.non) r]⟩
theorem kX {H:Hp}:∀{st:List (Int×Key)}{xs:List V},DatWs H xs (st.map stD)->∀{i:Nat}{x:V},xs[i]? =some x->∃s p,st[i]? =some s/\x=.ref p/\H p=some (.tup [.int s.1,kV s.2])
 |[],_,h,i,x,e=>by cases h;cases e
 |s::r,_,h,i,x,e=>by
  cases h with
  |cons a b=>
   cases i with
   |zero=>
    cases e
    have a:bj H x (.tup [.int s.1,aT s.2]):=a
    cases a with
    | @tup p ys _ ea rr=>
      cases rr with
      |cons z0 rr=>
       cases rr with
       |cons z1 rr=>
        cases rr
        cases z0
        exact⟨s,p,rfl,rfl,by rw[ea,yB z1]⟩
   |succ i=>exact kX b e
def fB {H:Hp}{v:V}{b k:Int}{st:List (Int×Key)}{e:List Key}(h:nk H v b k st e):∃(a s t:Addr)(xs:List V),v=.ref a/\H a=some (.tup [.ref s,.ref t])/\H s=some (.tup xs)/\DatWs H xs (st.map stD)/\H t=some (.tup (e.map kV)):=by
 obtain⟨w,_⟩:=h
 cases w with
 | @tup a xs _ ea r=>
   cases r with
   |cons z0 r=>
    cases r with
    |cons z1 r=>
     cases r
     obtain⟨t,rfl,ht⟩:=yC z1
     cases z0 with
     | @tup s ys _ es rs=>exact⟨a,s,t,ys,rfl,ea,es,rs,ht⟩
def kf {w:Str}{d:Dat}(h:ck w d=true):d=.str w:=by
 cases d<;>first|cases h|skip
 rename_i z
 have:z=w:=of_decide_eq_true h
 rw[this]
theorem vm:∀{a b:Key},aT a=aT b->a=b
 |.inl i,.inl j,h=>by cases h;rfl
 |.inl i,.inr j,h=>by cases h
 |.inr i,.inl j,h=>by cases h
 |.inr i,.inr j,h=>by cases h;rfl
def og {b k l:Int}{e:List Key}(h:cv b k l (.tup (e.map aT))=true):e=[.inr "bare"]\/(∃x z,e=[.inr "leaf",.inl x,.inr z]/\z.length<=60)\/∃d bb m n,e=[.inr "fork",.inl d,.inl bb,m,n]:=by
 have key:∀{x:Key}{w:Str},aT x=.str w->x=.inr w:=fun{x w} hx=>vm (b:=.inr w) hx
 unfold cv at h
 split at h
 ·rename_i hb
  match e,hb with
  |[x],hb=>exact .inl (by rw[key (kf hb)])
 ·rw[RT]at h
  rcases h with h|h
  ·match e,h with
   |[w,.inl x,z],h=>
    have h:(ck "leaf" (aT w)&&decide (0<=x/\x<2^b.toNat)&&eR (aT z)&&decide (aJ b x l=aJ b k l))=true:=h
    simp only[Jt]at h
    cases z with
    |inl i=>cases h.1.2
    |inr z=>exact .inr (.inl ⟨x,z,by rw[key (kf h.1.1.1)],of_decide_eq_true h.1.2⟩)
  ·rw[Jt]at h
   have h:=h.1
   match e,h with
   |[w,.inl d,.inl bb,m,n],h=>
    have h:(ck "fork" (aT w)&&decide (l<=d/\d<b)&&decide (0<=bb/\bb<2^d.toNat)&&decide (bb/2^(d- l).toNat=aJ b k l))=true:=h
    simp only[Jt]at h
    exact .inr (.inr ⟨d,bb,m,n,by rw[key (kf h.1.1.1)]⟩)
def Bt (K:If)(A:Adr):Ln (nI K A) 3:=by rintro vs H Q E ⟨b,k,d,rfl,_⟩;rfl
def Eu (T:Txt K mg A):Rd (nI K A) (Hb K A) ["bits","key","depth"]:=by
 intro vs H Q E h
 obtain⟨b,k,d,rfl,hd,k0,q⟩:=h
 refine⟨by omega,?_⟩
 show Q (.int (Lu (k/2^(b- d- 1).toNat) 1)) H
 have h0:0<=k/2^(b- d- 1).toNat:=Sh k0 (Int.le_of_lt (ir _))
 obtain⟨y,hy⟩:=JW h0
 rw[hy]at q⊢
 rw[rn]
 have:((y%2:Nat):Int)=(y:Int)%2:=by omega
 rw[this];exact q
def De (K:If)(A:Adr):Ln (nR K A) 4:=by rintro vs H Q E ⟨b,k,d,m,s,p,rfl,_⟩;rfl
def EK (T:Txt K mg A):Rd (nR K A) (HY K A) ["bits","key","step","mark","depth","begin"]:=by
 intro vs H Q E h
 obtain⟨b,k,d,m,s,p,rfl,hp,hd,k0,q⟩:=h
 refine ixT (j:=0) hp rfl rfl ⟨b,k,d,rfl,by omega,b,k,d,rfl,hd,k0,?_⟩
 unfold bv at q
 refine Sel.dec (fun h=>?_) (fun h=>?_)
 ·refine ixT (j:=1) hp rfl rfl ⟨aF (n:=5) (by decide),fun t ht=>?_⟩
  have q:=q t ht
  rw[if_pos h]at q;exact q
 ·refine ixT (j:=1) hp rfl rfl ⟨aF (n:=5) (by decide),fun t ht=>?_⟩
  have q:=q t ht
  rw[if_neg h]at q;exact q
def mD {k x:Int}{z:Str}:io k [.inr "leaf",.inl x,.inr z]=if x=k then .str z else .non:=by
 show(if ("leaf":Str)="leaf"/\x=k then V.str z else .non)=_
 by_cases h:x=k
 ·rw[if_pos ⟨rfl,h⟩,if_pos h]
 ·rw[if_neg (fun z=>h z.2),if_neg h]
def pK:decide (("bare":Str)="leaf")=false:=by decide+kernel
def oK:decide (("fork":Str)="leaf")=false:=by decide+kernel
def CL (K:If)(A:Adr):Ln (mL K A) 2:=by rintro vs H Q E ⟨b,k,v,st,e,rfl,_⟩;rfl
def Ey (T:Txt K mg A):Rd (mL K A) (Iw K A) ["key","slip","end"]:=by
 intro vs H Q E h
 obtain⟨b,k,v,st,e,rfl,w,q⟩:=h
 obtain⟨a,s,t,xs,rfl,ha,hs,ws,ht⟩:=fB w
 refine ixT (j:=1) ha rfl rfl ?_
 rcases og w.2.en with rfl|⟨x,z,rfl,_⟩|⟨d,bb,m,n,rfl⟩
 ·exact ixT (j:=0) ht rfl rfl (Sel.no pK (Sel.f q))
 ·refine ixT (j:=0) ht rfl rfl (Sel.yes (decide_eq_true rfl) (ixT (j:=1) ht rfl rfl ?_))
  rw[mD]at q
  refine Sel.dec (fun h=>?_) (fun h=>?_)
  ·rw[if_pos h]at q
   exact ixT (j:=2) ht rfl rfl q
  ·rw[if_neg h]at q;exact q
 ·exact ixT (j:=0) ht rfl rfl (Sel.no oK (Sel.f q))
def fb {H:Hp}{ps:List Addr}{ts:List (List Key)}(h:PK H ps ts):ps.length=ts.length:=Paired.length h
def ls {k:List Key}(h:okT k=true):k.all okP=true:=by
 unfold okT at h
 rw[Jt]at h
 exact h.2
def qT {k:List Key}{x:Key}(h:okT k=true)(hx:x∈k):okP x=true:=Kv.mp (ls h) x hx
def xF {z:Str}(h:∀c∈z.cps.toList,c<128):cm z=true:=by
 unfold cm
 rw[On]
 intro i hi
 exact decide_eq_true (h _ (by simp))
def pR {z:Str}(h:cm z=true):∀c∈z.cps.toList,c<128:=by
 intro c hc
 unfold cm at h
 rw[On]at h
 obtain⟨i,hi,e⟩:=List.getElem_of_mem hc
 have:=of_decide_eq_true (h i (by simpa using hi))
 rw[<-e]
 simpa using this
def oH {H:Hp}{b p:Addr}{kvs:List (List Key×V)}{kk:List Key}{d:V}(hb:H b=some (.dT kvs))(hp:H p=some (.tup (kk.map kV)))(hl:kvs.length<=50000):
  Dk H b (.ref p) d (kA kvs kk d) (kg H b kvs kk d):=by
 unfold kA kg
 have g:=fz.t hb hp
 cases e:bM kvs kk with
 |some v=>rw[e]at g;exact .inl ⟨g,if_pos rfl⟩
 |none=>rw[e]at g;exact .inr ⟨g,.inr ⟨kvs,kk,p,hb,rfl,hp,Ly hl (aF (n:=50001) (by decide)),if_neg (by decide)⟩,rfl⟩
def tP {z:Str}(h:cm z=true)(l u:Option Int):cm (ME z l u)=true:=by
 refine xF fun c hc=>?_
 unfold ME at hc
 split at hc
 ·exact pR h c hc
 ·simp only[NV,Oc]at hc
  obtain⟨i,_,e⟩:=hc
  exact pR h c (by rw[<-Kx]at e;exact Jq e)
def dh.trans {P:Addr}{H H1 H2:Hp}(a:dh P H H1)(b:dh P H1 H2):dh P H H2:=fun x o e n=>b x o (a x o e n) n
def dh.new {P p:Addr}{H:Hp}{o:HO}(h:H p=none):dh P H (upd H p o):=fun b u e _=>by rw[ap (ay e h)];exact e
def dh.tab {P:Addr}{H:Hp}{o:HO}:dh P H (upd H P o):=fun b u e n=>by rw[ap n];exact e
def qd {H:Hp}{P q:Addr}{o:HO}(hP:H P=some o)(hq:H q=none):q≠P:=fun e=>by rw[e,hP]at hq;cases hq
def kD {H:Hp}{p q:Addr}{o:HO}(h:upd H p o q=none):q≠p/\H q=none:=by
 by_cases e:q=p
 ·subst e;rw[al]at h;cases h
 ·rw[ap e]at h;exact⟨e,h⟩
def vq:eL []:=fun p hp=>nomatch hp
def Sub.rfl' {g:gOp}:Sub g g:=fun _ _ e=>e
def Sub.trans {g g1 g2:gOp}(a:Sub g g1)(b:Sub g1 g2):Sub g g2:=fun k v e=>b k v (a k v e)
def Ext.of {g g':gOp}{h:List Key->Key}(s:Sub g g')(e:Ext g' h):Ext g h:=fun k v z=>e k v (s k v z)
def qS (kvs:List (List Key×Key))(k:List Key):bM (cw kvs) k=(cN kvs k).map kV:=by
 unfold bM cw cN
 rw[List.find?_map]
 simp only[OS]
 congr 1
def tF {kvs:List (List Key×Key)}{k:List Key}{v:Key}{x:List Key×Key}(h:cN kvs k=some v):cN (kvs++[x]) k=some v:=by
 unfold cN at h⊢
 rw[Rm]
 cases e:kvs.find? fun p=>decide (p.1=k)with
 |none=>rw[e]at h;cases h
 |some y=>rw[e]at h;exact h
def xY {kvs:List (List Key×Key)}{k:List Key}{d:Key}(h:cN kvs k=none):cN (kvs++[(k,d)]) k=some d:=by
 unfold cN at h⊢
 rw[Rm]
 cases e:kvs.find? fun p=>decide (p.1=k)with
 |none=>simp
 |some y=>rw[e]at h;cases h
def xB {kvs:List (List Key×Key)}{k:List Key}{v:Key}(h:cN kvs k=some v):bM (cw kvs) k=some (kV v):=by rw[qS,h];rfl
def wA {kvs:List (List Key×Key)}{k:List Key}{v:Key}(hs:eL kvs)(h:cN kvs k=some v):eM v:=by
 unfold cN at h
 cases e:kvs.find? fun p=>decide (p.1=k)with
 |none=>rw[e]at h;cases h
 |some y=>
  rw[e]at h
  cases h
  exact hs y (Pu e)
def qp {kvs:List (List Key×Key)}{x:List Key×Key}(h:eL kvs)(hx:eM x.2):eL (kvs++[x]):=fun p hp=>by
 rcases Ka.mp hp with z|z
 ·exact h p z
 ·rw[JJ.mp z];exact hx
def oA {H:Hp}{b:Addr}{cs:List Addr}{cvs:List V}{kvs:List (List Key×Key)}(kk:List Key)(d:Key)(hs:eL kvs)(hd:eM d)(hb:H b=some (.dT (cw kvs)))(hc:cx H cs cvs)(H1:Hp)(S:ar (cZ cs H) H1):
  ∃(kvs':List (List Key×Key))(v:Key)(H':Hp),kA (cw kvs) kk (kV d)=kV v/\cG cs H (kg H1 b (cw kvs) kk (kV d))=H'/\H' b=some (.dT (cw kvs'))/\(∀x o,x≠b->H x=some o->H' x=some o)/\(kvs'=kvs\/kvs'=kvs++[(kk,d)])/\eL kvs'/\cN kvs' kk=some v/\eM v/\∀k v,cN kvs k=some v->cN kvs' k=some v:=by
 have hbc:b∉cs:=hc.notin hb fun _ z=>nomatch z
 have S2:=ar.hide cs S
 cases e:cN kvs kk with
 |some v=>
  have ev:=xB e
  refine⟨kvs,v,cG cs H H1,by unfold kA;rw[ev];rfl,?_,S2 _ _ hb,fun _ _ _ h=>S2 _ _ h,.inl rfl,hs,e,wA hs e,fun _ _ h=>h⟩
  unfold kg;rw[ev];rfl
 |none=>
  have ev:bM (cw kvs) kk=none:=by rw[qS,e];rfl
  refine⟨kvs++[(kk,d)],d,upd (cG cs H H1) b (.dT (cw (kvs++[(kk,d)]))),by unfold kA;rw[ev];rfl,?_,al,fun x o n h=>by rw[ap n];exact S2 _ _ h,.inr rfl,qp hs hd,xY e,hd,fun _ _ h=>tF h⟩
  unfold kg;rw[ev,if_neg (by decide),um hbc,wf _ ev]
  unfold cw;rw[JD];rfl
def Lin.nil {a c:Int}:Lin a c []:=fun i p h=>by cases i<;>cases h
def Lin.snoc {a c:Int}{kvs:List (List Key×Key)}(s:Lin a c kvs)(k:List Key):Lin a c (kvs++[(k,.inl (a*(kvs.length:Int)+c))]):=fun i p h=>by
 rcases Nk i kvs.length with hi|hi|hi
 ·rw[Kt hi]at h;exact s i p h
 ·rw[Kq (by omega),hi,Qt]at h
  cases h;rw[hi]
 ·rw[KS (by simp;omega)]at h;cases h
def Lin.step {a c:Int}{kvs kvs':List (List Key×Key)}{kk:List Key}(s:Lin a c kvs)(h:kvs'=kvs\/kvs'=kvs++[(kk,.inl (a*(kvs.length:Int)+c))]):Lin a c kvs'/\kvs'.length<=kvs.length+1:=by
 rcases h with rfl|rfl
 ·exact⟨s,LO _⟩
 ·exact⟨s.snoc kk,by simp⟩
def re {kvs:List (List Key×Key)}{k:List Key}{v:Key}(h:cN kvs k=some v):∃i:Nat,kvs[i]? =some (k,v):=by
 unfold cN at h
 cases e:kvs.find? fun p=>decide (p.1=k)with
 |none=>rw[e]at h;cases h
 |some p=>
  rw[e]at h
  obtain⟨i,hi⟩:=Lx.mp (Pu e)
  have h1:p.1=k:=by have:=List.find?_some e;exact of_decide_eq_true this
  have h2:p.2=v:=Js h
  exact⟨i,by rw[hi,<-h1,<-h2]⟩
def Lin.inj {a c:Int}{kvs:List (List Key×Key)}(ha:1<=a)(s:Lin a c kvs){k k':List Key}{v:Key}(h:cN kvs k=some v)(h':cN kvs k'=some v):k=k':=by
 obtain⟨i,hi⟩:=re h
 obtain⟨j,hj⟩:=re h'
 have e1:=s i _ hi
 have e2:=s j _ hj
 have e3:a*(i:Int)+c=a*(j:Int)+c:=PX (e1.symm.trans e2)
 have e4:(i:Int)=j:=Int.eq_of_mul_eq_mul_left (by omega) (by omega:a*(i:Int)=a*j)
 have e5:i=j:=by omega
 subst e5
 rw[hi]at hj
 cases hj;rfl
def m0 {x:cQ×Sp}{l:List (cQ×Sp)}:x∈x::l:=Jw
def mS {x y:cQ×Sp}{l:List (cQ×Sp)}(h:x∈l):x∈y::l:=Je _ h
def aG.trans {b:Addr}{H H1 H2:Hp}(a:aG b H H1)(c:aG b H1 H2):aG b H H2:=fun x o n e=>c x o n (a x o n e)
def aG.same {b:Addr}{H H':Hp}(S:ar H H'):aG b H H':=fun x o _ e=>S x o e
def CY (K:If)(A:Adr):Ln (nJ K A) 1:=by rintro vs H Q E ⟨p,k,rfl,_⟩;rfl
def Fu (T:Txt K mg A):Rd (nJ K A) (HU K A) ["_law_term","_law_total","_law_part","_law_sign"]:=by
 intro vs H Q E h
 obtain⟨p,k,rfl,hp,ok,q⟩:=h
 refine⟨p,rfl,.inr ⟨⟨_,SqT.of hp⟩,?_⟩⟩
 refine qw (xs:=k.map kV) (fun i σ H'=>H'=H/\∃x2 x3,σ=[some (.ref p),some (.int ((k.take i).foldl ny 0)),x2,x3]) ⟨rfl,none,none,rfl⟩ ?_ ?_ ?_
 ·rintro i σ _ _ ⟨rfl,_⟩;exact SqT.of hp
 ·rintro i x σ _ hx ⟨rfl,x2,x3,rfl⟩
  obtain⟨kk,hk,rfl⟩:=jV hx
  have okk:okP kk=true:=qT ok (Jq hk)
  have st:=kH ny 0 k i kk hk
  cases kk with
  |inl n=>
   refine⟨by decide,"int",rfl,Sel.no rfl ⟨Ms (by decide),by decide,rfl,some (.int n),x3,?_⟩⟩
   rw[st];rfl
  |inr z=>
   obtain⟨hz,hl⟩:=Jf.mp okk
   have hl:=of_decide_eq_true hl
   refine⟨by decide,"str",rfl,Sel.yes rfl ⟨Ms (by decide),.inl ⟨aF (by omega),LF (by decide),6,rfl,.inr ⟨z,rfl,aF (by omega),tP hz _ _,?_⟩⟩⟩⟩
   generalize ew:ME z none (some 6)=w
   refine kU (ci.str w) (fun j σ H'=>H'=_/\∃x3,σ=[some (.ref p),some (.int ((w.cps.toList.take j).foldl mW ((k.take i).foldl ny 0*7+3*(z.length:Int)))),some (.str z),x3]) ⟨rfl,x3,rfl⟩ (fun _ _ _ _ _=>trivial) ?_ ?_
   ·rintro j σ _ hj ⟨rfl,y3,rfl⟩
    refine⟨Ms (by decide),rfl,rfl,some (.str ⟨#[w.cps.getD j 0]⟩),?_⟩
    have hj':j<w.cps.size:=hj
    rw[kH mW _ w.cps.toList j (w.cps.getD j 0) (by simp[hj',ON])];rfl
   ·rintro σ _ ⟨rfl,y3,rfl⟩
    refine⟨by decide,rfl,some (.str z),y3,?_⟩
    have e:w.cps.toList.take w.length=w.cps.toList:=KL (by simp[Str.length])
    rw[st,e]
    show _=[_,some (V.int ((List.foldl mW _ (ME z none (some 6)).cps.toList)%1000000007)),_,_]
    rw[ew];rfl
 ·rintro σ _ ⟨rfl,x2,x3,rfl⟩
  show Q (.int _) _
  have e:k.take (k.map kV).length=k:=KL (by simp)
  rw[e];exact q
def Iv {x m:Int}(h1:1<=m)(h2:m<=7):0<=x%m/\x%m<7:=⟨Ll _ (by omega),Int.lt_of_lt_of_le (KH _ (by omega)) h2⟩
def EJ (T:Txt K mg A)(a0 b0:V)(H:Hp)(Q:VK)(E:XK)(h:sd K A [a0,b0] H Q E):Dw K A (fN ["_law_term","_law_book"] [a0] [b0]) H Q:=by
 obtain⟨p,b,k,kvs,e,hp,hb,hl,q⟩:=h
 cases e
 exact⟨.inr (.inr (.inl ⟨rfl,.inr ⟨_,hb⟩⟩)),.inr ⟨b,kvs,rfl,hb,LF (by decide),b,.ref p,_,_,_,rfl,rfl,oH hb hp hl,q⟩⟩
def iV {H:Hp}{Q:VK}{a b:Addr}{k l:List Key}(ha:H a=some (.tup (k.map kV)))(hb:H b=some (.tup (l.map kV)))(q:Q (.bl (decide (k=l))) H):bw K (.ref a) (.ref b) H Q:=by
 refine .inl ⟨a,b,_,_,rfl,rfl,SqT.of ha,SqT.of hb,mj _,mj _,?_⟩
 by_cases e:k=l
 ·subst e;rw[decide_eq_true rfl]at q⊢;exact q
 ·rw[decide_eq_false e]at q;rw[decide_eq_false fun z=>e (ib z)];exact q
def DJ (T:Txt K mg A)(a0 b0 b1 b2:V)(H:Hp)(Q:VK)(E:XK)(h:rM K A [a0,b0,b1,b2] H Q E):AG K A (fN ["_law_those","_law_other_here","_law_one","_law_book"] [a0] [b0,b1,b2]) H Q:=by
 obtain⟨p,b,o1,o2,k,k1,k2,kvs,e,hp,h1,h2,hb,hl,q⟩:=h
 cases e
 refine⟨.inr (.inr (.inl ⟨rfl,.inr ⟨_,hb⟩⟩)),aF (n:=2) (by decide),fun D hD=>?_⟩
 have S:=ar.upd (o:=.lst [V.ref p,.ref o1]) hD
 have hD1:upd H D (.lst [V.ref p,.ref o1]) D=some (.lst [V.ref p,.ref o1]):=al
 generalize upd H D (.lst [V.ref p,.ref o1])=H1 at S hD1
 refine iV (S _ _ hp) (S _ _ h2) ?_
 by_cases e:k=k2
 ·rw[decide_eq_true e]
  refine .inl (.inl ⟨D,_,1,.ref o1,rfl,rfl,SqL.of hD1,rfl,?_⟩)
  rw[if_pos e]at q
  exact .inr ⟨b,kvs,rfl,S _ _ hb,LF (by decide),b,.ref o1,_,_,_,rfl,rfl,oH (S _ _ hb) (S _ _ h1) hl,q H1 S⟩
 ·rw[decide_eq_false e]
  refine .inl (.inl ⟨D,_,0,.ref p,rfl,rfl,SqL.of hD1,rfl,?_⟩)
  rw[if_neg e]at q
  exact .inr ⟨b,kvs,rfl,S _ _ hb,LF (by decide),b,.ref p,_,_,_,rfl,rfl,oH (S _ _ hb) (S _ _ hp) hl,q H1 S⟩
def FG (T:Txt K mg A)(a0 b0:V)(H:Hp)(Q:VK)(E:XK)(h:rL K A [a0,b0] H Q E):Dm K A (fN ["_law_these","_law_many"] [a0] [b0]) H Q:=by
 obtain⟨p,m,k,e,h1,h2,hp,ok,q⟩:=h
 cases e
 exact⟨p,k,rfl,hp,ok,by omega,q⟩
def pI {H:Hp}{q0 q1 q2 q3:Addr}(v0 v1 v2 v3:V)(nd:([q0,q1,q2,q3]:List Addr).Nodup)(h:∀p∈([(1,q0),(2,q1),(3,q2),(4,q3)]:List (Nat×Addr)),H p.2=none):
  ∀H',H'=upd (upd (upd (upd H q0 (cB q0 v0)) q1 (cB q1 v1)) q2 (cB q2 v2)) q3 (cB q3 v3)->ar H H'/\H' q0=some (cB q0 v0)/\H' q1=some (cB q1 v1)/\H' q2=some (cB q2 v2)/\H' q3=some (cB q3 v3):=by
 rintro H' rfl
 have n01:q0≠q1:=fun e=>by simp[e]at nd
 have n02:q0≠q2:=fun e=>by simp[e]at nd
 have n03:q0≠q3:=fun e=>by simp[e]at nd
 have n12:q1≠q2:=fun e=>by simp[e]at nd
 have n13:q1≠q3:=fun e=>by simp[e]at nd
 have n23:q2≠q3:=fun e=>by simp[e]at nd
 refine⟨fun z o e=>?_,?_,?_,?_,al⟩
 ·have h0:=ay e (h (1,q0) (by simp))
  have h1:=ay e (h (2,q1) (by simp))
  have h2:=ay e (h (3,q2) (by simp))
  have h3:=ay e (h (4,q3) (by simp))
  rw[ap h3,ap h2,ap h1,ap h0];exact e
 ·rw[ap n03,ap n02,ap n01];exact al
 ·rw[ap n13,ap n12];exact al
 ·rw[ap n23];exact al
def Ce (K:If)(A:Adr):Ln (kI K A) 5:=by rintro vs H Q E ⟨w,m,b,v1,v2,kvs,n,rfl,_⟩;rfl
def kz {H:Hp}{pos:Pos}{t:cQ}{cs:List Addr}{σ:L2.St}{R:VK}{ps:Array Gt}(hP:H A.t_10=some (.tbl ps))(tok:TriplesOk ps.toList)(em:codeAmong pos ps.toList=none\/∃c,codeAmong pos ps.toList=some (.ref c)/\H c=some (gj c t.qual))
  (q:∀(c f:Addr)(H':Hp),dh A.t_10 H H'->H' f=some (gG f t cs c)->H' c=some (gj c t.qual)->((codeAmong pos ps.toList=none/\H' A.t_10=some (.tbl (ps++#[rawInt pos.line,rawInt pos.col,.ref c])))\/H' A.t_10=some (.tbl ps))->R (.ref f) H'):
  pZ A.t_10 pos t cs σ H R:=by
 refine⟨ps,hP,tok,?_⟩
 rcases em with em|⟨c,em,hc⟩
 ·refine .inl ⟨em,fun c f hc hf hne=>?_⟩
  have cP:=qd hP hc
  have fP:=qd hP hf
  have c1:∀o,upd H A.t_10 o c=none:=fun o=>by rw[ap cP];exact hc
  have f1:∀o,upd (upd H A.t_10 o) c (gj c t.qual) f=none:=fun o=>by rw[ap (KQ hne),ap fP];exact hf
  refine q c f _ (dh.tab.trans ((dh.new (c1 _)).trans (dh.new (f1 _)))) al (by rw[ap hne];exact al) (.inl ⟨em,?_⟩)
  rw[ap (KQ fP),ap (KQ cP)];exact al
 ·refine .inr ⟨c,em,fun f hf=>?_⟩
  have S:=ar.upd (o:=gG f t cs c) hf
  exact q c f _ (dh.new hf) al (S _ _ hc) (.inr (S _ _ hP))
def Fq (T:Txt K mg A)(q0 q1 q2 q3:Addr)(nd:([q0,q1,q2,q3]:List Addr).Nodup)(vs:List V)(H:Hp)(Q:VK)(E:XK)(h:kI K A vs H Q E):Ba K A q0 q1 q2 q3 {nx:=fun σ H'=>(∀p∈([(1,q0),(2,q1),(3,q2),(4,q3)]:List (Nat×Addr)),H' p.2=none)->Q .non (eK [(1,q0),(2,q1),(3,q2),(4,q3)] σ H'),rt:=fun σ v H'=>(∀p∈([(1,q0),(2,q1),(3,q2),(4,q3)]:List (Nat×Addr)),H' p.2=none)->Q v (eK [(1,q0),(2,q1),(3,q2),(4,q3)] σ H')} (L2.start ["_law_way","_law_many","_law_book","_law_one","_law_other_here"] vs) H:=by
 obtain⟨w,m,b,v1,v2,kvs,n,rfl,⟨ps,hP,tab⟩,hb,hl,hs,li,w0,w2,m1,m7,⟨o1,o2,k1,k2,rfl,rfl,h1,h2⟩,q⟩:=h
 have nb:b≠A.t_10:=de hb hP (fun z=>nomatch z)
 have n1:o1≠A.t_10:=de h1 hP (fun z=>nomatch z)
 have n2:o2≠A.t_10:=de h2 hP (fun z=>nomatch z)
 have tok:TriplesOk ps.toList:=by rcases tab with rfl|⟨c,rfl,_⟩<;>trivial
 refine Sel.dec (fun h=>?_) (fun h=>?_)
 ·refine kz (σ:=[]) (pos:=⟨284,15,284,88⟩) (t:=eZ) hP tok (tab.elim (fun e=>.inl (by subst e;rfl)) fun⟨c,e,hc⟩=>.inr ⟨c,by subst e;rfl,hc⟩) fun c f H2 kp hf hc ht hq=>?_
  obtain⟨S,e0,e1,e2,e3⟩:=pI (.int m) (.ref b) (.ref o1) (.ref o2) nd hq _ rfl
  have kp2:dh A.t_10 H _:=kp.trans fun x o e _=>S x o e
  refine q f b .sur _ _ kp2 (fun _=>?_) (.sur q1 kvs ⟨⟨c,S _ _ hf,S _ _ hc⟩,.cons e1 .nil⟩ (kp2 _ _ hb nb) hl hs li rfl rfl) fun _=>⟨rfl,rfl⟩
  rcases ht with⟨en,ht⟩|ht
  ·rcases tab with rfl|⟨c',rfl,hc'⟩
   ·exact⟨_,S _ _ ht,.inr ⟨c,rfl,S _ _ hc⟩⟩
   ·cases en
  ·refine⟨_,S _ _ ht,tab.imp id fun⟨c',e,hc'⟩=>⟨c',e,kp2 _ _ hc' (de hc' hP (fun z=>nomatch z))⟩⟩
 refine Sel.dec (fun h'=>?_) (fun h'=>?_)
 ·refine kz (σ:=[]) hP tok (.inl (by rcases tab with rfl|⟨c,rfl,hc⟩<;>rfl)) fun c f H2 kp hf hc ht hq=>?_
  obtain⟨S,e0,e1,e2,e3⟩:=pI (.int m) (.ref b) (.ref o1) (.ref o2) nd hq _ rfl
  have kp2:dh A.t_10 H _:=kp.trans fun x o e _=>S x o e
  exact q f b .oth _ _ kp2 (fun z=>absurd z h) (.pla q3 q2 q1 o1 o2 k1 k2 kvs ⟨⟨c,S _ _ hf,S _ _ hc⟩,.cons e3 (.cons e2 (.cons e1 .nil))⟩ (kp2 _ _ h1 n1) (kp2 _ _ h2 n2) (kp2 _ _ hb nb) hl hs li rfl rfl) fun z=>absurd z h
 ·refine kz (σ:=[]) hP tok (.inl (by rcases tab with rfl|⟨c,rfl,hc⟩<;>rfl)) fun c f H2 kp hf hc ht hq=>?_
  obtain⟨S,e0,e1,e2,e3⟩:=pI (.int m) (.ref b) (.ref o1) (.ref o2) nd hq _ rfl
  exact q f f .oth _ _ (kp.trans fun x o e _=>S x o e) (fun z=>absurd z h) (.wea q0 m m1 m7 ⟨⟨c,S _ _ hf,S _ _ hc⟩,.cons e0 .nil⟩ rfl rfl rfl) fun z=>absurd z h
def Stp.clo {H:Hp}{f b:Addr}{d:Kd}{g:gOp}{n:Nat}(s:Stp A H f b d g n):∃ts∈dk K A,∃cs cvs,eY H f ts.1 cs cvs:=by
 cases s with
 |sur _ _ hc=>exact⟨_,m0,_,_,hc⟩
 |pla _ _ _ _ _ _ _ _ hc=>exact⟨_,mS m0,_,_,hc⟩
 |wea _ _ _ _ hc=>exact⟨_,mS (mS m0),_,_,hc⟩
def bO (o:HO):Prop:=(∃kv,o=.dT kv)\/∃φ,o=.ext φ
def Stp.bb {H:Hp}{f b:Addr}{d:Kd}{g:gOp}{n:Nat}(s:Stp A H f b d g n):∃o,H b=some o/\bO o:=by
 cases s with
 |sur _ _ hc hb=>exact⟨_,hb,.inl ⟨_,rfl⟩⟩
 |pla _ _ _ _ _ _ _ _ hc _ _ hb=>exact⟨_,hb,.inl ⟨_,rfl⟩⟩
 |wea _ _ _ _ hc hb=>subst hb;obtain⟨c,h,_⟩:=hc.ex;exact⟨_,h,.inr ⟨_,rfl⟩⟩
def Stp.nb {H:Hp}{f b x:Addr}{d:Kd}{g:gOp}{n:Nat}{o:HO}(s:Stp A H f b d g n)(e:H x=some o)(h:¬bO o):x≠b:=fun z=>by
 subst z
 obtain⟨o',e',h'⟩:=s.bb
 rw[e]at e';cases e';exact h h'
def nbT (xs:List V):¬bO (.tup xs):=by rintro(⟨_,z⟩|⟨_,z⟩)<;>cases z
def nbL (xs:List V):¬bO (.lst xs):=by rintro(⟨_,z⟩|⟨_,z⟩)<;>cases z
def Stp.keep {H H':Hp}{f b:Addr}{d:Kd}{g:gOp}{n m:Nat}(s:Stp A H f b d g n)(hn:n<=m)(k:∀x o,H x=some o->((∃xs,o=.tup xs)\/bO o)->H' x=some o):Stp A H' f b d g m:=by
 cases s with
 |sur q kvs hc hb hl hs st hg ed=>exact .sur q kvs (hc.keep fun x φ e=>k _ _ e (.inr (.inr ⟨_,rfl⟩))) (k _ _ hb (.inr (.inl ⟨_,rfl⟩))) (JQ hl hn) hs st hg ed
 |pla q0 q1 q2 o1 o2 k1 k2 kvs hc h1 h2 hb hl hs st hg ed=>exact .pla q0 q1 q2 o1 o2 k1 k2 kvs (hc.keep fun x φ e=>k _ _ e (.inr (.inr ⟨_,rfl⟩))) (k _ _ h1 (.inl ⟨_,rfl⟩)) (k _ _ h2 (.inl ⟨_,rfl⟩)) (k _ _ hb (.inr (.inl ⟨_,rfl⟩))) (JQ hl hn) hs st hg ed
 |wea q m h1 h2 hc hb hg ed=>exact .wea q m h1 h2 (hc.keep fun x φ e=>k _ _ e (.inr (.inr ⟨_,rfl⟩))) hb hg ed
def Stp.same {H H':Hp}{f b:Addr}{d:Kd}{g:gOp}{n m:Nat}(s:Stp A H f b d g n)(hn:n<=m)(S:ar H H'):Stp A H' f b d g m:=s.keep hn fun x o e _=>S x o e
def Stp.setL {H:Hp}{f b M:Addr}{d:Kd}{g:gOp}{n:Nat}{xs ys:List V}(s:Stp A H f b d g n)(hM:H M=some (.lst xs)):Stp A (upd H M (.lst ys)) f b d g n:=s.keep (IV _) fun x o e h=>by
 rw[ap fun z=>?_];exact e
 subst z;rw[hM]at e;cases e
 rcases h with⟨_,z⟩|h
 ·cases z
 ·exact nbL _ h
def aG.tup {H H':Hp}{f b:Addr}{d:Kd}{g:gOp}{n:Nat}(s:Stp A H f b d g n)(k:aG b H H'):∀x xs,H x=some (.tup xs)->H' x=some (.tup xs):=fun x xs e=>k _ _ (s.nb e (nbT _)) e
def aG.lst {H H':Hp}{f b:Addr}{d:Kd}{g:gOp}{n:Nat}(s:Stp A H f b d g n)(k:aG b H H'):∀x xs,H x=some (.lst xs)->H' x=some (.lst xs):=fun x xs e=>k _ _ (s.nb e (nbL _)) e
def eV {H:Hp}{f b p:Addr}{d:Kd}{g:List Key->Option Key}{n:Nat}{k:List Key}{R:VK}(s:Stp A H f b d g n)(hn:n<=45000)(hp:H p=some (.tup (k.map kV)))(ok:okT k=true)
  (q:∀(v:Key)(H':Hp)(g':List Key->Option Key),aG b H H'->Stp A H' f b d g' (n+1)->Sub g g'->g' k=some v->eM v->R (kV v) H'):rP (dk K A) f [.ref p] H R E0:=by
 have s0:=s
 have ll:∀kvs:List (List Key×Key),(cw kvs).length=kvs.length:=fun kvs=>by simp[cw]
 have p60:(50000000:Int)<10^60:=by decide+kernel
 have bd:∀kvs:List (List Key×Key),kvs.length<=n->eM (.inl (3*((cw kvs).length:Int)+5)):=fun kvs hl=>⟨_,rfl,by rw[ll];omega,by rw[ll];omega⟩
 cases s with
 |sur c kvs hc hb hl hs st hg ed=>
  obtain⟨kvs',v,H2,ev,eH,hb',keep,hl',hs',gv,sv,sub⟩:=oA k (.inl (3*((cw kvs).length:Int)+5)) hs (bd kvs hl) hb hc.cells _ (.refl _)
  refine⟨_,m0,_,_,hc,rfl,p,b,k,cw kvs,rfl,hc.cells.hide hp (fun _ z=>nomatch z),hc.cells.hide hb (fun _ z=>nomatch z),by rw[ll];omega,?_⟩
  try dsimp only
  rw[show V.int (3*((cw kvs).length:Int)+5)=kV (.inl (3*((cw kvs).length:Int)+5))from rfl,ev,eH]
  obtain⟨st',hl2⟩:=st.step (kk:=k) (by rw[<-ll kvs];exact hl')
  refine q v H2 (cN kvs') (fun x o n e=>keep x o n e) (.sur c kvs' (hc.keep fun x φ e=>keep x _ (de e hb (fun z=>nomatch z)) e) hb' (by omega) hs' st' rfl ed) ?_ gv sv
  rw[hg];exact sub
 |pla q0 q1 q2 o1 o2 k1 k2 kvs hc h1 h2 hb hl hs st hg ed=>
  refine⟨_,mS m0,_,_,hc,rfl,p,b,o1,o2,k,k1,k2,cw kvs,rfl,hc.cells.hide hp (fun _ z=>nomatch z),hc.cells.hide h1 (fun _ z=>nomatch z),hc.cells.hide h2 (fun _ z=>nomatch z),hc.cells.hide hb (fun _ z=>nomatch z),by rw[ll];omega,fun H' S=>?_⟩
  obtain⟨kvs',v,H2,ev,eH,hb',keep,hl',hs',gv,sv,sub⟩:=oA (if k=k2 then k1 else k) (.inl (3*((cw kvs).length:Int)+5)) hs (bd kvs hl) hb hc.cells H' S
  rw[show V.int (3*((cw kvs).length:Int)+5)=kV (.inl (3*((cw kvs).length:Int)+5))from rfl,ev,eH]
  obtain⟨st',hl2⟩:=st.step (kk:=if k=k2 then k1 else k) (by rw[<-ll kvs];exact hl')
  refine q v H2 (fun k=>cN kvs' (if k=k2 then k1 else k)) (fun x o n e=>keep x o n e) (.pla q0 q1 q2 o1 o2 k1 k2 kvs' (hc.keep fun x φ e=>keep x _ (de e hb (fun z=>nomatch z)) e) (keep _ _ (de h1 hb (fun z=>nomatch z)) h1) (keep _ _ (de h2 hb (fun z=>nomatch z)) h2) hb' (by omega) hs' st' rfl ed) ?_ gv sv
  rw[hg];exact fun k v e=>sub _ _ e
 |wea c m h1 h2 hc hb hg ed=>
  refine⟨_,mS (mS m0),_,_,hc,rfl,p,m,k,rfl,h1,h2,hc.cells.hide hp (fun _ z=>nomatch z),ok,?_⟩
  have S:=ar.hide [c] (.refl (cZ [c] H))
  have r:=Iv (x:=oi k) h1 h2
  exact q (.inl (oi k%m)) _ g (aG.same S) (s0.same (LO _) S) Sub.rfl' (by rw[hg]) ⟨_,rfl,r.1,by omega⟩
def Stp.inj {H:Hp}{f b:Addr}{g:gOp}{n:Nat}(s:Stp A H f b .sur g n){k k':List Key}{v:Key}(h:g k=some v)(h':g k'=some v):k=k':=by
 cases s with
 |sur _ kvs _ _ _ _ st hg _=>rw[hg]at h h';exact st.inj (by decide) h h'
 |pla _ _ _ _ _ _ _ _ _ _ _ _ _ _ _ _ ed=>cases ed
 |wea _ _ _ _ _ _ _ ed=>cases ed
def Stp.tab {H:Hp}{f b:Addr}{g:gOp}{n:Nat}(s:Stp A H f b .sur g n):∃kvs,H b=some (.dT (cw kvs))/\kvs.length<=n/\eL kvs/\Lin 3 5 kvs:=by
 cases s with
 |sur _ kvs _ hb hl hs st _ _=>exact⟨kvs,hb,hl,hs,st⟩
 |pla _ _ _ _ _ _ _ _ _ _ _ _ _ _ _ _ ed=>cases ed
 |wea _ _ _ _ _ _ _ ed=>cases ed
def je {H:Hp}(x:Key):bj H (kV x) (aT x):=by
 cases x with
 |inl i=>exact .int i
 |inr z=>exact .str z
def ixL {K:If}{H:Hp}{Q:VK}{a:Addr}{xs:List V}{x:V}{i:Int}{j:Nat}(ha:H a=some (.lst xs))(e:i=j)(hx:xs[j]?=some x)(q:Q x H):az K (.ref a) (.int i) H Q:=by
 subst e
 refine .inl (.inl ⟨a,xs,j,x,rfl,rfl,SqL.of ha,?_,q⟩)
 have hj:=(IW.mp hx).1
 rw[pe (by omega) (by omega)]
 simp[Jk,hx]
def fM {e:Key}(h:okP e=true):bq (aT e)=true:=by
 cases e with
 |inl i=>exact h
 |inr z=>rfl
def vx {zs:List Str}(h:∀z∈zs,cm z=true):cm (Txt.join "" zs)=true:=by
 rw[rg]
 induction zs with
 |nil=>decide+kernel
 |cons z r ih=>exact mw (h z Jw) (ih fun y hy=>h y (Je _ hy))
def Cz (K:If)(A:Adr):Ln (kY K A) 1:=by rintro vs H Q E ⟨i,rfl,_⟩;rfl
def EM (T:Txt K mg A):Rd (kY K A) (Hl K A) ["thing"]:=by
 intro vs H Q E h
 obtain⟨i,rfl,h0,h1,q⟩:=h
 refine⟨_,_,rfl,.int i,Sel.t (Sel.yes (decide_eq_true h0) ⟨by decide,?_⟩)⟩
 have e:decide (i<1*2^(60:Int).toNat)=true:=decide_eq_true (by show i<1*2^60;omega)
 show Q (.bl (decide (i<1*2^(60:Int).toNat))) H
 rw[e];exact q
def Dj (K:If)(A:Adr):Ln (kG K A) 2:=by rintro vs H Q E ⟨i,j,rfl,_⟩;rfl
def GG (T:Txt K mg A):Rd (kG K A) (Iz K A) ["count","place"]:=by
 intro vs H Q E h
 obtain⟨c,p,rfl,h0,h1,h2,q⟩:=h
 refine⟨c,rfl,by omega,h2,Sel.t ⟨_,_,rfl,.int p,Sel.t (Sel.yes (decide_eq_true h0) ?_)⟩⟩
 show Q (.bl (decide (p<c))) H
 rw[decide_eq_true h1];exact q
def ii {K:If}{H:Hp}{Q:VK}{L:Addr}{qs:List V}{p:V}(hL:H L=some (.lst (qs++[p])))(q:Q p H):az K (.ref L) (.int (-1)) H Q:=
 .inl (.inl ⟨L,_,-1,p,rfl,rfl,SqL.of hL,oh _ _,q⟩)
def qe {w:Str}{r:List Key}(hw:okP (.inr w)=true)(hr:∀x∈r,okP x=true)(hl:r.length<=7):okT (.inr w::r)=true:=by
 show(decide (1<=r.length+1/\r.length+1<=8)&&true&&(okP (.inr w)&&r.all okP))=true
 rw[hw,Kv.mpr hr,decide_eq_true (by omega)];rfl
def okW:okP (.inr "void")=true/\okP (.inr "entry")=true/\okP (.inr "joint")=true/\okP (.inr "row")=true:=by decide+kernel
def lY {e:Key}(h:okP e=true):okT [.inr "entry",e]=true:=qe okW.2.1 (fun x hx=>by rw[JJ.mp hx];exact h) (show 1<=7 by decide)
def mq {x y:Key}(hx:okP x=true)(hy:okP y=true):okT [.inr "joint",x,y]=true:=qe okW.2.2.1 (fun z hz=>by
 rcases IY.mp hz with h|h
 ·rw[h];exact hx
 ·rw[JJ.mp h];exact hy) (show 2<=7 by decide)
def oJ {m:Nat}(h:2<=m):be m<m:=by
 have:=OM (n:=m- 1) (by omega)
 unfold be;omega
def pD {m:Nat}(h:2<=m):m<=2*be m:=by
 have:=Nat.lt_log2_self (n:=m- 1)
 unfold be;rw[Nat.pow_succ]at this;omega
def iY {m e:Nat}(h:2<=m)(he:m<=2^e):∃k,be m=2^k/\k<e:=by
 refine⟨OT (m- 1),rfl,?_⟩
 have h1:=OM (n:=m- 1) (by omega)
 exact(PP (by decide:1<2)).mp (by omega:2^OT (m- 1)<2^e)
def oE {m e:Nat}(h:2<=m)(he:m<=2^(e+1)):be m<=2^e:=by
 obtain⟨k,e1,hk⟩:=iY h he
 rw[e1];exact ML (by decide) (by omega)
def pT {e p m:Nat}(h:m<=1):cy e p m=[]:=by
 cases e with
 |zero=>rfl
 |succ e=>unfold cy;rw[if_pos h]
def mC {e p m:Nat}(h:¬m<=1):cy (e+1) p m=if p<be m then 0::cy e p (be m)else 1::cy e (p- be m) (m- be m):=by
 show(if m<=1 then _ else _)=_
 rw[if_neg h]
theorem dm:∀e p m,(cy e p m).length<=e
 |0,_,_=>Kf _
 |e+1,p,m=>by
  unfold cy
  split
  ·simp
  ·split
   ·have:=dm e p (be m);simp;omega
   ·have:=dm e (p- be m) (m- be m);simp;omega
def Cv (K:If)(A:Adr):Ln (mY K A) 1:=by rintro vs H Q E ⟨m,rfl,_⟩;rfl
def EQ (T:Txt K mg A)(vs:List V)(H:Hp)(Q:VK)(E:XK)(h:mY K A vs H Q E):HX K A {nx:=fun _ H'=>Q .non H',rt:=Q} (start ["many"] vs) H:=by
 obtain⟨m,rfl,h2,h60,q⟩:=h
 obtain⟨k,ek,hk⟩:=iY h2 h60
 have e:(Le ((m:Int)- 1):Int)- 1=((OT (m- 1):Nat):Int):=by
  unfold Le
  rw[if_neg (by simp;omega)]
  have:((m:Int)- 1).natAbs=m- 1:=by omega
  rw[this];omega
 have hl:OT (m- 1)<60:=by
  have h1:=OM (n:=m- 1) (by omega)
  exact(PP (by decide:1<2)).mp (by omega:2^OT (m- 1)<2^60)
 refine⟨rfl,?_⟩
 show((0<=(Le ((m:Int)- 1):Int)- 1/\_/\_)/\Q (.int (1*2^((Le ((m:Int)- 1):Int)- 1).toNat)) H)
 rw[e]
 refine⟨⟨by omega,by omega,by decide⟩,?_⟩
 rw[Nv,Kb,<-gi]
 exact q
def DC (K:If)(A:Adr):Ln (nP K A) 2:=by rintro vs H Q E ⟨p,m,rfl,_⟩;rfl
def ES (T:Txt K mg A)(vs:List V)(H:Hp)(Q:VK)(E:XK)(h:nP K A vs H Q E):Hk K A {nx:=fun _ H'=>Q .non H',rt:=Q} (start ["place","many","turns","first","rest","ahead"] vs) H:=by
 obtain⟨p,m,rfl,hp,hm,q⟩:=h
 refine⟨by show 0<=sizeLine;decide,fun D hD=>?_⟩
 have q':=q D hD
 refine⟨fun e σ H2=>∃(f r:Nat)(ts:List Int)(ah:Option V),σ=[some (.int p),some (.int m),some (.ref D),some (.int f),some (.int r),ah]/\H2=upd H D (.lst (ts.map V.int))/\
  f<=p/\p<f+r/\r<=2^e/\e<=60/\ts.length+e=60/\ts++cy e (p- f) r=cy 60 p m,⟨60,0,m,[],none,rfl,rfl,by omega,by omega,hm,by omega,rfl,by rw[OU,OE]⟩,?_⟩
 rintro e σ H2 ⟨f,r,ts,ah,rfl,rfl,hf,hr,he,h60,hl,hw⟩
 refine xG (fun h=>?_) (fun h=>?_)
 ·have h2:2<=r:=by omega
  cases e with
  |zero=>simp at he;omega
  |succ e=>
  have b1:=oJ h2
  have b2:=pD h2
  have b3:=oE h2 he
  have hr60:r<=2^60:=JQ he (ML (by decide) h60)
  rw[mC (by omega)]at hw
  refine⟨fun σ' H'=>∃(f r:Nat)(ts:List Int)(ah:Option V),σ'=[some (.int p),some (.int m),some (.ref D),some (.int f),some (.int r),ah]/\H'=upd H D (.lst (ts.map V.int))/\
   f<=p/\p<f+r/\r<=2^e/\e<=60/\ts.length+e=60/\ts++cy e (p- f) r=cy 60 p m,fun σ' H' w=>⟨e,by omega,w⟩,?_⟩
  refine⟨r,rfl,h2,hr60,?_⟩
  refine Sel.dec (fun hlt=>?_) (fun hlt=>?_)
  ·rw[if_pos (by omega)]at hw
   refine⟨.inl ⟨rfl,_,SqL.of al⟩,D,_,_,rfl,rfl,al,by rw[IU];exact bL (by omega),?_⟩
   refine⟨f,be r,ts++[0],_,rfl,by rw[JD];exact eW,hf,by omega,b3,by omega,by rw[Jg];simp;omega,?_⟩
   rw[KP];exact hw
  ·rw[if_neg (by omega)]at hw
   refine⟨.inl ⟨rfl,_,SqL.of al⟩,D,_,_,rfl,rfl,al,by rw[IU];exact bL (by omega),?_⟩
   refine⟨f+be r,r- be r,ts++[1],some (.int (be r)),?_,by rw[JD];exact eW,by omega,by omega,by omega,by omega,by rw[Jg];simp;omega,?_⟩
   ·show[some (V.int p),some (V.int m),some (V.ref D),some (V.int ((f:Int)+(be r:Int))),some (V.int ((r:Int)- (be r:Int))),some (V.int (be r))]=_
    rw[show((f:Int)+(be r:Int))=((f+be r:Nat):Int)by omega,show((r:Int)- (be r:Int))=((r- be r:Nat):Int)by omega]
   ·rw[KP,show p- (f+be r)=p- f- be r by omega];exact hw
 ·rw[pT (by omega),KW]at hw
  show Q (.ref D) (upd H D (.lst (ts.map V.int)))
  rw[hw];exact q'
def Bu (K:If)(A:Adr):Ln (nB K A) 3:=by rintro vs H Q E ⟨t,o,a,rfl,_⟩;rfl
def Gf (T:Txt K mg A):Rd (nB K A) (HA K A) ["turn","own","aside"]:=by
 intro vs H Q E h
 obtain⟨t,o,a,rfl,q⟩:=h
 unfold jtT at q
 refine Sel.dec (fun h=>⟨aF (show 3<=1000000 by decide),fun p hp=>?_⟩) (fun h=>⟨aF (show 3<=1000000 by decide),fun p hp=>?_⟩)
 ·rw[if_pos h]at q;exact q p hp
 ·rw[if_neg h]at q;exact q p hp
def AR (K:If)(A:Adr):Ln (nE K A) 1:=by rintro vs H Q E ⟨p,c,v,rfl,_⟩;rfl
def DX (T:Txt K mg A):Rd (nE K A) (IN K A) ["thing"]:=by
 intro vs H Q E h
 obtain⟨p,c,v,rfl,hp,hc,okv,q⟩:=h
 have ty:tyN H (.ref p)=some "tuple":=by unfold tyN;dsimp only;rw[hp]
 refine⟨by decide,"tuple",ty,Sel.t (.inl (.inr (.inl ⟨_,SqT.of hp,Sel.t (ixT (j:=0) hp rfl rfl ⟨c,rfl,by omega,by omega,Sel.t (ixT (j:=1) hp rfl rfl ⟨_,_,rfl,je v,?_⟩)⟩)⟩)))⟩
 rw[fM okv];exact q
def AK (K:If)(A:Adr):Ln (mK K A) 1:=by rintro vs H Q E ⟨p,c,v,rfl,_⟩;rfl
def Er (T:Txt K mg A):Rd (mK K A) (Io K A) ["thing"]:=by
 intro vs H Q E h
 obtain⟨p,c,v,rfl,hp,hc,okv,q⟩:=h
 exact⟨p,c,v,rfl,hp,hc,okv,Sel.no rfl q⟩
def Bg (K:If)(A:Adr):Ln (nH K A) 2:=by rintro vs H Q E ⟨p,ks,rfl,_⟩;rfl
def GH (T:Txt K mg A):Rd (nH K A) (Il K A) ["many","thing"]:=by
 intro vs H Q E h
 obtain⟨p,k,rfl,hp,ok,l5,q⟩:=h
 have ty:tyN H (.ref p)=some "tuple":=by unfold tyN;dsimp only;rw[hp]
 have hml:(k.map kV).length=k.length:=by simp
 refine⟨by decide,"tuple",ty,Sel.t (.inl (.inr (.inl ⟨_,SqT.of hp,?_⟩)))⟩
 rw[hml]
 refine Sel.dec (fun _=>?_) (fun h=>absurd rfl h)
 refine⟨p,rfl,.inr ⟨⟨_,SqT.of hp⟩,fun D hD=>?_⟩⟩
 have hne:p≠D:=ay hp hD
 refine jS (ci.tuple (xs:=k.map kV) .non) (fun i ys H2=>ys=(k.take i).map (fun x=>V.bl true)/\H2=upd H D (.lst ys)) (fun i ys H2 hi ⟨_,e2⟩=>?_) ⟨rfl,rfl⟩ (fun i ys H2 hi ⟨e1,e2⟩=>?_) (fun ys H2 ⟨e1,e2⟩=>?_)
 ·rw[e2];exact SqT.of (by rw[ap hne];exact hp)
 ·subst e2
  have hi':i<k.length:=by omega
  obtain⟨x,hx⟩:∃x,k[i]?=some x:=⟨_,IR hi'⟩
  have hg:(k.map kV).getD i .non=kV x:=by rw[Jk,Jr,hx];rfl
  rw[hg]
  have hs:=fM (ok x (Jq hx))
  refine pB ⟨_,aT x,rfl,DB _ x,?_⟩
  rw[hs]
  have hyl:ys.length=i:=by rw[e1,IU,Jz];omega
  refine⟨al,by rw[hyl];exact bL (by omega),CWd.next hi ⟨?_,eW⟩⟩
  rw[e1,Rj,JD,hx];rfl
 ·subst e2
  refine⟨D,k.map fun _=>true,rfl,by rw[al,e1,hml,RF,List.map_map];rfl,?_⟩
  have:(k.map fun _=>true).all id=true:=by simp
  rw[this];exact q _ (ar.upd hD)
def pb.same {H H':Hp}{P T:Addr}{e:Key}{ks:List Key}(w:pb H P T e ks)(S:ar H H'):pb H' P T e ks:=⟨S _ _ w.hP,S _ _ w.hT⟩
def AD (K:If)(A:Adr):Ln (nO K A) 2:=by rintro vs H Q E ⟨L,P,T,ts,e,ks,rfl,_⟩;rfl
def Ei (T:Txt K mg A):Rd (nO K A) (Hj K A) ["turns","thing"]:=by
 intro vs H Q E h
 obtain⟨L,P,TT,ts,e,ks,rfl,hL,w,oke,okk,hl,l5,q⟩:=h
 have ty:tyN H (.ref P)=some "tuple":=by unfold tyN;dsimp only;rw[w.hP]
 refine⟨by decide,"tuple",ty,Sel.no rfl (.inl (.inr (.inl ⟨_,SqT.of w.hP,Sel.no (by simp) (ixT (j:=0) w.hP rfl rfl ⟨_,_,rfl,je e,?_⟩)⟩)))⟩
 rw[fM oke]
 refine Sel.t (.inl (.inl ⟨_,SqL.of hL,ixT (j:=1) w.hP rfl rfl ⟨TT,ks,?_,w.hT,okk,l5,q⟩⟩))
 rw[IU,hl]
def Ext.refl' (g:gOp):Ext g (fun k=>(g k).getD (.inl 0)):=fun k v e=>by show(g k).getD _=v;rw[e];rfl
def okC {c:Nat}(h:c<2^60):okP (.inl (c:Int))=true:=by
 have p60:(2:Int)^60<10^60:=by decide+kernel
 have k:∀i:Int,0<=i->i<10^60->okP (.inl i)=true:=fun i h0 h1=>decide_eq_true ⟨h0,h1⟩
 exact k _ (by omega) (by omega)
def GN {t:Int}{v a:Key}(hv:okP v=true)(ha:okP a=true):okT (jtT t v a)=true:=by
 unfold jtT;split
 ·exact mq hv ha
 ·exact mq ha hv
def BO {t:Int}{v v' a a':Key}(h:jtT t v a=jtT t v' a'):v=v'/\a=a':=by
 unfold jtT at h
 split at h
 ·cases h;exact⟨rfl,rfl⟩
 ·cases h;exact⟨rfl,rfl⟩
theorem kW:∀(f p m:Nat),∀t∈cy f p m,t=0\/t=1
 |0,_,_,t,h=>nomatch h
 |f+1,p,m,t,h=>by
  rw[cy]at h
  split at h
  ·cases h
  ·split at h
   ·rcases IY.mp h with rfl|h
    ·exact .inl rfl
    ·exact kW f _ _ t h
   ·rcases IY.mp h with rfl|h
    ·exact .inr rfl
    ·exact kW f _ _ t h
def PK.keep {H H':Hp}{ps:List Addr}{tt:List (List Key)}(h:PK H ps tt)(k:∀x xs,H x=some (.tup xs)->H' x=some (.tup xs)):PK H' ps tt:=Paired.mapP h fun p t ⟨h1,h2⟩=>⟨k _ _ h1,h2⟩
theorem gW {α β:Type}{F:α->β->Prop}:∀{l₁:List α}{l₂:List β}{a:α}{b:β},Paired F l₁ l₂->F a b->Paired F (l₁++[a]) (l₂++[b])
 |_,_,_,_,.nil,h=>.cons h .nil
 |_,_,_,_,.cons r t,h=>.cons r (gW t h)
theorem ij {H:Hp}{p:Addr}{t:List Key}:∀{ps:List Addr}{tt:List (List Key)},ps.length=tt.length->PK H (ps++[p]) (tt++[t])->H p=some (.tup (t.map kV))/\okT t=true
 |[],[],_,.cons h _=>h
 |_::_,_::_,hl,.cons _ r=>ij (Pq hl) r
 |[],_::_,hl,_=>nomatch hl
 |_::_,[],hl,_=>nomatch hl
def il {H:Hp}{p:Addr}{t:List Key}{ps:List Addr}{tt:List (List Key)}(h:PK H (ps++[p]) (tt++[t])):ps.length=tt.length:=by
 have:=fb h
 simp at this;exact this
def km {H:Hp}{ps:List Addr}{r:List (List Key)}{t:List Key}(h:PK H ps (r++[t])):∃qs p,ps=qs++[p]/\PK H (qs++[p]) (r++[t]):=by
 have hl:=fb h
 cases e:ps.reverse with
 |nil=>have:=congrArg OW e;rw[List.length_reverse,hl]at this;simp at this
 |cons x q=>
  have e2:ps=q.reverse++[x]:=by rw[<-List.reverse_reverse ps,e,Ng]
  exact⟨_,_,e2,by rw[<-e2];exact h⟩
def GO (K:If)(A:Adr):Ln (si K A) 3:=by rintro vs H Q E ⟨a,x,y,rfl,_⟩;rfl
def Hm (T:Txt K mg A):Rd (si K A) (T_0 K A) ["self","due","came"]:=by
 intro vs H Q E h
 obtain⟨a,x,y,rfl,ha,q⟩:=h
 refine⟨a,rfl,T.ef_Broken_due,.inl ⟨ha,fun dx hdx ne=>?_⟩⟩
 refine⟨a,rfl,T.ef_Broken_came,.inr ⟨dx,_,by rw[ap (KQ ne)];exact al,al,ne,by show 1<1000;decide,?_⟩⟩
 exact q dx hdx
def gN {K:If}{H:Hp}{Q:VK}{a b:Key}(q:Q (.bl (!decide (a=b))) H):cR K (kV a) (kV b) H Q:=by
 cases a<;>cases b
 ·rename_i i j
  have e:decide ((LR i:Key)=LR j)=decide (i=j):=by simp
  rw[e]at q;exact q
 ·have e:∀(i:Int)(j:Str),decide ((LR i:Key)=Mn j)=false:=by simp
  rw[e]at q;exact q
 ·have e:∀(i:Int)(j:Str),decide ((Mn j:Key)=LR i)=false:=by simp
  rw[e]at q;exact q
 ·rename_i i j
  have e:decide ((Mn i:Key)=Mn j)=decide (i=j):=by simp
  rw[e]at q;exact q
theorem jt (h:List Key->Key)(o:Key->List Key):∀(os:List (Key->List Key))(e:List Key),cU h e (os++[o])=cU h e os++[o (h (eS h e os))]
 |[],e=>rfl
 |p::os,e=>by show e::cU h _ (os++[o])=_;rw[jt h o os];rfl
theorem mn (h:List Key->Key)(o:Key->List Key):∀(os:List (Key->List Key))(e:List Key),eS h e (os++[o])=o (h (eS h e os))
 |[],e=>rfl
 |p::os,e=>mn h o os _
theorem ph (h:List Key->Key)(o:Key->List Key)(r:List (Key->List Key)):∀(os:List (Key->List Key))(e:List Key),cU h e (os++o::r)=cU h e os++cU h (o (h (eS h e os))) r
 |[],e=>rfl
 |p::os,e=>by show e::cU h _ (os++o::r)=_;rw[ph h o r os];rfl
theorem ja (h:List Key->Key):∀(os:List (Key->List Key))(e:List Key),∃pre,cU h e os=pre++[eS h e os]
 |[],e=>⟨[],rfl⟩
 |p::os,e=>by
  obtain⟨pre,hp⟩:=ja h os (p (h e))
  exact⟨e::pre,by show e::cU h _ os=_;rw[hp];rfl⟩
def ik {h:List Key->Key}{os:List (Key->List Key)}{e:List Key}{tt:List (List Key)}{t:List Key}(H:tt++[t]=cU h e os):t=eS h e os:=by
 obtain⟨pre,hp⟩:=ja h os e
 rw[hp]at H
 exact List.singleton_inj.mp (List.append_inj' H rfl).2
def jE {α:Type}{l:List α}(h:1<=l.length):∃pre x,l=pre++[x]/\l.dropLast=pre:=by
 have hn:l≠[]:=fun z=>by subst z;simp at h
 exact⟨l.dropLast,l.getLast hn,(List.dropLast_concat_getLast hn).symm,rfl⟩
structure Ld (A:Adr)(H H':Hp)(f b M:Addr)(d:Kd)(e:List Key)(os:List (Key->List Key))(g g':gOp)(n:Nat)(ps:List Addr)(p:Addr)(tt:List (List Key))(t:List Key):Prop where
 kb:aG b H H'
 s:Stp A H' f b d g' (n+os.length)
 sub:Sub g g'
 hM:H' M=some (.lst (ps.map V.ref++[.ref p]))
 pk:PK H' (ps++[p]) (tt++[t])
 len:tt.length=os.length
 td:∀x∈tt,∃v,g' x=some v
 eq:∀h,Ext g' h->tt++[t]=cU h e os
def Ld.step {H H5:Hp}{f b M:Addr}{d:Kd}{e:List Key}{os:List (Key->List Key)}{g g5:gOp}{n:Nat}{ps:List Addr}{p:Addr}{tt:List (List Key)}{t:List Key}{R:VK}
  (l:Ld A H H5 f b M d e os g g5 n ps p tt t)(hM:H M=none)(hn:n+os.length<=45000)
  (q:∀(v:Key)(H6:Hp)(g6:gOp),aG b H5 H6->H6 M=some (.lst (ps.map V.ref++[.ref p]))->eM v->(∀(o:Key->List Key),lO o->∀p7,H6 p7=none->Ld A H (upd (upd H6 p7 (.tup ((o v).map kV))) M (.lst (ps.map V.ref++[.ref p]++[.ref p7]))) f b M d e (os++[o]) g g6 n (ps++[p]) p7 (tt++[t]) (o v))->R (kV v) H6):rP (dk K A) f [.ref p] H5 R E0:=by
 obtain⟨kb,s5,sub,hM5,pk,len,td,eq⟩:=l
 obtain⟨hp,ok⟩:=ij (il pk) pk
 have nM:M≠b:=s5.nb hM5 (nbL _)
 refine eV s5 hn hp ok fun v H6 g6 kb6 s6 sub6 gv sv=>?_
 have hM6:=kb6 _ _ nM hM5
 refine q v H6 g6 kb6 hM6 sv fun o ho p7 hp7=>?_
 have L7:p7≠M:=KQ (ay hM6 hp7)
 have hM7:upd H6 p7 (.tup ((o v).map kV)) M=some (.lst (ps.map V.ref++[.ref p])):=ar.upd hp7 _ _ hM6
 have kt:∀x xs,H6 x=some (.tup xs)->upd (upd H6 p7 (.tup ((o v).map kV))) M (.lst (ps.map V.ref++[.ref p]++[.ref p7])) x=some (.tup xs):=fun x xs ex=>by
  rw[ap (de ex hM6 (fun z=>nomatch z))];exact ar.upd hp7 _ _ ex
 refine⟨fun z o nz ez=>?_,?_,sub.trans sub6,by rw[al,JD];rfl,gW ((pk.keep (aG.tup s5 kb6)).keep kt) ⟨by rw[ap L7];exact al,ho v sv⟩,by rw[Jg,Jg,len];rfl,fun x hx=>?_,fun h eh=>?_⟩
 ·rw[ap (ay ez hM)];exact ar.upd hp7 _ _ (kb6 _ _ nz (kb _ _ nz ez))
 ·rw[Jg]
  exact(s6.same (IV _) (ar.upd hp7)).setL hM7
 ·rcases Ka.mp hx with h|h
  ·obtain⟨w,hw⟩:=td x h;exact⟨w,sub6 _ _ hw⟩
  ·rw[JJ.mp h];exact⟨v,gv⟩
 ·have e1:=eq h (Ext.of sub6 eh)
  rw[jt,<-e1,<-ik e1,eh _ _ gv]
def Ld.start {H H3:Hp}{f b M t0:Addr}{d:Kd}{e:List Key}{g:gOp}{n:Nat}(s:Stp A H f b d g n)(S:ar H H3)(ok:okT e=true)(ht:H3 t0=some (.tup (e.map kV)))(hM:H3 M=some (.lst [.ref t0])):Ld A H H3 f b M d e [] g g n [] t0 [] e:=
 ⟨aG.same S,s.same (IV _) S,Sub.rfl',hM,.cons ⟨ht,ok⟩ .nil,rfl,(fun x hx=>nomatch hx),fun h _=>rfl⟩
def Ld.done {H H':Hp}{f b M:Addr}{d:Kd}{e:List Key}{os:List (Key->List Key)}{g g':gOp}{n:Nat}{ps:List Addr}{p:Addr}{tt:List (List Key)}{t:List Key}{Q:VK}
  (l:Ld A H H' f b M d e os g g' n ps p tt t)(hM:H M=none)(q:TQ A f b d e os g n H Q):Q (.ref M) H':=
 q M (ps++[p]) (tt++[t]) g' H' l.kb l.s l.sub hM (by rw[l.hM,JD];rfl) l.pk (by rw[Jg,l.len];rfl) (by rw[Qx];exact l.td) l.eq
def Ld.small {H H':Hp}{f b M:Addr}{d:Kd}{e:List Key}{os:List (Key->List Key)}{g g':gOp}{n:Nat}{ps:List Addr}{p:Addr}{tt:List (List Key)}{t:List Key}(l:Ld A H H' f b M d e os g g' n ps p tt t)(h:os.length<=900):(ps.map V.ref++[V.ref p]).length<sizeLine:=by
 have:=il l.pk
 have:=l.len
 rw[Jg,IU];exact bL (by show ps.length+1<=_;omega)
def Ld.ix {H H':Hp}{f b M:Addr}{d:Kd}{e:List Key}{os:List (Key->List Key)}{g g':gOp}{n:Nat}{ps:List Addr}{p:Addr}{tt:List (List Key)}{t:List Key}{R:VK}(l:Ld A H H' f b M d e os g g' n ps p tt t)(q:R (.ref p) H'):az K (.ref M) (.int (-1)) H' R:=ii l.hM q
def cu {α:Type}{l:List α}{i:Nat}{x:α}(h:l[i]?=some x):l.take i++[x]=l.take (i+1):=by rw[Rj,h];rfl
def eT {v:Key}(h:eM v):okP v=true:=by obtain⟨i,rfl,h0,h1⟩:=h;exact decide_eq_true ⟨h0,h1⟩
def Aj {B k d:Int}{m:Key}(hd:okP (.inl d)=true)(hb:okP (.inl (aJ B k d))=true)(hm:okP m=true):lO fun v=>bv B k d m v:=fun v sv=>by
 have hs:=eT sv
 show okT (bv B k d m v)=true
 unfold bv
 split
 ·exact xN lR.1 hd hb hs hm rfl
 ·exact xN lR.1 hd hb hm hs rfl
def yI {t:Int}{a:Key}(ha:okP a=true):lO fun v=>jtT t v a:=fun v sv=>GN (eT sv) ha
def GV:lO enT:=fun v sv=>lY (eT sv)
def yn {c:Nat}(h:c<2^60):lO (roT (c:Int)):=fun v sv=>qe okW.2.2.2 (fun z hz=>by
 rcases IY.mp hz with rfl|hz
 ·exact okC h
 ·rw[JJ.mp hz];exact eT sv) (show 2<=7 by decide)
def pd {b l:Int}{d:Dat}(hl:0<=l)(h:bz b 0 d=false):bz b l d=false:=by
 unfold bz at h⊢
 split at h
 ·rename_i i m
  rw[Bool.and_eq_false_iff]at h⊢
  rcases h with h|h
  ·left
   have h:=of_decide_eq_false h
   exact decide_eq_false (by omega)
  ·exact .inr h
 ·rfl
def qV {b l:Int}{s:Dat}(hl:0<=l)(h:bz b l s=true):l<=dy s/\dy s<b:=by
 obtain⟨i,m,rfl⟩:=gA h
 have h:(decide (l<=i/\i<b)&&bq m)=true:=h
 rw[Jt,decide_eq_true_eq]at h
 exact h.1
theorem jq {b:Int}{d:Dat}(h:bz b 0 d=false):∀{ds:List Dat}{l:Int}{j:Nat},0<=l->ds[j]? =some d->aQ b l ds=false
 |[],l,j,_,e=>by cases e
 |s::r,l,j,hl,e=>by
  show(bz b l s&&aQ b (dy s+1) r)=false
  cases hs:bz b l s with
  |false=>rfl
  |true=>
   have:=qV hl hs
   cases j with
   |zero=>
    have e:s=d:=Js e
    rw[e,pd hl h]at hs;cases hs
   |succ j=>
    have e:r[j]? =some d:=e
    rw[jq h (by omega) e];rfl
theorem jo {b:Int}:∀{ds:List Dat}{l:Int},0<=l->l<=b->aQ b l ds=true->(ds.length:Int)<=b- l
 |[],l,_,h,_=>by simp;omega
 |s::r,l,hl,hb,h=>by
  have h:(bz b l s&&aQ b (dy s+1) r)=true:=h
  rw[Jt]at h
  have:=qV hl h.1
  have:=jo (by omega) (by omega) h.2
  rw[JU];omega
def jL {x:Key}(h:okP x=true):okD (aT x)=true/\bq (aT x)=true:=by
 cases x with
 |inl i=>exact⟨rfl,h⟩
 |inr z=>exact⟨h,rfl⟩
theorem gM:∀{e:List Key},e.all okP=true->okDs (e.map aT)=true
 |[],_=>rfl
 |x::r,h=>by
  rw[PU,Jt]at h
  show(okD (aT x)&&okDs (r.map aT))=true
  rw[(jL h.1).1,gM h.2];rfl
theorem jI:∀e:List Key,JA (toPys (e.map aT))=0
 |[]=>rfl
 |x::r=>by
  show max (du (aT x)).depth (JA (toPys (r.map aT)))=0
  rw[qQ,jI r];rfl
def cT.step {b k:Int}{st:List (Int×Key)}{e:List Key}(g:cT b k st e){i:Nat}{s:Int×Key}(h:st[i]?=some s):0<=s.1/\s.1<b/\okP s.2=true:=by
 have hi:(st.map stD)[i]?=some (stD s):=by rw[Jr,h];rfl
 have hs:bz b 0 (stD s)=true:=by
  cases hh:bz b 0 (stD s)with
  |true=>rfl
  |false=>have:=jq hh (Nw 0) hi;rw[g.gs]at this;cases this
 have hs:(decide (0<=s.1/\s.1<b)&&bq (aT s.2))=true:=hs
 rw[Jt,decide_eq_true_eq]at hs
 exact⟨hs.1.1,hs.1.2,g.so s (Jq h)⟩
def cT.len {b k:Int}{st:List (Int×Key)}{e:List Key}(g:cT b k st e):st.length<=60:=by
 have h1:=jo (Nw 0) (by have:=g.b1;omega) g.gs
 have h2:=g.b60
 have h3:((st.map stD).length:Int)=st.length:=by simp
 omega
def tD {b k d:Int}(d0:0<=d)(hd:d<=b)(hb:b<=60)(k0:0<=k)(k1:k<2^b.toNat):0<=aJ b k d/\aJ b k d<10^60:=by
 refine⟨lW k0,?_⟩
 have h1:=ml d0 hd k1
 have h2:=jQ (k:=d.toNat) (by omega)
 have q60:(2:Int)^60<10^60:=by decide+kernel
 omega
def va {b:Int}{ds:List Dat}(b1:1<=b)(h:aQ b 0 ds=true):0<=bR 0 ds/\bR 0 ds<=b:=by
 unfold bR
 cases e:ds.getLast? with
 |none=>exact⟨Nw 0,by show(0:Int)<=b;omega⟩
 |some s=>
  obtain⟨i,m,rfl,i0,i1⟩:=fV (Nw 0) h e
  exact⟨by show 0<=i+1;omega,by show i+1<=b;omega⟩
def tQ {H:Hp}{st:List (Int×Key)}{xs:List V}(w:DatWs H xs (st.map stD)){i:Nat}(hi:i<xs.length):∃s p,st.reverse[i]?=some s/\xs.reverse.getD i .non=.ref p/\H p=some (.tup [.int s.1,kV s.2]):=by
 have hl:xs.length=st.length:=by rw[w.len];simp
 obtain⟨x,hx⟩:∃x,xs[xs.length- 1- i]?=some x:=⟨_,IR (by omega)⟩
 obtain⟨s,p,hs,rfl,hp⟩:=kX w hx
 refine⟨s,p,?_,?_,hp⟩
 ·rw[KR (by omega),<-hs,hl]
 ·rw[Jk,KR hi,hx];rfl
def cT.okE {b k:Int}{st:List (Int×Key)}{e:List Key}(g:cT b k st e):fY (.tup (e.map aT)):=.inl ⟨gM (ls g.et),by show JA (toPys (e.map aT))+1<=140;rw[jI];decide⟩
def cT.slip {b k:Int}{st:List (Int×Key)}{e:List Key}(g:cT b k st e):jD b k (.tup [.tup (st.map stD),.tup (e.map aT)])=true:=by
 show(aQ b 0 (st.map stD)&&cv b k (hJ (st.map stD)) (.tup (e.map aT)))=true
 have:hJ (st.map stD)=bR 0 (st.map stD):=rfl
 rw[g.gs,this,g.en];rfl
def dO (o:HO):Prop:=(∃xs,o=.lst xs)\/(∃xs,o=.tup xs)\/∃kvs,o=.dK kvs
mutual
theorem bj.kp {H H':Hp}{v:V}{d:Dat}(h:bj H v d)(k:∀a o,H a=some o->dO o->H' a=some o):bj H' v d:=by
 cases h with
 |non=>exact .non
 |bl b=>exact .bl b
 |int i=>exact .int i
 |str z=>exact .str z
 |lst e r=>exact .lst (k _ _ e (.inl ⟨_,rfl⟩)) (DatWs.kp r k)
 |tup e r=>exact .tup (k _ _ e (.inr (.inl ⟨_,rfl⟩))) (DatWs.kp r k)
 |dic e=>exact(let ⟨kv,e⟩:=e;.dic ⟨kv,k _ _ e (.inr (.inr ⟨_,rfl⟩))⟩)
theorem DatWs.kp {H H':Hp}{xs:List V}{ds:List Dat}(h:DatWs H xs ds)(k:∀a o,H a=some o->dO o->H' a=some o):DatWs H' xs ds:=by
 cases h with
 |nil=>exact .nil
 |cons a r=>exact .cons (bj.kp a k) (DatWs.kp r k)
end
def qW {B k:Int}(k0:0<=k)(k1:k<2^B.toNat):hV B (.int k)=true:=decide_eq_true ⟨k0,k1⟩
def Stp.dO {H H':Hp}{f b:Addr}{d:Kd}{g:gOp}{n:Nat}(s:Stp A H f b d g n)(k:aG b H H'):∀a o,H a=some o->Rs.dO o->H' a=some o:=fun a o e h=>k a _ (s.nb e (by rcases h with⟨_,rfl⟩|⟨_,rfl⟩|⟨_,rfl⟩<;>rintro(⟨_,z⟩|⟨_,z⟩)<;>cases z)) e
def bj.kb {H H':Hp}{f b:Addr}{d:Kd}{g:gOp}{n:Nat}{v:V}{x:Dat}(h:bj H v x)(s:Stp A H f b d g n)(k:aG b H H'):bj H' v x:=h.kp (s.dO k)
def Pap.kb {H H':Hp}{f b P:Addr}{d:Kd}{g:gOp}{n m:Nat}{B k:Int}{ks:List Key}{st:List (Int×Key)}{e:List Key}(h:Pap H P B k m ks st e)(s:Stp A H f b d g n)(kb:aG b H H'):Pap H' P B k m ks st e:=⟨h.w.kb s kb,h.g,h.kl,h.ke⟩
def Pap.same {H H':Hp}{P:Addr}{m:Nat}{B k:Int}{ks:List Key}{st:List (Int×Key)}{e:List Key}(h:Pap H P B k m ks st e)(S:ar H H'):Pap H' P B k m ks st e:=⟨h.w.mono S,h.g,h.kl,h.ke⟩
def jO {H H':Hp}{L:Addr}(S:ar H H')(h:H' L=none):H L=none:=by
 cases z:H L with
 |none=>rfl
 |some o=>rw[S _ _ z]at h;cases h
def dH (B k:Int)(st:List (Int×Key)):(gY B k st).length=st.length:=by simp[gY]
def kx {c:Int}{ts:List Int}{ks:List Key}(h:ks.length=ts.length):(fo c ts ks).length=ts.length+1:=by simp[fo,h]
def fw {B k c:Int}{st:List (Int×Key)}{ts:List Int}{ks:List Key}(h:ks.length=ts.length):(bH B k c st ts ks).length=st.length+ts.length+2:=by
 unfold bH;rw[Jg,JU,dH,kx h];omega
def qO {B k:Int}{st:List (Int×Key)}{i:Nat}{s:Int×Key}(h:st.reverse[i]?=some s):(gY B k st)[i]?=some fun v=>bv B k s.1 s.2 v:=by
 unfold gY;rw[Jr,h];rfl
def cT.op {B k:Int}{st:List (Int×Key)}{e:List Key}(g:cT B k st e){i:Nat}{s:Int×Key}(h:st.reverse[i]?=some s):s.1<B/\0<=s.1/\lO fun v=>bv B k s.1 s.2 v:=by
 have hi:i<st.length:=by have:=(IW.mp h).1;simpa using this
 obtain⟨d0,d1,om⟩:=g.step (i:=st.length- 1- i) (s:=s) (by rw[<-h,KR hi])
 have p60:(60:Int)<10^60:=by decide+kernel
 have hb:=g.b60
 refine⟨d1,d0,Aj (decide_eq_true ⟨d0,by omega⟩) (decide_eq_true (tD d0 (by omega) g.b60 g.k0 g.k1)) om⟩
def Cm (K:If)(A:Adr):Ln (mR K A) 4:=by rintro vs H Q E ⟨f,b,d,B,k,w,st,e,g,n,rfl,_⟩;rfl
def EZ (T:Txt K mg A):Rd (mR K A) (Ir K A) ["stamper","bits","key","slip","terms","step"]:=by
 intro vs H Q E h
 obtain⟨f,b,d,B,k,w0,st,e,g,n,rfl,w,sp,hn,q⟩:=h
 have gd:=w.2
 have gl:=gd.len
 have B1:=gd.b1
 have B60:=gd.b60
 obtain⟨a,s,t,xs,rfl,ha,hs,ws,ht⟩:=fB w
 have hxl:xs.length=st.length:=by rw[ws.len];simp
 refine⟨B,.int k,.int k,rfl,by omega,B60,.int k,?_⟩
 rw[qW gd.k0 gd.k1]
 refine Sel.no rfl ⟨B,k,.ref a,_,rfl,by omega,B60,w.1,gd.okE,fun H0 S0=>?_⟩
 rw[gd.slip]
 refine Sel.no rfl (ixT (j:=1) (S0 _ _ ha) rfl rfl ⟨aF (n:=1) (by decide),fun L hL=>?_⟩)
 have hLn:=jO S0 hL
 have S1:=S0.trans (ar.upd (o:=.lst [V.ref t]) hL)
 refine ixT (j:=0) (S1 _ _ ha) rfl rfl ⟨s,xs,rfl,.inr ⟨SqT.of (S1 _ _ hs),?_⟩⟩
 refine kU (ci.rev .non) (fun i σ H'=>∃g' ps p tt t' x5,σ=[some (.ref f),some (.int B),some (.int k),some (.ref a),some (.ref L),x5]/\Ld A H H' f b L d e ((gY B k st).take i) g g' n ps p tt t')
  ⟨g,[],t,[],e,none,rfl,Ld.start sp S1 gd.et (S1 _ _ ht) al⟩ ?_ ?_ ?_
 ·rintro i σ H1 _ ⟨g1,ps,p,tt,t',x5,rfl,l⟩
  exact SqT.of (aG.tup sp l.kb _ _ hs)
 ·rintro i σ H1 hi ⟨g1,ps,p,tt,t',x5,rfl,l⟩
  obtain⟨sk,pp,hsk,ep,hp⟩:=tQ ws hi
  rw[ep]
  obtain⟨d1,_,oo⟩:=gd.op hsk
  have ll:((gY B k st).take i).length<=60:=by rw[Jz,dH];omega
  refine⟨.inl ⟨rfl,_,SqL.of l.hM⟩,f,rfl,l.s.clo,l.ix (l.step hLn (by omega) fun v H6 g6 kb6 hM6 sv nx=>?_)⟩
  refine⟨B,k,sk.1,sk.2,v,pp,rfl,aG.tup l.s kb6 _ _ (aG.tup sp l.kb _ _ hp),d1,gd.k0,fun t1 h1=>?_⟩
  refine⟨L,_,.ref t1,rfl,rfl,ar.upd h1 _ _ hM6,l.small (by omega),?_⟩
  have l2:=nx _ oo t1 h1
  rw[cu (qO hsk)]at l2
  exact⟨g6,_,_,_,_,_,rfl,l2⟩
 ·rintro σ H1 ⟨g1,ps,p,tt,t',x5,rfl,l⟩
  rw[KL (by rw[dH,hxl];exact IV _)]at l
  exact l.done hLn q
def uG {ts:List Int}{ks:List Key}(kl:ks.length=ts.length){i:Nat}(hi:i<ts.length):∃tn k,ts[ts.length- 1- i]?=some tn/\ks[ts.length- 1- i]?=some k/\(ts.zip ks).reverse[i]?=some (tn,k):=by
 have h1:ts.length- 1- i<ts.length:=by omega
 have h2:ts.length- 1- i<ks.length:=by omega
 refine⟨ts[ts.length- 1- i],ks[ts.length- 1- i],IR h1,IR h2,?_⟩
 have hz:(ts.zip ks).length=ts.length:=by rw[List.length_zip];omega
 rw[KR (by omega),hz,IR (by omega),List.getElem_zip]
def qD {c:Int}{ts:List Int}{ks:List Key}{i:Nat}{x:Int×Key}(h:(ts.zip ks).reverse[i]?=some x):(fo c ts ks)[i]?=some fun v=>jtT x.1 v x.2:=by
 unfold fo
 rw[Kt (by rw[IU];exact(IW.mp h).1),Jr,h];rfl
def oz {c:Int}{ts:List Int}{ks:List Key}(kl:ks.length=ts.length):(fo c ts ks)[ts.length]?=some (roT c):=by
 unfold fo
 rw[Kq (by simp[kl])]
 simp[kl]
def Dx (K:If)(A:Adr):Ln (nW K A) 4:=by rintro vs H Q E ⟨f,b,P,T,d,c,p,ks,e,g,n,rfl,_⟩;rfl
def GB (T:Txt K mg A):Rd (nW K A) (HN K A) ["stamper","count","place","paper","turns","terms","step"]:=by
 intro vs H Q E h
 obtain⟨f,b,P,TT,d,c,p,ks,e,g,n,rfl,w,ee,ke,kl,lt,c2,s,hn,q⟩:=h
 have tl:(bi c p).length<=60:=dm _ _ _
 refine⟨_,_,rfl,by omega,by omega,by omega,Sel.no rfl ⟨p,c,rfl,lt,by omega,fun W hWn=>?_⟩⟩
 have S1:ar H (upd H W (.lst ((bi c p).map V.int))):=ar.upd hWn
 have hW:upd H W (.lst ((bi c p).map V.int)) W=some (.lst ((bi c p).map V.int)):=al
 generalize upd H W (.lst ((bi c p).map V.int))=H1 at S1 hW
 generalize hts:bi c p=ts at*
 refine⟨W,P,TT,_,e,ks,rfl,hW,w.same S1,ee,ke,kl,by omega,fun H2 S2=>Sel.no rfl ?_⟩
 have w2:=(w.same S1).same S2
 refine ixT (j:=0) w2.hP rfl rfl ⟨aF (show 2<=1000000 by decide),fun t ht=>⟨aF (show 1<=1000000 by decide),fun L hL=>?_⟩⟩
 have S3:ar H2 (upd (upd H2 t (.tup [.str "entry",kV e])) L (.lst [.ref t])):=(ar.upd ht).trans (ar.upd hL)
 have hL3:upd (upd H2 t (.tup [.str "entry",kV e])) L (.lst [.ref t]) L=some (.lst [.ref t]):=al
 have ht3:upd (upd H2 t (.tup [.str "entry",kV e])) L (.lst [.ref t]) t=some (.tup ((enT e).map kV)):=ar.upd hL _ _ al
 have hLn:H2 L=none:=(kD hL).2
 generalize upd (upd H2 t (.tup [.str "entry",kV e])) L (.lst [.ref t])=H3 at S3 hL3 ht3
 have w3:=w2.same S3
 have hLH:H L=none:=jO (S1.trans S2) hLn
 refine ixT (j:=1) w3.hP rfl rfl ⟨W,TT,_,_,rfl,SqL.of (S3 _ _ (S2 _ _ hW)),SqT.of w3.hT,by rw[IU,IU,kl],fun Z ps H4 hZn S4 lp hps hZ=>⟨Z,_,rfl,.inl ⟨SqL.of hZ,?_⟩⟩⟩
 have S:ar H H4:=S1.trans (S2.trans (S3.trans S4))
 have lps:ps.length=ts.length:=by rw[lp,IU]
 have hp4:∀(j:Nat)(p:Addr)(tn:Int)(k:Key),ps[j]?=some p->ts[j]?=some tn->ks[j]?=some k->H4 p=some (.tup [.int tn,kV k]):=fun j p' tn k h1 h2 h3=>hps j p' _ _ h1 (by rw[Jr,h2];rfl) (by rw[Jr,h3];rfl)
 have LZ:Z≠L:=KQ (ay hL3 hZn)
 have hL4:=S4 _ _ hL3
 have ol:=kx (c:=(c:Int)) kl
 refine kU (ci.revL (xs:=ps.map V.ref) .non) (fun i σ H'=>∃x6 g' qs pr tt t',σ=[some (.ref f),some (.int (c:Int)),some (.int (p:Int)),some (.ref P),some (.ref W),some (.ref L),x6]/\Ld A H H' f b L d (enT e) ((fo c ts ks).take i) g g' n qs pr tt t'/\H' Z=some (.lst (ps.map V.ref))/\
   ∀(j:Nat)(p:Addr)(tn:Int)(k:Key),ps[j]?=some p->ts[j]?=some tn->ks[j]?=some k->H' p=some (.tup [.int tn,kV k]))
  ⟨none,g,_,_,_,_,rfl,Ld.start s S (lY ee) (S4 _ _ ht3) hL4,hZ,hp4⟩
  (fun i σ H' _ h=>?_) (fun i σ H5 hi h=>?_) (fun σ H5 h=>?_)
 ·obtain⟨_,_,_,_,_,_,_,_,x,_⟩:=h
  exact SqL.of x
 ·obtain⟨x6,g5,qs,pr,tt,t5,rfl,l,hZ5,hp5⟩:=h
  have hi:i<ts.length:=by rw[IU,lps]at hi;exact hi
  obtain⟨tn,k,h1,h2,h3⟩:=uG kl (i:=i) hi
  obtain⟨pj,hpj⟩:∃pj,ps[ts.length- 1- i]?=some pj:=⟨_,IR (by omega)⟩
  have hg:(ps.map V.ref).reverse.getD i .non=.ref pj:=by
   rw[Jk,KR (by rw[IU];omega),IU,lps,Jr,hpj];rfl
  rw[hg]
  have hpp:=hp5 _ _ _ _ hpj h1 h2
  have s5:=l.s
  have ll:((fo c ts ks).take i).length<=70:=by rw[Jz];omega
  refine⟨.inl ⟨rfl,_,SqL.of l.hM⟩,ixT (j:=0) hpp rfl rfl ⟨f,rfl,s5.clo,l.ix ?_⟩⟩
  dsimp only[ak]
  refine l.step hLH (by omega) fun v H6 g6 kb6 hL6 sv nx=>?_
  refine ixT (j:=1) (aG.tup s5 kb6 _ _ hpp) rfl rfl ⟨tn,v,k,rfl,fun p7 hp7=>⟨L,_,.ref p7,rfl,rfl,ar.upd hp7 _ _ hL6,l.small (by omega),?_⟩⟩
  have l7:=nx _ (yI (t:=tn) (ke k (Jq h2))) p7 hp7
  rw[cu (qD h3)]at l7
  have Sx:∀z o,z≠L->H6 z=some o->upd (upd H6 p7 (.tup ((jtT tn v k).map kV))) L (.lst (qs.map V.ref++[.ref pr]++[.ref p7])) z=some o:=fun z o nz ez=>by rw[ap nz];exact ar.upd hp7 _ _ ez
  refine⟨_,g6,_,_,_,_,rfl,l7,Sx _ _ LZ (aG.lst s5 kb6 _ _ hZ5),fun j p' tn' k' a1 a2 a3=>?_⟩
  have h5:=hp5 j p' tn' k' a1 a2 a3
  exact Sx _ _ (de h5 l.hM (fun z=>nomatch z)) (aG.tup s5 kb6 _ _ h5)
 ·obtain⟨x6,g5,qs,pr,tt,t5,rfl,l,hZ5,hp5⟩:=h
  rw[IU,lps]at l
  have ll:((fo c ts ks).take ts.length).length<=70:=by rw[Jz];omega
  refine⟨.inl ⟨rfl,_,SqL.of l.hM⟩,f,rfl,l.s.clo,l.ix ?_⟩
  dsimp only[ak]
  refine l.step hLH (by omega) fun v H6 g6 kb6 hL6 sv nx=>?_
  refine⟨aF (show 3<=1000000 by decide),fun p7 hp7=>⟨L,_,.ref p7,rfl,rfl,ar.upd hp7 _ _ hL6,l.small (by omega),?_⟩⟩
  have l7:=nx _ (yn c2) p7 hp7
  rw[cu (oz kl),KL (by omega)]at l7
  exact l7.done hLH q
def gB {H:Hp}{P:Addr}{m:Nat}{B k:Int}{ks:List Key}{st:List (Int×Key)}{e:List Key}(h:Pap H P B k m ks st e):∃T w,H P=some (.tup [.ref T,w])/\H T=some (.tup (ks.map kV))/\nk H w B k st e:=by
 obtain⟨w,g,_,_⟩:=h
 cases w with
 |tup e1 r=>
  cases r with
  |cons a r=>
   cases r with
   |cons b r=>
    cases r
    obtain⟨T,rfl,hT⟩:=yC a
    exact⟨T,_,e1,hT,b,g⟩
theorem iE {α β:Type}{F:α->β->Prop}:∀{l₁:List α}{l₂:List β}{m₁:List α}{m₂:List β},Paired F l₁ l₂->Paired F m₁ m₂->Paired F (l₁++m₁) (l₂++m₂)
 |_,_,_,_,.nil,h=>h
 |_,_,_,_,.cons r t,h=>.cons r (iE t h)
def Cs (K:If)(A:Adr):Ln (nv K A) 2:=by rintro vs H Q E ⟨c,p,rfl,_⟩;rfl
def EA (T:Txt K mg A):Rd (nv K A) (Hd K A) ["count","place"]:=by
 intro vs H Q E h
 obtain⟨c,p,rfl,h0,h1,h2,q⟩:=h
 exact⟨c,p,rfl,h0,h1,h2,Sel.no rfl q⟩
def AH (K:If)(A:Adr):Ln (nX K A) 1:=by rintro vs H Q E ⟨p,x,y,rfl,_⟩;rfl
def FS (T:Txt K mg A):Rd (nX K A) (Hy K A) ["thing"]:=by
 intro vs H Q E h
 obtain⟨p,x,y,rfl,hp,q⟩:=h
 have ty:tyN H (.ref p)=some "tuple":=by unfold tyN;dsimp only;rw[hp]
 exact⟨by decide,"tuple",ty,Sel.no rfl (.inl (.inr (.inl ⟨_,SqT.of hp,Sel.no rfl q⟩)))⟩
def Dv (K:If)(A:Adr):Ln (nU K A) 3:=by rintro vs H Q E ⟨f,b,hd,M,p,d,c,mk,ps,t,g,n,rfl,_⟩;rfl
def FU (T:Txt K mg A)(vs:List V)(H:Hp)(Q:VK)(E:XK)(h:nU K A vs H Q E):CB K A E {nx:=fun _ H'=>Q .non H',rt:=Q} (L2.start ["stamper","head","terms","came"] vs) H:=by
 obtain⟨f,b,hd,M,p,d,c,mk,ps,t,g,n,rfl,s,hn,hh,hM,hp,ok,q⟩:=h
 refine⟨f,rfl,s.clo,ii (by rw[hM,JD];rfl) ?_⟩
 dsimp only[ak]
 refine eV s hn hp ok fun v H1 g1 kb s1 sub gv sv=>?_
 obtain⟨q1,q2⟩:=q v g1 H1 kb s1 sub gv
 have hh1:=aG.tup s kb _ _ hh
 refine ixT (j:=1) hh1 rfl rfl (gN ?_)
 by_cases e:v=mk
 ·rw[decide_eq_true e];exact Sel.no rfl (q1 e)
 ·rw[decide_eq_false e]
  refine Sel.yes rfl (ixT (j:=1) hh1 rfl rfl fun a ha=>⟨a,kV mk,kV v,rfl,al,fun dx hdx=>⟨rfl,some dx,?_,?_⟩⟩)
  ·obtain⟨nd,_⟩:=kD hdx
   rw[ap (KQ nd),ap (KQ nd)];exact al
  ·obtain⟨nd,hd0⟩:=kD hdx
   refine q2 e dx _ (fun z o ez=>?_) (by rw[eI nd];exact al)
   have na:=ay ez ha
   have nz:=ay ez hd0
   rw[eI na,ap nz,ap nz,ap na,ap na];exact ez
def Bj (K:If)(A:Adr):Ln (mU K A) 5:=by rintro vs H Q E ⟨f,b,M,T,d,c,p,B,k,st,e,ps,tt,ks,g,n,rfl,_⟩;rfl
def Fp (T:Txt K mg A):Rd (mU K A) (IH K A) ["stamper","count","place","terms","marks"]:=by
 intro vs H Q E h
 obtain⟨f,b,M,TT,d,c,p,B,k,st,e,ps,tt,ks,g,n,rfl,s,hn,hM,pk,tl,td,eq,lt,hT,ke,kl,lp,c2,q⟩:=h
 have wl:(bi c p).length<=60:=dm _ _ _
 obtain⟨pre,t,rfl,hdl⟩:=jE (l:=tt) (by omega)
 rw[hdl]at td
 obtain⟨qs,pc,rfl,pk'⟩:=km pk
 obtain⟨hpc,ok⟩:=ij (il pk) pk
 refine⟨f,rfl,s.clo,ii (by rw[hM,JD];rfl) ?_⟩
 dsimp only[ak]
 refine eV s (by omega) hpc ok fun v H1 g1 kb s1 sub gv sv=>?_
 have hT1:=aG.tup s kb _ _ hT
 refine⟨aF (n:=2) (by decide),fun P hP=>?_⟩
 have S1:=ar.upd (o:=.tup [kV v,.ref TT]) hP
 refine⟨f,b,P,TT,d,c,p,ks,v,g1,n+1,rfl,⟨al,S1 _ _ hT1⟩,eT sv,ke,kl,lp,c2,s1.same (IV _) S1,by omega,fun M2 ps2 tt2 g2 H2 kb2 s2 sub2 hM2 hl2 pk2 len2 td2 eq2=>?_⟩
 have s1':=s1.same (IV _) S1
 have hM':=aG.lst s1' kb2 _ _ (S1 _ _ (aG.lst s kb _ _ hM))
 have pkH:=((pk.keep (aG.tup s kb)).keep fun x xs e=>S1 _ _ e).keep (aG.tup s1' kb2)
 have l1:=fb pk
 have l2:=fb pk2
 have ol:=kx (c:=(c:Int)) kl
 refine .inl ⟨M,M2,_,_,rfl,rfl,hM',hl2,?_,fun R hR=>?_⟩
 ·rw[IU,IU];exact Lz (bL (by omega))
 have S3:=ar.upd (o:=.lst ((qs++[pc]).map V.ref++ps2.map V.ref)) hR
 have kbA:aG b H (upd H2 R (.lst ((qs++[pc]).map V.ref++ps2.map V.ref))):=fun x o nx ex=>S3 _ _ (kb2 _ _ nx (S1 _ _ (kb _ _ nx ex)))
 refine q R (qs++[pc]++ps2) (pre++[t]++tt2) g2 _ kbA (s2.same (by omega) S3) (sub.trans sub2) ?_ (by rw[al,JD (l₁:=qs++[pc])]) (iE (pkH.keep fun x xs e=>S3 _ _ e) (pk2.keep fun x xs e=>S3 _ _ e)) ?_ ?_ fun h eh=>?_
 ·cases z:H R with
  |none=>rfl
  |some o=>
   by_cases nz:R=b
   ·subst nz;obtain⟨o',e',_⟩:=s2.bb;rw[hR]at e';cases e'
   ·rw[kb2 _ _ nz (S1 _ _ (kb _ _ nz z))]at hR;cases hR
 ·rw[Jg,lt,len2,fw kl,ol];omega
 ·intro x hx
  obtain⟨pre2,t2,e2,hd2⟩:=jE (l:=tt2) (by omega)
  rw[hd2]at td2
  rw[e2,<-KP,Qx,KP]at hx
  rcases Ka.mp hx with hx|hx
  ·obtain⟨w,hw⟩:=td x hx;exact⟨w,sub2 _ _ (sub _ _ hw)⟩
  ·rcases Ka.mp hx with hx|hx
   ·rw[JJ.mp hx];exact⟨v,sub2 _ _ gv⟩
   ·exact td2 x hx
 ·have e1:=eq h (Ext.of (sub.trans sub2) eh)
  unfold bH
  rw[ph,<-e1,<-ik e1,eq2 h eh,eh _ _ (sub2 _ _ gv)]
def Co (K:If)(A:Adr):Ln (jW K A) 6:=by rintro vs H Q E ⟨f,b,P,d,B,k,c,p,ks,st,e,g,n,rfl,_⟩;rfl
def Fs (T:Txt K mg A):Rd (jW K A) (HI K A) ["stamper","bits","count","place","key","paper"]:=by
 intro vs H Q E h
 obtain⟨f,b,P,d,B,k,c,p,ks,st,e,g,n,rfl,pp,lp,c2,s,hn,q⟩:=h
 have gd:=pp.g
 have gl:=gd.len
 have B1:=gd.b1
 obtain⟨TT,w,hP,hT,sw⟩:=gB pp
 refine⟨_,_,rfl,by omega,by omega,by omega,B,.int k,.int k,rfl,by omega,gd.b60,.int k,?_⟩
 rw[qW gd.k0 gd.k1]
 refine Sel.no rfl ⟨P,_,_,rfl,hP,ixT (j:=1) hP rfl rfl ⟨f,b,d,B,k,w,st,e,g,n,rfl,sw,s,by omega,fun M ps tt g1 H1 kb s1 sub hMn hM pk len td eq=>?_⟩⟩
 rw[dH]at len s1
 refine ixT (j:=0) (aG.tup s kb _ _ hP) rfl rfl ⟨f,b,M,TT,d,c,p,B,k,st,e,ps,tt,ks,g1,_,rfl,s1,by omega,hM,pk,by omega,td,eq,len,aG.tup s kb _ _ hT,pp.ke,pp.kl,lp,c2,fun M' ps' tt' g' H' kb' s' sub' hM' hl' pk' len' td' eq'=>?_⟩
 refine q M' ps' tt' g' H' (kb.trans kb') (s'.same (by omega) (.refl _)) (sub.trans sub') ?_ hl' pk' len' td' eq'
 cases z:H M' with
 |none=>rfl
 |some o=>
  by_cases nz:M'=b
  ·subst nz;obtain⟨o',e',_⟩:=s1.bb;rw[hM']at e';cases e'
  ·rw[kb _ _ nz z]at hM';cases hM'
def CC (K:If)(A:Adr):Ln (mO K A) 6:=by rintro vs H Q E ⟨f,b,hd,P,d,B,k,c,p,mk,ks,st,e,g,n,rfl,_⟩;rfl
def Ek (T:Txt K mg A)(vs:List V)(H:Hp)(Q:VK)(E:XK)(h:mO K A vs H Q E):Bz K A E {nx:=fun _ H'=>Q .non H',rt:=Q} (L2.start ["stamper","bits","head","place","key","paper"] vs) H:=by
 obtain⟨f,b,hd,P,d,B,k,c,p,mk,ks,st,e,g,n,rfl,pp,lp,c2,hh,okm,s,hn,q⟩:=h
 have gl:=pp.g.len
 have wl:(bi c p).length<=60:=dm _ _ _
 refine⟨hd,c,mk,rfl,hh,c2,okm,ixT (j:=0) hh rfl rfl ⟨f,b,P,d,B,k,c,p,ks,st,e,g,n,rfl,pp,lp,c2,s,hn,fun M ps tt g1 H1 kb s1 sub hMn hM pk len td eq=>?_⟩⟩
 obtain⟨pre,t,rfl,hdl⟩:=jE (l:=tt) (by omega)
 obtain⟨qs,pc,rfl,pk'⟩:=km pk
 obtain⟨hpc,ok⟩:=ij (il pk) pk
 refine⟨f,b,hd,M,pc,d,(c:Int),mk,qs,t,g1,_,rfl,s1,by omega,aG.tup s kb _ _ hh,hM,hpc,ok,fun w g2 H2 kb2 s2 sub2 gv=>?_⟩
 obtain⟨q1,q2⟩:=q w g2 H2 (kb.trans kb2) (s2.same (by omega) (.refl _)) (sub.trans sub2) fun h eh=>by
  have e1:=eq h (Ext.of sub2 eh)
  rw[<-ik e1];exact(eh _ _ gv).symm
 refine⟨fun ew=>?_,q2⟩
 have pp2:=(pp.kb s kb).kb s1 kb2
 obtain⟨TT,w2,hP2,_,sw2⟩:=gB pp2
 exact ixT (j:=1) hP2 rfl rfl ⟨B,k,w2,st,e,rfl,sw2,q1 ew⟩
def xu {a b:Addr}{xs ys:List V}{g:TG}{tb:TS}{D:eO}{σ:L2.St}{H:Hp}(Pv:Nat->L2.St->Hp->Prop)(h0:Pv 0 σ H)(hl:∀i σ H,i<=xs.length->Pv i σ H->SqL K H a xs/\SqT K H b ys)(hlen:ys.length=xs.length)
  (hs:∀i x y σ H p,i<xs.length->xs[xs.length- 1- i]?=some x->ys[xs.length- 1- i]?=some y->Pv i σ H->H p=none->g (.ref p) σ (upd H p (.tup [x,y])) fun σ2 H2=>tb {D with nx:=Pv (i+1),ct:=Pv (i+1),bk:=D.nx} σ2 H2)(hd:∀σ H,Pv xs.length σ H->D.nx σ H):
  ∃W:Nat->Nat->L2.St->Hp->Prop,(∃m,W 0 m σ H)/\∀i m σ H,W i m σ H->
   ((lK K a b xs.length).stop i H/\D.nx σ H)\/((lK K a b xs.length).go i H/\∃N:L2.St->Hp->Prop,(∀σ' H',N σ' H'->∃m',m'<m/\W (i+1) m' σ' H')/\∀x H',(lK K a b xs.length).yld i H x H'->g x σ H' fun σ2 H2=>tb {D with nx:=N,ct:=N,bk:=D.nx} σ2 H2):=by
 refine⟨fun i m σ H=>m=xs.length- i/\i<=xs.length/\Pv i σ H,⟨xs.length,by simp,Kf _,h0⟩,?_⟩
 rintro i m σ H ⟨rfl,hi,p⟩
 obtain⟨q1,q2⟩:=hl i σ H hi p
 by_cases hlt:i<xs.length
 ·refine .inr ⟨⟨hlt,xs,ys,q1,q2,rfl,hlen⟩,Pv (i+1),fun σ' H' p'=>⟨xs.length- (i+1),by omega,rfl,hlt,p'⟩,fun v H' yl=>?_⟩
  obtain⟨pp,rfl,hn,hy⟩:=yl
  obtain⟨x,y,ex,ey,rfl⟩:=hy xs ys q1 q2
  exact hs i x y σ H pp hlt ex ey p hn
 ·have:i=xs.length:=by omega
  subst this
  exact .inl ⟨IV _,hd σ H p⟩
def Ld.same {H H' H2:Hp}{f b M:Addr}{d:Kd}{e:List Key}{os:List (Key->List Key)}{g g':gOp}{n:Nat}{ps:List Addr}{p:Addr}{tt:List (List Key)}{t:List Key}(l:Ld A H H' f b M d e os g g' n ps p tt t)(S:ar H' H2):Ld A H H2 f b M d e os g g' n ps p tt t:=
 ⟨l.kb.trans (aG.same S),l.s.same (IV _) S,l.sub,S _ _ l.hM,l.pk.keep fun x xs e=>S _ _ e,l.len,l.td,l.eq⟩
def pE {B k c:Int}{st:List (Int×Key)}{ts:List Int}{ks:List Key}{i:Nat}{s:Int×Key}(h:st.reverse[i]?=some s):(bH B k c st ts ks)[i]?=some fun v=>bv B k s.1 s.2 v:=by
 have hi:i<st.length:=by have:=(IW.mp h).1;simpa using this
 unfold bH
 rw[Kt (by rw[dH];exact hi)];exact qO h
def xm {B k c:Int}{st:List (Int×Key)}{ts:List Int}{ks:List Key}:(bH B k c st ts ks)[st.length]?=some enT:=by
 unfold bH
 rw[Kq (by rw[dH];exact IV _),dH,Qt];rfl
def oj {B k c:Int}{st:List (Int×Key)}{ts:List Int}{ks:List Key}(i:Nat):(bH B k c st ts ks)[st.length+1+i]?=(fo c ts ks)[i]?:=by
 unfold bH
 rw[Kq (by rw[dH];omega),dH,show st.length+1+i- st.length=i+1 by omega];rfl
def CT (K:If)(A:Adr):Ln (iz K A) 6:=by rintro vs H Q E ⟨f,b,P,L,d,B,k,c,ts,ks,st,e,g,n,rfl,_⟩;rfl
def Fi (T:Txt K mg A):Rd (iz K A) (Hq K A) ["_law_stamper_here","_law_bits","_law_key_here","_law_count","_law_turns_here","_law_paper","_law_steps_here","_law_end_here","_law_terms_here","_law_depth","_law_mark_here","_law_begin","_law_turn"]:=by
 intro vs H Q E h
 obtain⟨f,b,P,W,d,B,k,c,ts,ks,st,e,g,n,rfl,pp,hW,t01,tl,c2,sp,hn,q⟩:=h
 have gd:=pp.g
 have gl:=gd.len
 have B1:=gd.b1
 have B60:=gd.b60
 have kl:=pp.kl
 have ke:=pp.ke
 have ol:=fw (B:=B) (k:=k) (c:=(c:Int)) (st:=st) kl
 obtain⟨TT,w,hP,hT,sw⟩:=gB pp
 obtain⟨a,s,t,xs,rfl,ha,hs,ws,ht⟩:=fB sw
 have hxl:xs.length=st.length:=by rw[ws.len];simp
 refine ixT (j:=1) hP rfl rfl ⟨a,_,rfl,SqT.of ha,rfl,_,_,rfl,_,_,rfl,rfl,?_⟩
 refine⟨aF (n:=1) (by decide),fun L hLn=>?_⟩
 have S1:=ar.upd (o:=.lst [V.ref t]) hLn
 have tk:∀{H1:Hp},aG b H H1->∀x ys,H x=some (.tup ys)->H1 x=some (.tup ys):=fun kb=>aG.tup sp kb
 refine⟨s,xs,rfl,.inr ⟨SqT.of (S1 _ _ hs),?_⟩⟩
 refine kU (ci.rev .non) (fun i σ H'=>∃g' ps p tt t' x9 x10 x11,σ=[some (.ref f),some (.int B),some (.int k),some (.int (c:Int)),some (.ref W),some (.ref P),some (.ref s),some (.ref t),some (.ref L),x9,x10,x11,none]/\Ld A H H' f b L d e ((bH B k c st ts ks).take i) g g' n ps p tt t')
  ⟨g,[],t,[],e,none,none,none,rfl,Ld.start sp S1 gd.et (S1 _ _ ht) al⟩ ?_ ?_ ?_
 ·rintro i σ H1 _ ⟨g1,ps,p,tt,t',x9,x10,x11,rfl,l⟩
  exact SqT.of (tk l.kb _ _ hs)
 ·rintro i σ H1 hi ⟨g1,ps,p,tt,t',x9,x10,x11,rfl,l⟩
  obtain⟨sk,p1,hsk,ep,hp⟩:=tQ ws hi
  rw[ep]
  obtain⟨d1,d0,oo⟩:=gd.op hsk
  have ll:((bH B k c st ts ks).take i).length<=130:=by rw[Jz];omega
  refine⟨p1,_,rfl,SqT.of (tk l.kb _ _ hp),rfl,_,_,rfl,_,_,rfl,rfl,?_⟩
  refine⟨by omega,by omega,by decide,?_⟩
  refine Sel.dec (fun h0=>?_) (fun h0=>?_)
  ·refine⟨.inl ⟨rfl,_,SqL.of l.hM⟩,f,rfl,l.s.clo,l.ix ?_⟩
   dsimp only[ak]
   refine l.step hLn (by omega) fun v H6 g6 kb6 hM6 sv nx=>?_
   refine⟨aF (n:=5) (by decide),fun t1 h1=>⟨L,_,.ref t1,rfl,rfl,ar.upd h1 _ _ hM6,l.small (by omega),?_⟩⟩
   have l2:=nx _ oo t1 h1
   rw[cu (pE hsk)]at l2
   have ef:bv B k sk.1 sk.2 v=[.inr "fork",.inl sk.1,.inl (aJ B k sk.1),v,sk.2]:=if_pos h0
   rw[ef]at l2
   exact⟨g6,_,_,_,_,_,_,_,rfl,l2⟩
  ·refine⟨.inl ⟨rfl,_,SqL.of l.hM⟩,f,rfl,l.s.clo,l.ix ?_⟩
   dsimp only[ak]
   refine l.step hLn (by omega) fun v H6 g6 kb6 hM6 sv nx=>?_
   refine⟨aF (n:=5) (by decide),fun t1 h1=>⟨L,_,.ref t1,rfl,rfl,ar.upd h1 _ _ hM6,l.small (by omega),?_⟩⟩
   have l2:=nx _ oo t1 h1
   rw[cu (pE hsk)]at l2
   have ef:bv B k sk.1 sk.2 v=[.inr "fork",.inl sk.1,.inl (aJ B k sk.1),sk.2,v]:=if_neg h0
   rw[ef]at l2
   exact⟨g6,_,_,_,_,_,_,_,rfl,l2⟩
 rintro σ H1 ⟨g1,ps,p,tt,t',x9,x10,x11,rfl,l⟩
 rw[hxl]at l
 have ll:((bH B k c st ts ks).take st.length).length<=130:=by rw[Jz];omega
 refine⟨.inl ⟨rfl,_,SqL.of l.hM⟩,f,rfl,l.s.clo,l.ix ?_⟩
 dsimp only[ak]
 refine l.step hLn (by omega) fun v H6 g6 kb6 hM6 sv nx=>?_
 refine⟨aF (n:=2) (by decide),fun t1 h1=>⟨L,_,.ref t1,rfl,rfl,ar.upd h1 _ _ hM6,l.small (by omega),?_⟩⟩
 have l3:=nx _ GV t1 h1
 rw[cu xm]at l3
 have e0:upd (upd H6 t1 (.tup [.str "entry",kV v])) L (.lst (ps.map V.ref++[.ref p]++[.ref t1]))=upd (upd H6 t1 (.tup ((enT v).map kV))) L (.lst (ps.map V.ref++[.ref p]++[.ref t1])):=rfl
 rw[show(upd (upd H6 t1 (.tup [V.str (JM "entry"),kV v])) L (.lst (ps.map V.ref++[.ref p]++[.ref t1])))=upd (upd H6 t1 (.tup ((enT v).map kV))) L (.lst (ps.map V.ref++[.ref p]++[.ref t1]))from rfl]
 generalize upd (upd H6 t1 (.tup ((enT v).map kV))) L (.lst (ps.map V.ref++[.ref p]++[.ref t1]))=H7 at l3
 have hW7:=aG.lst sp l3.kb _ _ hW
 refine⟨W,_,rfl,SqL.of hW7,ixT (j:=0) (tk l3.kb _ _ hP) rfl rfl ⟨TT,_,_,rfl,SqL.of hW7,SqT.of (tk l3.kb _ _ hT),rfl,by rw[IU,IU,kl],?_⟩⟩
 refine xu (xs:=ts.map V.int) (ys:=ks.map kV) (fun i σ H'=>∃g' ps p tt t' x9 x10 x11 x12,σ=[some (.ref f),some (.int B),some (.int k),some (.int (c:Int)),some (.ref W),some (.ref P),some (.ref s),some (.ref t),some (.ref L),x9,x10,x11,x12]/\Ld A H H' f b L d e ((bH B k c st ts ks).take (st.length+1+i)) g g' n ps p tt t')
  ⟨g6,_,_,_,_,_,_,_,_,rfl,l3⟩ (fun i σ H' _ h=>?_) (by rw[IU,IU,kl]) (fun i x y σ H' z hi hx hy h hz=>?_) (fun σ H' h=>?_)
 ·obtain⟨g',ps,p,tt,t',x9,x10,x11,x12,rfl,l⟩:=h
  exact⟨SqL.of (aG.lst sp l.kb _ _ hW),SqT.of (tk l.kb _ _ hT)⟩
 ·obtain⟨g',ps,p,tt,t',x9,x10,x11,x12,rfl,l⟩:=h
  rw[IU]at hi hx hy
  obtain⟨tn,kk,h1,h2,h3⟩:=uG kl (i:=i) hi
  rw[Jr,h1]at hx
  rw[Jr,h2]at hy
  cases hx
  cases hy
  refine⟨z,_,rfl,SqT.of al,rfl,_,_,rfl,_,_,rfl,rfl,?_⟩
  have S2:=ar.upd (o:=.tup [.int tn,kV kk]) hz
  have l4:=l.same S2
  generalize upd H' z (.tup [.int tn,kV kk])=H2 at S2 l4
  have ll:((bH B k c st ts ks).take (st.length+1+i)).length<=130:=by rw[Jz];omega
  have at3:=(oj (B:=B) (k:=k) (c:=(c:Int)) (st:=st) (ts:=ts) (ks:=ks) i).trans (qD h3)
  have oo:=yI (t:=tn) (ke kk (Jq h2))
  refine Sel.dec (fun h0=>?_) (fun h0=>?_)
  ·refine⟨.inl ⟨rfl,_,SqL.of l4.hM⟩,f,rfl,l4.s.clo,l4.ix ?_⟩
   dsimp only[ak]
   refine l4.step hLn (by omega) fun v H6 g6 kb6 hM6 sv nx=>?_
   refine⟨aF (n:=3) (by decide),fun t1 h1=>⟨L,_,.ref t1,rfl,rfl,ar.upd h1 _ _ hM6,l4.small (by omega),?_⟩⟩
   have l5:=nx _ oo t1 h1
   rw[cu at3]at l5
   have ef:jtT tn v kk=[.inr "joint",v,kk]:=if_pos h0
   rw[ef]at l5
   exact⟨g6,_,_,_,_,_,_,_,_,rfl,l5⟩
  ·refine⟨.inl ⟨rfl,_,SqL.of l4.hM⟩,f,rfl,l4.s.clo,l4.ix ?_⟩
   dsimp only[ak]
   refine l4.step hLn (by omega) fun v H6 g6 kb6 hM6 sv nx=>?_
   refine⟨aF (n:=3) (by decide),fun t1 h1=>⟨L,_,.ref t1,rfl,rfl,ar.upd h1 _ _ hM6,l4.small (by omega),?_⟩⟩
   have l5:=nx _ oo t1 h1
   rw[cu at3]at l5
   have ef:jtT tn v kk=[.inr "joint",kk,v]:=if_neg h0
   rw[ef]at l5
   exact⟨g6,_,_,_,_,_,_,_,_,rfl,l5⟩
 ·obtain⟨g',ps,p,tt,t',x9,x10,x11,x12,rfl,l⟩:=h
  rw[IU]at l
  have ll:((bH B k c st ts ks).take (st.length+1+ts.length)).length<=130:=by rw[Jz];omega
  have at4:=(oj (B:=B) (k:=k) (c:=(c:Int)) (st:=st) (ts:=ts) (ks:=ks) ts.length).trans (oz kl)
  refine⟨.inl ⟨rfl,_,SqL.of l.hM⟩,f,rfl,l.s.clo,l.ix ?_⟩
  dsimp only[ak]
  refine l.step hLn (by omega) fun v H6 g6 kb6 hM6 sv nx=>?_
  refine⟨aF (n:=3) (by decide),fun t1 h1=>⟨L,_,.ref t1,rfl,rfl,ar.upd h1 _ _ hM6,l.small (by omega),?_⟩⟩
  have l5:=nx _ (yn c2) t1 h1
  rw[cu at4,KL (by omega)]at l5
  exact l5.done hLn fun M ps tt g' H' a1 a2 a3 a4 a5 a6 a7 a8 a9=>q M ps tt g' H' a1 (a2.same (by omega) (.refl _)) a3 a4 a5 a6 a7 a8 a9
def wW {α:Type}{ks:List α}{a:α}:∀(j:Nat),ks[j]? =some a->∃j0,j0<=j/\ks[j0]? =some a/\∀j',j'<j0->ks[j']? ≠some a:=by
 intro j
 induction j using Nat.strongRecOn with
 |ind j ih=>
  intro h
  by_cases e:∃j',j'<j/\ks[j']? =some a
  ·obtain⟨j',h1,h2⟩:=e
   obtain⟨j0,h3,h4,h5⟩:=ih j' h1 h2
   exact⟨j0,by omega,h4,h5⟩
  ·exact⟨j,IV _,h,fun j' h1 h2=>e ⟨j',h1,h2⟩⟩
def gn {k:List Key}(h:okT k=true):k.all uz=true:=by
 rw[Kv]
 intro x hx
 have:=qT h hx
 cases x with
 |inl i=>rfl
 |inr z=>exact uA (Jf.mp this).1
def sM {H:Hp}{ps:List Addr}{ts:List (List Key)}(h:PK H ps ts):∀{i:Nat}{p:Addr},ps[i]? =some p->∃t,ts[i]? =some t/\H p=some (.tup (t.map kV))/\okT t=true:=by
 induction h with
 |nil=>intro i t e;cases e
 |cons r _ ih=>
  intro i t e
  cases i with
  |zero=>cases e;exact⟨_,rfl,r⟩
  |succ i=>exact ih e
def Stp.b0 {H:Hp}{f b:Addr}{d:Kd}{g:gOp}{n:Nat}(s:Stp A H f b d g n):(∃φ,H b=some (.ext φ))\/∃kvs,H b=some (.dT kvs):=by
 obtain⟨o,e,⟨kv,rfl⟩|⟨φ,rfl⟩⟩:=s.bb
 ·exact .inr ⟨_,e⟩
 ·exact .inl ⟨_,e⟩
def Stp.keep2 {H H':Hp}{f b:Addr}{d:Kd}{g:gOp}{n m:Nat}(s:Stp A H f b d g n)(hn:n<=m)(k:∀z o,H z=some o->(∀xs,o≠.dK xs)->(∀xs,o≠.lst xs)->H' z=some o):Stp A H' f b d g m:=s.keep hn fun x o e h=>by
 rcases h with⟨_,rfl⟩|⟨_,rfl⟩|⟨_,rfl⟩<;>exact k x _ e (fun _ z=>nomatch z) (fun _ z=>nomatch z)
def aG.obj {H H':Hp}{b x:Addr}{o:HO}(k:aG b H H')(hb:(∃φ,H b=some (.ext φ))\/∃kvs,H b=some (.dT kvs))(e:H x=some o)(h:∀kvs,o≠.dT kvs)(h2:∀φ,o≠.ext φ:=by intro _ z;cases z):H' x=some o:=k _ _ (fun z=>by
 subst z
 rcases hb with⟨φ,hb⟩|⟨kvs,hb⟩
 ·rw[e]at hb;exact h2 _ (Js hb)
 ·rw[e]at hb;exact h _ (Js hb)) e
def BC (K:If)(A:Adr):Ln (mV K A) 2:=by rintro vs H Q E ⟨f,bb,L,dd,ps,ks,g,n,rfl,_⟩;rfl
def DK (T:Txt K mg A):Rd (mV K A) (Ig K A) ["stamper","terms","firsts","term","ahead"]:=by
 intro vs H Q E h
 obtain⟨f,bb,L,dd,ps,ks,g,n,rfl,s,hL,pk,hk9,hn,q⟩:=h
 have sdd:=s.b0
 have pl:=fb pk
 refine .inl fun d hd=>?_
 have S0:=ar.upd (o:=.dK []) hd
 refine⟨L,rfl,.inl ⟨⟨_,SqL.of (S0 _ _ hL)⟩,?_⟩⟩
 have noc:∀(i:Nat)(H':Hp)(g':List Key->Option Key)(kvs:List (Key×V)),(∀j a,j<i->ks[j]? =some a->∃v p,g' a=some v/\bM kvs v=some (.ref p)/\H' p=some (.tup (a.map kV)))->∀(h:List Key->Key),Ext g' h->∀(j k:Nat) a b,j<k->k<i->ks[j]? =some a->ks[k]? =some b->h a=h b->a=b:=by
  intro i H' g' kvs I1 h hh j k a b h1 h2 h3 h4 h5
  obtain⟨v,p,e1,e2,e3⟩:=I1 j a (by omega) h3
  obtain⟨v',p',e1',e2',e3'⟩:=I1 k b h2 h4
  have:v=v':=by rw[hh _ _ e1,hh _ _ e1']at h5;exact h5
  subst this
  rw[e2]at e2';cases e2'
  rw[e3]at e3'
  injection e3' with e;injection e with e
  exact ib e
 refine xW (xs:=ps.map V.ref) (fun i σ H'=>∃x3 x4 g' kvs,σ=[some (.ref f),some (.ref L),some (.ref d),x3,x4]/\aG bb H H'/\Stp A H' f bb dd g' (n+i)/\Sub g g'/\H' d=some (.dK kvs)/\kvs.length<=i/\
   (∀j a,j<i->ks[j]? =some a->∃v p,g' a=some v/\bM kvs v=some (.ref p)/\H' p=some (.tup (a.map kV)))/\
   ∀v x,bM kvs v=some x->∃j a p,j<i/\ks[j]? =some a/\x=.ref p/\H' p=some (.tup (a.map kV))/\okT a=true/\g' a=some v)
  ⟨none,none,g,[],rfl,aG.same S0,s.same (IV _) S0,fun _ _ e=>e,al,IV _,fun j a hj=>by omega,fun v x e=>by cases e⟩ ?_ ?_ ?_
 ·rintro i σ H' _ ⟨x3,x4,g',kvs,rfl,kp,_⟩;exact SqL.of (kp.obj sdd hL (fun _ z=>nomatch z))
 ·rintro i x σ H' hx ⟨x3,x4,g',kvs,rfl,kp,s',sub,hd',hl,I1,I2⟩
  obtain⟨p,hp,rfl⟩:=jV hx
  obtain⟨k,hk,hpk,ok⟩:=sM pk hp
  have hi:i<ks.length:=(IW.mp hk).1
  refine⟨.inr (.inr (.inl ⟨rfl,.inl ⟨_,hd'⟩⟩)),f,rfl,s'.clo,tc1 rfl (eV s' (by omega) (kp.obj sdd hpk (fun _ z=>nomatch z)) ok fun v H3 g3 k3 s3 sub3 gv _=>tc1 rfl ?_)⟩
  have hp3:H3 p=some (.tup (k.map kV)):=k3.obj s'.b0 (kp.obj sdd hpk (fun _ z=>nomatch z)) (fun _ z=>nomatch z)
  have hd3:=k3.obj s'.b0 hd' (fun _ z=>nomatch z)
  have J1:∀j a,j<i->ks[j]? =some a->∃v p,g3 a=some v/\bM kvs v=some (.ref p)/\H3 p=some (.tup (a.map kV)):=fun j a hj e=>by
   obtain⟨v,p,e1,e2,e3⟩:=I1 j a hj e
   exact⟨v,p,sub3 _ _ e1,e2,k3.obj s'.b0 e3 (fun _ z=>nomatch z)⟩
  have J2:∀v x,bM kvs v=some x->∃j a p,j<i/\ks[j]? =some a/\x=.ref p/\H3 p=some (.tup (a.map kV))/\okT a=true/\g3 a=some v:=fun v x e=>by
   obtain⟨j,a,p,e1,e2,e3,e4,e5,e6⟩:=I2 v x e
   exact⟨j,a,p,e1,e2,e3,k3.obj s'.b0 e4 (fun _ z=>nomatch z),e5,sub3 _ _ e6⟩
  have kp3:=kp.trans k3
  have sub':Sub g g3:=fun a b e=>sub3 a b (sub a b e)
  have gd:=fz.k (k:=v) hd3
  cases ev:bM kvs v with
  |some x=>
   rw[ev]at gd
   obtain⟨j0,a0,p0,hj0,ha0,rfl,hp0,ok0,g0⟩:=J2 v x ev
   refine⟨d,kV v,.ref p,.ref p0,H3,rfl,rfl,.inl ⟨gd,rfl⟩,?_⟩
   refine⟨_,_,fm hp0,fm hp3,cJ (gn ok0),cJ (gn ok),CI _,Sel.mk (fun t=>?_) (fun t=>?_)⟩
   ·have ne:=sR t
    refine⟨aF (n:=2) (by decide),fun r hr=>?_⟩
    have S:=ar.upd (o:=.tup [V.ref p0,V.ref p]) hr
    refine q _ _ g3 (some (a0,k)) (kp3.trans (aG.same S)) (s3.same (by omega) S) sub' ⟨r,p0,p,rfl,al,S _ _ hp0,S _ _ hp3,ok0,ok⟩ (fun h hh=>?_)
    obtain⟨j1,hj1,hb1,hmin⟩:=wW j0 ha0
    refine⟨j1,i,by omega,hb1,hk,ne,by rw[hh _ _ g0,hh _ _ gv],noc i H3 g3 kvs J1 h hh,fun j' a hj' ha he=>?_⟩
    obtain⟨v1,p1,e1,e2,e3⟩:=J1 j' a (by omega) ha
    have:v1=v:=by rw[hh _ _ e1,hh _ _ gv]at he;exact he
    subst this
    rw[ev]at e2;cases e2
    rw[hp0]at e3
    injection e3 with e;injection e with e
    have:=ib e
    subst this
    exact(hmin j' hj' ha).elim
   ·have e:=DA t
    subst e
    refine⟨_,_,g3,kvs,rfl,kp3,s3,sub',hd3,by omega,fun j a hj ha=>?_,fun w x e=>?_⟩
    ·by_cases e:j=i
     ·subst e;rw[hk]at ha;cases ha
      exact⟨v,p0,gv,ev,hp0⟩
     ·exact J1 j a (by omega) ha
    ·obtain⟨j,a,r,e1,e2⟩:=J2 w x e
     exact⟨j,a,r,by omega,e2⟩
  |none=>
   rw[ev]at gd
   refine⟨d,kV v,.ref p,.ref p,upd H3 d (.dK (dw kvs v (.ref p))),rfl,rfl,.inr ⟨gd,se.k hd3 (Ly hl (aF (n:=i+1) (by omega))),rfl⟩,?_⟩
   have dn:∀b o,H3 b=some o->(∀kvs,o≠.dK kvs)->upd H3 d (.dK (dw kvs v (.ref p))) b=some o:=fun b o e nd=>by rw[ap (fun z=>by subst z;rw[hd3]at e;cases e;exact nd _ rfl)];exact e
   have hp4:=dn _ _ hp3 (fun _ z=>nomatch z)
   refine⟨_,_,fm hp4,fm hp4,cJ (gn ok),cJ (gn ok),CI _,Sel.mk (fun t=>(sR t rfl).elim) (fun t=>?_)⟩
   refine⟨_,_,g3,dw kvs v (.ref p),rfl,?_,s3.keep2 (IV _) (fun b o e nd _=>dn b o e nd),sub',al,JQ (gT _ _ _) (by omega),fun j a hj ha=>?_,fun w x e=>?_⟩
   ·intro b o nb e
    rw[ap (ay e hd)]
    exact kp3 _ _ nb e
   ·by_cases e:j=i
    ·subst e;rw[hk]at ha;cases ha
     exact⟨v,p,gv,by rw[kn,if_pos rfl],hp4⟩
    ·obtain⟨w,r,e1,e2,e3⟩:=J1 j a (by omega) ha
     exact⟨w,r,e1,by rw[kn,if_neg (fun z=>by subst z;rw[ev]at e2;cases e2)];exact e2,dn _ _ e3 (fun _ z=>nomatch z)⟩
   ·rw[kn]at e
    by_cases ew:w=v
    ·subst ew
     rw[if_pos rfl]at e;cases e
     exact⟨i,k,p,by omega,hk,rfl,hp4,ok,gv⟩
    ·rw[if_neg ew]at e
     obtain⟨j,a,r,e1,e2,e3,e4,e5⟩:=J2 w x e
     exact⟨j,a,r,by omega,e2,e3,dn _ _ e4 (fun _ z=>nomatch z),e5⟩
 ·rintro σ H' ⟨x3,x4,g',kvs,rfl,kp,s',sub,hd',hl,I1,I2⟩
  have el:(ps.map V.ref).length=ks.length:=by rw[IU,pl]
  rw[el]at s' I1
  refine q _ _ g' none kp s' sub rfl fun h hh=>?_
  exact fun j k a b h1 h2 h3 h4=>noc ks.length H' g' kvs I1 h hh j k a b h1 (IW.mp h3).1 h2 h3 h4
def gR {K:If}{H:Hp}{ps:List Addr}{tt:List (List Key)}(h:PK H ps tt):DatVs K H (ps.map V.ref) (tt.map fun t=>Lt (t.map bA)):=by
 induction h with
 |nil=>exact .nil
 |cons r _ ih=>exact .cons (fm r.1) ih
def lZ {H:Hp}{ps:List Addr}{tt:List (List Key)}(h:PK H ps tt):Lg (tt.map fun t=>Lt (t.map bA))=true/\JA (tt.map fun t=>Lt (t.map bA))<=1:=by
 induction h with
 |nil=>exact⟨rfl,Kf _⟩
 | @cons p t l1 l2 r _ ih=>
   refine⟨?_,?_⟩
   ·show(Lg (t.map bA)&&Lg _)=true
    rw[cJ (gn r.2),ih.1];rfl
   ·show max (JA (t.map bA)+1) (JA _)<=1
    rw[eX];have:=ih.2;omega
theorem mv:∀tt:List (List Key),KN (tt.map fun t=>Lt (t.map bA)) (tt.map fun t=>Lt (t.map bA))=true
 |[]=>rfl
 |t::r=>by
  show(KN (t.map bA) (t.map bA)&&KN _ _)=true
  rw[cH,mv r,decide_eq_true rfl];rfl
def tV {tt:List (List Key)}{t:List Key}(h:t∈tt):((tt.map fun t=>Lt (t.map bA)).any fun e=>e.eqv (Lt (t.map bA)))=true:=by
 rw[OG]
 refine⟨_,Ky.mpr ⟨t,h,rfl⟩,?_⟩
 show KN (t.map bA) (t.map bA)=true
 rw[cH];exact decide_eq_true rfl
def Gj (K:If)(A:Adr):Ln (sO K A) 2:=by rintro vs H Q E ⟨f,b,L,d,ps,ks,g,n,rfl,_⟩;rfl
def HH (T:Txt K mg A):Rd (sO K A) (T_3 K A) ["_law_stamper_here","_law_terms_here","_law_found"]:=by
 intro vs H Q E h
 obtain⟨f,b,L,d,ps,ks,g,n,rfl,s0,hL0,pk0,hk9,hn,cl,q⟩:=h
 refine⟨f,b,L,d,ps,ks,g,n,rfl,s0,hL0,pk0,hk9,by omega,fun v H1 g1 r kb s sub rd due=>?_⟩
 have hL:=aG.lst s0 kb _ _ hL0
 have pk:=pk0.keep (aG.tup s0 kb)
 have x1:=Ext.refl' g1
 cases r with
 |none=>
  obtain⟨x,hx,y,hy,ne,eq⟩:=cl _ (Ext.of sub x1)
  obtain⟨i,hi⟩:=Lx.mp hx
  obtain⟨j,hj⟩:=Lx.mp hy
  have dn:=due _ x1
  rcases Nk i j with hlt|rfl|hgt
  ·exact absurd (dn i j x y hlt hi hj eq) ne
  ·rw[hi]at hj;exact absurd (Js hj) ne
  ·exact absurd (dn j i y x hgt hj hi eq.symm).symm ne
 |some r=>
 obtain⟨p,a1,a2,rfl,hp,h1,h2,ok1,ok2⟩:=rd
 obtain⟨j,k,_,m1,m2,ne,_⟩:=due _ x1
 have m1:=Jq m1
 have m2:=Jq m2
 have ty:tyN H1 (.ref p)=some "tuple":=by unfold tyN;dsimp only;rw[hp]
 obtain⟨cl,dl⟩:=lZ pk
 have yes:∀(a:Addr)(k:List Key)(R:VK),H1 a=some (.tup (k.map kV))->okT k=true->k∈ks->R (.bl true) H1->oB K (.ref a) (.ref L) H1 R:=fun a k R ha ok hm hR=>
  .inr ⟨_,_,fm ha,.inl (.lst (SqL.of hL) (gR pk)),cl,cJ (gn ok),by show JA (k.map bA)+1<=140;rw[eX];decide,by rw[tV hm];exact hR⟩
 refine⟨by decide,"tuple",ty,Sel.no rfl (.inl (.inr (.inl ⟨_,SqT.of hp,Sel.no rfl ?_⟩)))⟩
 refine ixT (j:=0) hp rfl rfl (ixT (j:=1) hp rfl rfl (iV h1 h2 (Sel.no (decide_eq_false ne) ?_)))
 refine ixT (j:=0) hp rfl rfl (yes _ _ _ h1 ok1 m1 (Sel.yes rfl (ixT (j:=1) hp rfl rfl (yes _ _ _ h2 ok2 m2 (Sel.yes rfl ?_)))))
 refine⟨f,rfl,s.clo,ixT (j:=0) hp rfl rfl ?_⟩
 dsimp only[ak]
 refine eV s (by omega) h1 ok1 fun v1 H2 g2 kb2 s2 sub2 gv1 _=>?_
 refine⟨f,rfl,s2.clo,ixT (j:=1) (aG.tup s kb2 _ _ hp) rfl rfl ?_⟩
 dsimp only[ak]
 refine eV s2 (by omega) (aG.tup s kb2 _ _ h2) ok2 fun v2 H3 g3 kb3 s3 sub3 gv2 _=>?_
 have e:v1=v2:=by
  have x:=Ext.refl' g3
  obtain⟨_,_,_,_,_,_,eh,_⟩:=due _ (Ext.of (sub2.trans sub3) x)
  rw[<-x _ _ (sub3 _ _ gv1),<-x _ _ gv2];exact eh
 subst e
 refine pW ?_
 rw[decide_eq_true rfl];exact q _
def rV (k:Int)(e:List Key):io k e=.non\/∃z,io k e=.str z:=by
 unfold io
 split
 ·split
  ·exact .inr ⟨_,rfl⟩
  ·exact .inl rfl
 ·exact .inl rfl
def Fc (K:If)(A:Adr):Ln (oQ K A) 7:=by rintro vs H Q E ⟨f,b,hd,P,d,B,k,c,p,mk,w,ks,st,e,g,n,rfl,_⟩;rfl
def Hh (T:Txt K mg A):Rd (oQ K A) (T_1 K A) ["_law_stamper_here","_law_bits","_law_head","_law_place","_law_key_here","_law_paper","_law_came","_law_end_here","_law_due","_law_marks","_law_found","e"]:=by
 intro vs H Q E h
 obtain⟨f,b,hd,P,d,B,k,c,p,mk,w,ks,st,e,g,n,rfl,pp,lp,c2,hh,okm,okw,s,hn,ew,q⟩:=h
 obtain⟨TT,wv,hP,hT,sw⟩:=gB pp
 obtain⟨a,sA,t,xs,rfl,ha,hs,ws,ht⟩:=fB sw
 have bD:∀v,v=io k e->ym K A {nx:=fun _ H'=>Q .non H',rt:=Q} [some (.ref f),some (.int B),some (.ref hd),some (.int (p:Int)),some (.int k),some (.ref P),some (kV w),some (.ref t),some v,none,none,none] H:=fun v ev=>by
  refine⟨f,b,hd,P,d,B,k,c,p,mk,ks,st,e,g,n,rfl,pp,lp,c2,hh,okm,s,hn,fun w' g1 H1 kb s1 sub ew'=>?_⟩
  have x1:=Ext.refl' g1
  obtain rfl:w'=w:=by rw[ew' _ x1,ew _ (Ext.of sub x1)]
  have hh1:=aG.tup s kb _ _ hh
  refine⟨fun em=>?_,fun em dx H2 S2 hdx=>?_⟩
  ·refine ixT (j:=1) hh1 rfl rfl (gN ?_)
   rw[decide_eq_true em]
   refine Sel.no rfl (Sel.yes rfl ?_)
   have fin:=q g1 H1 kb s1 sub
   subst ev
   rcases rV k e with z|⟨x,z⟩
   ·rw[z];exact Sel.yes rfl (Sel.yes rfl fin)
   ·rw[z];exact Sel.yes (decide_eq_true rfl) (Sel.no rfl ⟨by decide,"str",rfl,fin⟩)
  ·refine⟨A.c_Broken,rfl,T.eo_Broken,true,T.sb_Broken_Broken,Sel.t fun a ha=>?_⟩
   have nd:dx≠a:=ay hdx ha
   have hx:upd H2 a (jj A.c_Broken (some dx) a) dx=some (gz (iK "came" (kV w') [("due",kV mk)]) dx):=by rw[ap nd];exact hdx
   refine⟨a,A.c_Broken,dx,_,kV mk,rfl,al,hx,T.ef_Broken_due,rfl,a,A.c_Broken,dx,_,kV w',rfl,al,hx,T.ef_Broken_came,rfl,aF (show 2<=1000000 by decide),fun r hr=>?_⟩
   have S3:ar H1 _:=S2.trans ((ar.upd (o:=jj A.c_Broken (some dx) a) ha).trans (ar.upd (o:=.tup ([mk,w'].map kV)) hr))
   have hr1:upd (upd H2 a (jj A.c_Broken (some dx) a)) r (.tup ([mk,w'].map kV)) r=some (.tup ([mk,w'].map kV)):=al
   refine ixT (j:=1) (S3 _ _ hh1) rfl rfl (gN ?_)
   rw[decide_eq_false em]
   refine Sel.yes rfl (ixT (j:=1) (S3 _ _ hh1) rfl rfl ⟨aF (show 2<=1000000 by decide),fun r2 hr2=>?_⟩)
   have S4:=ar.upd (o:=.tup ([mk,w'].map kV)) hr2
   refine iV (k:=[mk,w']) (l:=[mk,w']) (S4 _ _ hr1) al ?_
   rw[decide_eq_true rfl]
   exact q g1 _ (kb.trans (aG.same (S3.trans S4))) (s1.same (IV _) (S3.trans S4)) sub
 refine ixT (j:=1) hP rfl rfl (ixT (j:=1) ha rfl rfl ?_)
 rcases og pp.g.en with rfl|⟨x,z,rfl,_⟩|⟨dd,bb,m,n',rfl⟩
 ·exact ixT (j:=0) ht rfl rfl (Sel.no pK (Sel.f (bD _ rfl)))
 ·refine ixT (j:=0) ht rfl rfl (Sel.yes (decide_eq_true rfl) (ixT (j:=1) ht rfl rfl ?_))
  rw[mD]at bD
  refine Sel.dec (fun h=>?_) (fun h=>?_)
  ·rw[if_pos h]at bD
   exact ixT (j:=2) ht rfl rfl (bD _ rfl)
  ·rw[if_neg h]at bD;exact bD _ rfl
 ·exact ixT (j:=0) ht rfl rfl (Sel.no oK (Sel.f (bD _ rfl)))
def fu (h:List Key->Key)(e:List Key):List (Key->List Key)->List Key
 |[]=>e
 |o::r=>o (h (fu h e r))
theorem jK (h:List Key->Key)(e:List Key):∀R,eS h e R.reverse=fu h e R
 |[]=>rfl
 |o::r=>by rw[Ng,mn,jK h e r];rfl
def Suf {α:Type}(R s:List α):Prop:=∃pre,R=pre++s
def Suf.tail {α:Type}{R s:List α}{o:α}(h:Suf R (o::s)):Suf R s:=let ⟨p,e⟩:=h;⟨p++[o],by rw[e];simp⟩
theorem lw (h:List Key->Key)(e:List Key):∀(pre s:List (Key->List Key)),fu h e s∈cU h e (pre++s).reverse
 |[],s=>by
  obtain⟨p,hp⟩:=ja h s.reverse e
  rw[OU,hp,jK];simp
 |o::pre,s=>by
  rw[RH,Ng,jt]
  exact Lf _ (lw h e pre s)
def vU (h:List Key->Key)(e1 e2:List Key)(R1 R2:List (Key->List Key)):Prop:=∀s1 s2,Suf R1 s1->Suf R2 s2->h (fu h e1 s1)=h (fu h e2 s2)->fu h e1 s1=fu h e2 s2
def xJ {B k d d':Int}{m m' s s':Key}(h:bv B k d m s=bv B k d' m' s'):d=d'/\m=m'/\s=s':=by
 have e:d=d':=by
  have h1:=congrArg (fun l=>l[1]?) h
  have:∀d m s,(bv B k d m s)[1]?=some (.inl d):=fun d m s=>by unfold bv;split<;>rfl
  simp only[this]at h1
  exact PX (Js h1)
 subst e
 refine⟨rfl,?_⟩
 unfold bv at h
 split at h
 ·cases h;exact⟨rfl,rfl⟩
 ·cases h;exact⟨rfl,rfl⟩
def lb {B k d l:Int}{m s:Key}:cv B k l (.tup ((bv B k d m s).map aT))=false:=by
 have key:∀a b:Key,cv B k l (.tup ([.inr "fork",.inl d,.inl (aJ B k d),a,b].map aT))=false:=fun a b=>by
  show(if fI (.tup [.str "fork",.int d,.int (aJ B k d),aT a,aT b])=true then decide (l=0)else _)=false
  rw[if_neg (by simp[fI])]
  show(dN B l (aJ B k l) (.tup [.str "fork",.int d,.int (aJ B k d),aT a,aT b])||(cz B l (aJ B k l) (.tup [.str "fork",.int d,.int (aJ B k d),aT a,aT b])&&(!decide (aJ B k d=aJ B k d)&&bq (aT a)&&bq (aT b))))=false
  rw[decide_eq_true rfl]
  simp[dN]
 unfold bv
 split
 ·exact key _ _
 ·exact key _ _
theorem mf {h:List Key->Key}{B k l1 l2:Int}{e1 e2:List Key}{R1 R2:List (Key->List Key)}(inj:vU h e1 e2 R1 R2)(E1:cv B k l1 (.tup (e1.map aT))=true)(E2:cv B k l2 (.tup (e2.map aT))=true):
  ∀(st1 st2:List (Int×Key)),Suf R1 (st1.map fun s v=>bv B k s.1 s.2 v)->Suf R2 (st2.map fun s v=>bv B k s.1 s.2 v)->fu h e1 (st1.map fun s v=>bv B k s.1 s.2 v)=fu h e2 (st2.map fun s v=>bv B k s.1 s.2 v)->st1=st2/\e1=e2
 |[],[],_,_,h=>⟨rfl,h⟩
 |[],s::r,_,_,h=>by
  have h:e1=bv B k s.1 s.2 _:=h
  rw[h,lb]at E1;cases E1
 |s::r,[],_,_,h=>by
  have h:bv B k s.1 s.2 _=e2:=h
  rw[<-h,lb]at E2;cases E2
 |s1::r1,s2::r2,f1,f2,h=>by
  obtain⟨a,b,c⟩:=xJ (show bv B k s1.1 s1.2 _=bv B k s2.1 s2.2 _ from h)
  obtain⟨er,ee⟩:=mf inj E1 E2 r1 r2 f1.tail f2.tail (inj _ _ f1.tail f2.tail c)
  refine⟨?_,ee⟩
  obtain⟨x1,y1⟩:=s1
  obtain⟨x2,y2⟩:=s2
  cases a;cases b;rw[er]
theorem kO {h:List Key->Key}{e1 e2:List Key}{R1 R2 r1 r2:List (Key->List Key)}(inj:vU h e1 e2 R1 R2):∀(ts:List Int)(ks1 ks2:List Key),ks1.length=ts.length->ks2.length=ts.length->
  Suf R1 ((ts.zip ks1).map (fun x v=>jtT x.1 v x.2)++r1)->Suf R2 ((ts.zip ks2).map (fun x v=>jtT x.1 v x.2)++r2)->fu h e1 ((ts.zip ks1).map (fun x v=>jtT x.1 v x.2)++r1)=fu h e2 ((ts.zip ks2).map (fun x v=>jtT x.1 v x.2)++r2)->ks1=ks2/\fu h e1 r1=fu h e2 r2
 |[],[],[],_,_,_,_,h=>⟨rfl,h⟩
 |t::ts,k1::ks1,k2::ks2,l1,l2,f1,f2,h=>by
  obtain⟨a,b⟩:=BO (show jtT t _ k1=jtT t _ k2 from h)
  have f1':=Suf.tail (show Suf R1 ((fun v=>jtT t v k1)::((ts.zip ks1).map (fun x v=>jtT x.1 v x.2)++r1))from f1)
  have f2':=Suf.tail (show Suf R2 ((fun v=>jtT t v k2)::((ts.zip ks2).map (fun x v=>jtT x.1 v x.2)++r2))from f2)
  obtain⟨er,ee⟩:=kO inj ts ks1 ks2 (Pq l1) (Pq l2) f1' f2' (inj _ _ f1' f2' a)
  exact⟨by rw[b,er],ee⟩
 |[],_::_,_,l1,_,_,_,_=>nomatch l1
 |[],[],_::_,_,l2,_,_,_=>nomatch l2
 |_::_,[],_,l1,_,_,_,_=>nomatch l1
 |_::_,_::_,[],_,l2,_,_,_=>nomatch l2
def oG (B k c:Int)(st:List (Int×Key))(ts:List Int)(ks:List Key):bH B k c st ts ks=(roT c::((ts.zip ks).map (fun x v=>jtT x.1 v x.2)++enT::st.map fun s v=>bv B k s.1 s.2 v)).reverse:=by
 unfold bH gY fo
 simp[List.map_reverse]
def wI {h:List Key->Key}{B k c:Int}{st1 st2:List (Int×Key)}{e1 e2:List Key}{ts:List Int}{ks1 ks2:List Key}(g1:cT B k st1 e1)(g2:cT B k st2 e2)(l1:ks1.length=ts.length)(l2:ks2.length=ts.length)
  (inj:∀x∈cU h e1 (bH B k c st1 ts ks1)++cU h e2 (bH B k c st2 ts ks2),∀y∈cU h e1 (bH B k c st1 ts ks1)++cU h e2 (bH B k c st2 ts ks2),h x=h y->x=y)
  (eq:h (eS h e1 (bH B k c st1 ts ks1))=h (eS h e2 (bH B k c st2 ts ks2))):ks1=ks2/\st1=st2/\e1=e2:=by
 rw[oG,oG]at inj eq
 rw[jK,jK]at eq
 have I:vU h e1 e2 (roT c::((ts.zip ks1).map (fun x v=>jtT x.1 v x.2)++enT::st1.map fun s v=>bv B k s.1 s.2 v)) (roT c::((ts.zip ks2).map (fun x v=>jtT x.1 v x.2)++enT::st2.map fun s v=>bv B k s.1 s.2 v)):=by
  rintro s1 s2 ⟨p1,q1⟩ ⟨p2,q2⟩ hh
  refine inj _ (Lf _ ?_) _ (Jv _ ?_) hh
  ·rw[q1];exact lw h e1 p1 s1
  ·rw[q2];exact lw h e2 p2 s2
 have e0:=I _ _ ⟨[],rfl⟩ ⟨[],rfl⟩ eq
 have ro:∀x y,roT c x=roT c y->x=y:=fun x y z=>by cases z;rfl
 have en:∀x y,enT x=enT y->x=y:=fun x y z=>by cases z;rfl
 have f1:=Suf.tail (R:=roT c::((ts.zip ks1).map (fun x v=>jtT x.1 v x.2)++enT::st1.map fun s v=>bv B k s.1 s.2 v)) ⟨[],rfl⟩
 have f2:=Suf.tail (R:=roT c::((ts.zip ks2).map (fun x v=>jtT x.1 v x.2)++enT::st2.map fun s v=>bv B k s.1 s.2 v)) ⟨[],rfl⟩
 obtain⟨ek,e3⟩:=kO I ts ks1 ks2 l1 l2 f1 f2 (I _ _ f1 f2 (ro _ _ e0))
 have s1:Suf (roT c::((ts.zip ks1).map (fun x v=>jtT x.1 v x.2)++enT::st1.map fun s v=>bv B k s.1 s.2 v)) (st1.map fun s v=>bv B k s.1 s.2 v):=⟨roT c::((ts.zip ks1).map (fun x v=>jtT x.1 v x.2)++[enT]),by simp⟩
 have s2:Suf (roT c::((ts.zip ks2).map (fun x v=>jtT x.1 v x.2)++enT::st2.map fun s v=>bv B k s.1 s.2 v)) (st2.map fun s v=>bv B k s.1 s.2 v):=⟨roT c::((ts.zip ks2).map (fun x v=>jtT x.1 v x.2)++[enT]),by simp⟩
 obtain⟨es,ee⟩:=mf I g1.en g2.en st1 st2 s1 s2 (I _ _ s1 s2 (en _ _ e3))
 exact⟨ek,es,ee⟩
def wK {H:Hp}{Q:VK}{a:Addr}{xs:List V}{i:Int}(ha:H a=some (.lst xs))(h0:0<=i)(h1:i<xs.length)(q:∀v∈xs,Q v H):az K (.ref a) (.int i) H Q:=by
 obtain⟨v,hv⟩:=uT h0 h1
 obtain⟨j,_,hj,_⟩:=gZ hv
 exact .inl (.inl ⟨a,xs,i,v,rfl,rfl,SqL.of ha,hv,q v (Jq hj)⟩)
def GL (K:If)(A:Adr):Ln (sN K A) 2:=by rintro vs H Q E ⟨b,_,rfl,_⟩;rfl
def Im (T:Txt K mg A):Rd (sN K A) (T_6 K A) ["_law_cell","_law_bits","_law_top"]:=by
 intro vs H Q E h
 obtain⟨c,B,rfl,B1,B60,q⟩:=h
 refine⟨⟨by omega,by omega,by decide⟩,?_⟩
 have e:(1:Int)*2^(B:Int).toNat=((2^B:Nat):Int):=by rw[show(B:Int).toNat=B by omega,Nv,gi]
 have hp:0<((2^B:Nat):Int):=by have:=Pc B;omega
 rw[e]
 have fin:∀i:Int,0<=i->i<((2^B:Nat):Int)->Q (.int i) H:=fun i h0 h1=>by
  obtain⟨y,rfl⟩:=JW h0
  exact q y (by omega)
 have md:∀i:Int,0<=i%((2^B:Nat):Int)/\i%((2^B:Nat):Int)<((2^B:Nat):Int):=fun i=>⟨Ll _ (by omega),KH _ hp⟩
 refine⟨by decide,Sel.dec (fun h=>?_) (fun h=>?_)⟩
 ·exact⟨⟨by decide,by decide⟩,hp,fin _ (md _).1 (md _).2⟩
 refine⟨by decide,Sel.dec (fun h=>?_) (fun h=>?_)⟩
 ·exact⟨⟨by decide,by decide⟩,wa (by decide) (by decide),hp,fin _ (md _).1 (md _).2⟩
 ·refine⟨⟨by decide,by decide⟩,hp,fin _ ?_ ?_⟩
  ·have:=(md (c/3)).2;omega
  ·have:=(md (c/3)).1;omega
def pw:Str:="abcdefghijklmnopqrstuvwxyz ABC0123;:"
def zY:pw.length=36/\pw.cps.toList.length=36/\pw.cps.toList.all (·<128)=true:=by decide+kernel
def CN (K:If)(A:Adr):Ln (mT K A) 1:=by rintro vs H Q E ⟨c,rfl,_⟩;rfl
def DL (T:Txt K mg A):Rd (mT K A) (Hf K A) ["_law_number","_law_letters","_law_size"]:=by
 intro vs H Q E h
 obtain⟨c,rfl,q⟩:=h
 obtain⟨g1,g2,g3⟩:=zY
 refine⟨aF (show 4<=1000000 by decide),fun p hp=>⟨by decide,wK al (by omega) (by show c%4<((4:Nat):Int);omega) fun v hv=>?_⟩⟩
 have S1:=ar.upd (o:=.lst [V.int 0,.int 1,.int 2,.int 5]) hp
 generalize upd H p (.lst [V.int 0,.int 1,.int 2,.int 5])=H1 at*
 obtain⟨i,rfl,i0,i5⟩:∃i:Int,v=.int i/\0<=i/\i<=5:=by
  simp only[IY,Jl,or_false]at hv
  rcases hv with rfl|rfl|rfl|rfl
  ·exact⟨_,rfl,by decide,by decide⟩
  ·exact⟨_,rfl,by decide,by decide⟩
  ·exact⟨_,rfl,by decide,by decide⟩
  ·exact⟨_,rfl,by decide,by decide⟩
 have wb:∀b:Bool,0<=(if b then(1:Int)else 0)/\(if b then(1:Int)else 0)<=1:=fun b=>by cases b<;>decide
 refine⟨⟨by decide,by decide⟩,by decide,?_⟩
 obtain⟨w0,w1⟩:=wb (decide (c/4%16=9))
 refine⟨wa w0 (by omega),?_⟩
 show sS K A _ [some (.int c),some (.str pw),some (.int (i+55*(if decide (c/4%16=9)=true then(1:Int)else 0)))] H1
 generalize (if decide (c/4%16=9)=true then(1:Int)else 0)=w at*
 obtain⟨n,hn⟩:∃n:Nat,i+55*w=(n:Int):=⟨(i+55*w).toNat,by omega⟩
 rw[hn]
 have n60:n<=60:=by omega
 refine⟨rfl,(n:Int),rfl,by omega,by omega,?_⟩
 rw[Kb]
 intro D hD
 refine jS (ci.range (lo:=0) (n:=n)) (fun i ys H2=>∃zs:List Str,ys=zs.map V.str/\zs.length=i/\(∀z∈zs,z.length=1/\cm z=true)/\H2=upd H1 D (.lst ys)) (fun _ _ _ _ _=>trivial) ⟨[],rfl,rfl,(fun _ h=>nomatch h),rfl⟩ (fun i ys H2 hi ⟨zs,e1,e2,e3,e4⟩=>?_) ?_
 ·subst e4
  refine pB ⟨⟨by decide,by decide⟩,wa (by omega) (by omega),by decide,?_⟩
  generalize (c/64+_:Int)=w
  obtain⟨cc,hcc⟩:=uT (xs:=pw.cps.toList) (i:=w%36) (by omega) (by rw[g2];omega)
  refine .inl (.inr (.inr ⟨_,_,cc,rfl,rfl,by rw[g1];exact aF (by decide),hcc,?_⟩))
  have hyl:ys.length=i:=by rw[e1,IU,e2]
  refine⟨al,by rw[hyl];exact bL (by omega),CWd.next hi ⟨zs++[⟨#[cc]⟩],by rw[e1,JD];rfl,by rw[Jg,e2];rfl,fun z hz=>?_,eW⟩⟩
  rcases Ka.mp hz with h|h
  ·exact e3 z h
  ·rw[JJ.mp h]
   refine⟨rfl,?_⟩
   obtain⟨j,_,hj,_⟩:=gZ hcc
   have:=of_decide_eq_true (Kv.mp g3 cc (Jq hj))
   unfold cm
   simp
   omega
 ·rintro ys H2 ⟨zs,rfl,e2,e3,rfl⟩
  have hl:(Txt.join "" zs).length=zs.length:=vK zs fun z hz=>(e3 z hz).1
  refine⟨_,_,zs,rfl,rfl,al,?_,q _ _ (S1.trans (ar.upd hD)) ⟨vx fun z hz=>(e3 z hz).2,by rw[hl];omega⟩⟩
  have e0:(("":String):Str).length=0:=by decide
  rw[e0,kE zs fun z hz=>(e3 z hz).1]
  omega
def tZ {i:Int}(h0:0<=i)(h1:i<10^60):i.natAbs.log2<1920:=by
 by_cases e:i.natAbs=0
 ·rw[e];decide
 ·refine(Ra e).mpr ?_
  have:i.natAbs<10^60:=by omega
  exact Jm this (by decide+kernel)
def GU (K:If)(A:Adr):Ln (fq K A) 2:=by rintro vs H Q E ⟨a,ns,k,rfl,_⟩;rfl
def IA (T:Txt K mg A):Rd (fq K A) (T_2 K A) ["_law_script","_law_k"]:=by
 intro vs H Q E h
 obtain⟨a,ns,k,rfl,hs,h0,q⟩:=h
 refine .inl (.inl ⟨_,hs,Sel.dec (fun h=>?_) (fun h=>?_)⟩)
 ·have h:k<((ns.map V.int).length:Int):=h
  rw[IU]at h
  have hk:k.toNat<ns.length:=by omega
  refine .inl (.inl ⟨a,_,k,.int (cg ns k),rfl,rfl,hs,?_,q⟩)
  rw[pe h0 (by rw[IU];exact h)]
  simp[cg,hk,Jk]
 ·have h:¬k<((ns.map V.int).length:Int):=h
  rw[IU]at h
  have e:cg ns k=0:=by unfold cg;rw[Jk,KS (by omega)];rfl
  rw[e]at q;exact q
def Ds (K:If)(A:Adr):Ln (lj K A) 2:=by rintro vs H Q E ⟨c,m,rfl,_⟩;rfl
def Ef (T:Txt K mg A):Rd (lj K A) (HG K A) ["_law_cell","_law_many","_law_found","_law_number","_law_k"]:=by
 intro vs H Q E h
 obtain⟨c,m,rfl,m0,m1,q⟩:=h
 refine⟨aF (n:=0) (by decide),fun D hD=>⟨by decide,_,rfl,by omega,by omega,?_⟩⟩
 refine ux (fun i σ H'=>∃(z:Int)(x4:Option V)(ns:List Int),σ=[some (.int c),some (.int m),some (.ref D),some (.int z),x4]/\H'=upd H D (.lst (ns.map V.int))/\ns.length=i)
  ⟨_,none,[],rfl,rfl,rfl⟩ ?_ ?_
 ·rintro i σ H' hi ⟨z,x4,ns,rfl,rfl,hl⟩
  refine⟨Ms (by decide),LF (by decide),by decide,.inl ⟨rfl,_,SqL.of al⟩,⟨by decide,by decide⟩,D,_,_,rfl,rfl,al,by rw[IU];exact bL (by omega),?_⟩
  refine⟨_,_,ns++[(z*48271+7*(0+(i:Int))+1)%2147483647/8],rfl,?_,by rw[Jg,hl];rfl⟩
  rw[eW,JD];rfl
 ·rintro σ H' ⟨z,x4,ns,rfl,rfl,hl⟩
  exact q D ns _ (ar.upd hD) hD (by omega) al
def FZ:∀n:Fin 10,cm (JM (toString (((n:Nat):Int))))=true/\(JM (toString (((n:Nat):Int)))).length<=10:=by decide+kernel
def GZ:∀n:Fin 3,cm (Txt.mul "m" ((n:Nat):Int))=true/\(Txt.mul "m" ((n:Nat):Int)).length<=10:=by decide+kernel
def DI (K:If)(A:Adr):Ln (iB K A) 1:=by rintro vs H Q E ⟨c,rfl,_⟩;rfl
def Hz (T:Txt K mg A):Rd (iB K A) (T_7 K A) ["_law_number"]:=by
 intro vs H Q E h
 obtain⟨c,rfl,q⟩:=h
 have p60:(1000003:Int)<10^60:=by decide+kernel
 obtain⟨j,hj⟩:=JW (show 0<=c/4%10 by omega)
 obtain⟨k,hk⟩:=JW (show 0<=c/4%3 by omega)
 refine⟨⟨by decide,by decide⟩,by decide,⟨by decide,by decide⟩,by decide,tZ (by omega) (by omega),⟨by decide,by decide⟩,by decide,⟨by decide,by decide⟩,by decide,⟨by omega,by omega,by decide⟩,aF (n:=4) (by decide),fun D hD=>⟨by decide,?_⟩⟩
 refine wK al (by omega) (by show c%4<((4:Nat):Int);omega) fun v hv=>?_
 have S:=ar.upd (o:=.lst [V.int (c/4%1000003),.str (toString (c/4%10)),.int (c/4%10),.str (Txt.mul "m" (c/4%3))]) hD
 simp only[IY,Jl,or_false]at hv
 rcases hv with rfl|rfl|rfl|rfl
 ·exact q (.inl _) _ S ⟨by omega,by omega⟩
 ·refine q (.inr _) _ S ?_
  rw[hj];exact FZ ⟨j,by omega⟩
 ·exact q (.inl _) _ S ⟨by omega,by omega⟩
 ·refine q (.inr _) _ S ?_
  rw[hk];exact GZ ⟨k,by omega⟩
def Ec (K:If)(A:Adr):Ln (oI K A) 1:=by rintro vs H Q E ⟨m,rfl,_⟩;rfl
def IF (T:Txt K mg A):Rd (oI K A) (T_9 K A) ["_law_mark_here"]:=by
 intro vs H Q E h
 obtain⟨m,rfl,hm,q⟩:=h
 have p60:(2000001:Int)<10^60:=by decide+kernel
 cases m with
 |inl i=>
  obtain⟨h0,h1⟩:=hm
  exact⟨by decide,"int",rfl,Sel.no rfl (q (.inl (i+1)) (decide_eq_true ⟨by omega,by omega⟩))⟩
 |inr z=>
  obtain⟨h0,h1⟩:=hm
  have e1:(("x":String):Str).length=1:=by decide
  refine⟨by decide,"str",rfl,Sel.yes rfl ⟨by rw[e1];exact Lz (bL (by omega)),q (.inr (z++("x":Str))) ?_⟩⟩
  show(cm _&&decide _)=true
  rw[mw h0 (by decide+kernel),decide_eq_true (by rw[PySem.Str.length_append,e1];omega)];rfl
def Cp (K:If)(A:Adr):Ln (nG K A) 2:=by rintro vs H Q E ⟨p,m,rfl,_⟩;rfl
def Fy (T:Txt K mg A):Rd (nG K A) (Iq K A) ["_law_place","_law_count","_law_turns_here","_law_cut"]:=by
 intro vs H Q E h
 obtain⟨p,m,rfl,hp,hm,q⟩:=h
 refine⟨aF (n:=0) (by decide),fun D hD=>?_⟩
 have q':=q D hD
 show ∃_,_
 refine⟨fun e σ H2=>∃(f r:Nat)(x3:Option V)(ts:List Int),σ=[some (.int (f:Int)),some (.int (r:Int)),some (.ref D),x3]/\H2=upd H D (.lst (ts.map V.int))/\
  f<r/\r<=2^e/\e<=60/\ts.length+e=60/\ts++cy e f r=cy 60 p m,⟨60,p,m,none,[],rfl,rfl,hp,hm,IV _,rfl,by rw[OU]⟩,?_⟩
 rintro e σ H2 ⟨f,r,x3,ts,rfl,rfl,hf,he,h60,hl,hw⟩
 refine xG (fun h=>?_) (fun h=>?_)
 ·have h2:2<=r:=by have h:(1:Int)<(r:Int):=h;omega
  cases e with
  |zero=>simp at he;omega
  |succ e=>
  have b1:=oJ h2
  have b2:=pD h2
  have b3:=oE h2 he
  obtain⟨k,ek,hk⟩:=iY h2 he
  rw[mC (by omega)]at hw
  refine⟨fun σ' H'=>∃(f r:Nat)(x3:Option V)(ts:List Int),σ'=[some (.int (f:Int)),some (.int (r:Int)),some (.ref D),x3]/\H'=upd H D (.lst (ts.map V.int))/\
   f<r/\r<=2^e/\e<=60/\ts.length+e=60/\ts++cy e f r=cy 60 p m,fun σ' H' w=>⟨e,by omega,w⟩,?_⟩
  refine⟨fun g σ' H'=>∃d:Nat,σ'=[some (.int (f:Int)),some (.int (r:Int)),some (.ref D),some (.int ((2^d:Nat):Int))]/\H'=upd H D (.lst (ts.map V.int))/\g+d=k,⟨k,0,rfl,rfl,rfl⟩,?_⟩
  rintro g σ' H' ⟨d,rfl,rfl,hg⟩
  have p2:2^(d+1)=2*2^d:=by rw[Nat.pow_succ];omega
  refine⟨LF (by decide),xG (fun h=>?_) (fun h=>?_)⟩
  ·have h:2*((2^d:Nat):Int)<(r:Int):=h
   have hdk:d<k:=by
    rcases LK d k with h'|h'
    ·exact h'
    ·have:d=k:=by omega
     subst this;omega
   cases g with
   |zero=>omega
   |succ g=>
   refine⟨fun σ'' H''=>∃d:Nat,σ''=[some (.int (f:Int)),some (.int (r:Int)),some (.ref D),some (.int ((2^d:Nat):Int))]/\H''=upd H D (.lst (ts.map V.int))/\g+d=k,fun _ _ w=>⟨g,by omega,w⟩,?_⟩
   refine⟨LF (by decide),d+1,?_,rfl,by omega⟩
   show[some (V.int f),some (V.int r),some (V.ref D),some (V.int (2*((2^d:Nat):Int)))]=_
   rw[show 2*((2^d:Nat):Int)=((2^(d+1):Nat):Int)by omega]
  ·have h:¬2*((2^d:Nat):Int)<(r:Int):=h
   have hdk:d=k:=by
    rcases LK d k with h'|h'
    ·have:2^(d+1)<=2^k:=ML (by decide) h'
     omega
    ·omega
   subst hdk
   rw[<-ek]at h⊢
   refine Sel.dec (fun hlt=>?_) (fun hlt=>?_)
   ·have hlt:(f:Int)<((be r:Nat):Int):=hlt
    rw[if_pos (by omega)]at hw
    refine⟨.inl ⟨rfl,_,SqL.of al⟩,D,_,_,rfl,rfl,al,by rw[IU];exact bL (by omega),?_⟩
    refine⟨f,be r,_,ts++[0],rfl,?_,by omega,b3,by omega,by rw[Jg];simp;omega,by rw[KP];exact hw⟩
    rw[eW,JD];rfl
   ·have hlt:¬(f:Int)<((be r:Nat):Int):=hlt
    rw[if_neg (by omega)]at hw
    refine⟨.inl ⟨rfl,_,SqL.of al⟩,D,_,_,rfl,rfl,al,by rw[IU];exact bL (by omega),?_⟩
    refine⟨f- be r,r- be r,some (.int (be r:Int)),ts++[1],?_,?_,by omega,by omega,by omega,by rw[Jg];simp;omega,by rw[KP];exact hw⟩
    ·show[some (V.int ((f:Int)- (be r:Int))),some (V.int ((r:Int)- (be r:Int))),some (V.ref D),_]=_
     rw[show((f:Int)- (be r:Int))=((f- be r:Nat):Int)by omega,show((r:Int)- (be r:Int))=((r- be r:Nat):Int)by omega]
    ·rw[eW,JD];rfl
 ·have h:¬(1:Int)<(r:Int):=h
  rw[pT (by omega),KW]at hw
  rw[hw];exact q'
def fQ {m:Key}(h:smK m):okP m=true:=by
 have p60:(2000001:Int)<10^60:=by decide+kernel
 cases m with
 |inl i=>exact decide_eq_true ⟨h.1,by have:=h.2;omega⟩
 |inr z=>show(cm z&&decide (z.length<=100000))=true;rw[h.1,decide_eq_true (by have:=h.2;omega)];rfl
theorem iH:∀{st:List (Int×Key)},(∀s∈st,okP s.2=true)->okDs (st.map stD)=true/\JA (toPys (st.map stD))<=1
 |[],_=>⟨rfl,Kf _⟩
 |s::r,h=>by
  obtain⟨h1,h2⟩:=iH fun x hx=>h x (Je _ hx)
  have o:=(jL (h s Jw)).1
  refine⟨?_,?_⟩
  ·show((true&&(okD (aT s.2)&&true))&&okDs (r.map stD))=true
   rw[o,h1];rfl
  ·show max (max 0 (max (du (aT s.2)).depth 0)+1) (JA (toPys (r.map stD)))<=1
   rw[qQ];omega
def uM {a b:Addr}{xs ys:List V}{σ:L2.St}{is:List Nat}{tc:TT}{te:TE}{Q:VK}{H1:Hp}{D:Addr}(Pv:Nat->List V->Hp->Prop)
  (hk:∀i zs H,Pv i zs H->SqL K H a xs/\SqL K H b ys)(h0:Pv 0 [] (upd H1 D (.lst [])))
  (hs:∀i x y zs H2 p,xs[i]? =some x->ys[i]? =some y->Pv i zs H2->H2 p=none->tc (some x::some y::aR σ is) (upd H2 p (.tup [x,y])) fun b H4=>if b=true then
   te (some x::some y::aR σ is) H4 fun y H5=>H5 D=some (.lst zs)/\zs.length<sizeLine/\∃m',m'<min xs.length ys.length- i/\CWd (min xs.length ys.length) Pv (i+1) m' (zs++[y]) (upd H5 D (.lst (zs++[y])))
   else ∃m',m'<min xs.length ys.length- i/\CWd (min xs.length ys.length) Pv (i+1) m' zs H4)
  (hd:∀i zs H,Pv i zs H->Q (.ref D) H):uW K is tc te σ D (pO K a b) H1 Q:=by
 refine⟨CWd (min xs.length ys.length) Pv,⟨_,Kf _,rfl,h0⟩,?_⟩
 rintro i m zs H2 ⟨hi,rfl,p⟩
 obtain⟨q1,q2⟩:=hk i zs H2 p
 by_cases hlt:i<min xs.length ys.length
 ·have e1:xs[i]? =some (xs[i]'(by omega)):=IR (by omega)
  have e2:ys[i]? =some (ys[i]'(by omega)):=IR (by omega)
  refine .inr ⟨⟨xs,ys,_,_,q1,q2,e1,e2⟩,fun v H3 yl=>?_⟩
  obtain⟨pp,rfl,hn,hy⟩:=yl
  obtain⟨x,y,ex,ey,rfl⟩:=hy xs ys q1 q2
  exact⟨pp,x,y,rfl,SqT.of al,hs i x y zs H2 pp ex ey p hn⟩
 ·exact .inl ⟨⟨xs,ys,q1,q2,by omega⟩,hd i zs H2 p⟩
abbrev PS (H:Hp):List V->List (Int×Key)->Prop:=Paired fun(v:V)(s:Int×Key)=>∃p,v=.ref p/\H p=some (.tup [.int s.1,kV s.2])
def PS.dat {H:Hp}{zs:List V}{st:List (Int×Key)}(h:PS H zs st):DatWs H zs (st.map stD):=by
 induction h with
 |nil=>exact .nil
 |cons r _ ih=>
  obtain⟨p,rfl,hp⟩:=r
  exact .cons (.tup hp (.cons (.int _) (.cons (je _) .nil))) ih
def PS.keep {H H':Hp}{zs:List V}{st:List (Int×Key)}(h:PS H zs st)(k:∀x xs,H x=some (.tup xs)->H' x=some (.tup xs)):PS H' zs st:=Paired.mapP h fun v s ⟨p,e,hp⟩=>⟨p,e,k _ _ hp⟩
theorem pV {B:Int}:∀(st:List (Int×Key))(low:Int),(st.map (·.1)).Pairwise (· < ·)->(∀s∈st,low<=s.1/\s.1<B/\okP s.2=true)->aQ B low (st.map stD)=true
 |[],_,_,_=>rfl
 |s::r,low,up,h=>by
  obtain⟨h1,h2,h3⟩:=h s Jw
  obtain⟨u1,u2⟩:=Ob.mp up
  show((decide (low<=s.1/\s.1<B)&&bq (aT s.2))&&aQ B (s.1+1) (r.map stD))=true
  rw[decide_eq_true ⟨h1,h2⟩,(jL h3).2,pV r (s.1+1) u2 fun x hx=>?_]
  ·rfl
  ·obtain⟨_,a2,a3⟩:=h x (Je _ hx)
   have:s.1<x.1:=u1 x.1 (Ky.mpr ⟨x,hx,rfl⟩)
   exact⟨by omega,a2,a3⟩
def pJ (xs:List V)(k:Nat):eu xs none (some (k:Int))=xs.take k:=by
 unfold eu
 rw[HT.pN,HT.jH,Sg,OE,List.take_eq_take_iff]
 omega
def kj (xs:List V)(k:Nat):eu xs (some (k:Int)) none=xs.drop k:=by
 unfold eu
 rw[HT.pN,HT.jH]
 by_cases h:k<=xs.length
 ·rw[Nat.min_eq_left h,KL (by rw[Ku];omega)]
 ·rw[Nat.min_eq_right (by omega),Qt,List.take_zero,Qe (by omega)]
def Ak (xs:List V)(a b:Nat):eu xs (some (a:Int)) (some (b:Int))=(xs.drop (min a xs.length)).take (min b xs.length- min a xs.length):=by
 unfold eu
 rw[HT.jH,HT.jH]
def Dd {ks:List Int}{B:Int}(up:ks.Pairwise (· < ·))(kb:∀k∈ks,0<=k/\k<B):(ks.length:Int)<=max B 0:=by
 have key:∀(ks:List Int)(low:Int),0<=low->ks.Pairwise (· < ·)->(∀k∈ks,low<=k/\k<B)->(ks.length:Int)<=max (B- low) 0:=by
  intro ks
  induction ks with
  |nil=>intro low _ _ _;simp;omega
  |cons k r ih=>
   intro low h0 up h
   obtain⟨u1,u2⟩:=Ob.mp up
   obtain⟨h1,h2⟩:=h k Jw
   have:=ih (k+1) (by omega) u2 fun x hx=>⟨by have:=u1 x hx;omega,(h x (Je _ hx)).2⟩
   rw[JU];omega
 have:=key ks 0 (Nw _) up kb
 omega
def BV (K:If)(A:Adr):Ln (kM K A) 3:=by rintro vs H Q E ⟨L,ns,B,m,rfl,_⟩;rfl
def Fl (T:Txt K mg A):Rd (kM K A) (Iu K A) ["_law_xs","_law_bits","_law_many","_law_depths"]:=by
 intro vs H Q E h
 obtain⟨L,ns,B,m,rfl,hL,hl,B1,B60,m0,m6,q⟩:=h
 obtain⟨mm,rfl⟩:=JW m0
 intro P w
 refine⟨(mm:Int),rfl,.inl (.inl ⟨L,_,rfl,SqL.of hL,fun p hp=>?_⟩)⟩
 rw[pJ,<-Nq]
 have S1:=ar.upd (o:=.lst ((ns.take mm).map V.int)) hp
 have hp1:upd H p (.lst ((ns.take mm).map V.int)) p=some (.lst ((ns.take mm).map V.int)):=al
 generalize upd H p (.lst ((ns.take mm).map V.int))=H1 at S1 hp1
 have tl:(ns.take mm).length<=6:=by rw[Jz];omega
 generalize ns.take mm=es at hp1 tl
 refine⟨p,rfl,.inl ⟨⟨_,SqL.of hp1⟩,fun D hD=>?_⟩⟩
 have nD:p≠D:=ay hp1 hD
 refine jS (ci.list (xs:=es.map V.int) .non) (fun i ys H2=>ys=((es.take i).map (·%B)).map V.int/\H2=upd H1 D (.lst ys)) (fun i ys H2 hi ⟨_,e2⟩=>?_) ⟨rfl,rfl⟩ (fun i ys H2 hi ⟨e1,e2⟩=>?_) (fun ys H2 ⟨e1,e2⟩=>?_)
 ·rw[e2];exact SqL.of (by rw[ap nD];exact hp1)
 ·subst e2
  have hi':i<es.length:=by rw[IU]at hi;exact hi
  have hg:(es.map V.int).getD i .non=.int es[i]:=by rw[Jk,Jr,IR hi'];rfl
  rw[hg]
  refine pB ⟨by omega,al,by rw[e1,IU,IU];exact bL (by rw[Jz];omega),CWd.next hi ⟨?_,eW⟩⟩
  rw[e1,<-cu (IR hi'),JD,JD];rfl
 subst e1 e2
 rw[IU,KL (IV _)]
 have S2:=S1.trans (ar.upd (o:=.lst ((es.map (·%B)).map V.int)) hD)
 refine⟨D,es.map (·%B),rfl,al,by rw[IU];omega,fun p2 hp2=>⟨p2,es.map (·%B),rfl,al,by rw[IU];omega,fun l ks hln up mem=>?_⟩⟩
 have S3:=S2.trans ((ar.upd hp2).trans (ar.upd (o:=.lst (ks.map V.int)) hln))
 have hl3:upd (upd (upd H1 D (.lst ((es.map (·%B)).map V.int))) p2 (lA P w p2 (es.map (·%B)))) l (.lst (ks.map V.int)) l=some (.lst (ks.map V.int)):=al
 generalize upd (upd (upd H1 D (.lst ((es.map (·%B)).map V.int))) p2 (lA P w p2 (es.map (·%B)))) l (.lst (ks.map V.int))=H3 at S3 hl3
 have kb:∀k∈ks,0<=k/\k<B:=fun k hk=>by
  obtain⟨x,_,rfl⟩:=Ky.mp ((mem k).mp hk)
  exact⟨Ll _ (by omega),KH _ (by omega)⟩
 refine⟨(mm:Int),rfl,.inl (.inl ⟨L,_,rfl,SqL.of (S3 _ _ hL),fun r hr=>?_⟩)⟩
 obtain⟨zs,ez,zl⟩:=tJ ns (some (mm:Int)) none
 rw[ez]
 have S4:=S3.trans (ar.upd (o:=.lst (zs.map V.int)) hr)
 have hl4:=ar.upd (o:=.lst (zs.map V.int)) hr _ _ hl3
 have hr4:upd H3 r (.lst (zs.map V.int)) r=some (.lst (zs.map V.int)):=al
 generalize upd H3 r (.lst (zs.map V.int))=H4 at S4 hl4 hr4
 refine .inr ⟨l,r,_,_,rfl,SqL.of hl4,SqL.of hr4,fun D2 hD2=>?_⟩
 have nl:l≠D2:=ay hl4 hD2
 have nr:r≠D2:=ay hr4 hD2
 refine uM (xs:=ks.map V.int) (ys:=zs.map V.int) (fun i ys H2=>(∀x o,x≠D2->H4 x=some o->H2 x=some o)/\H2 D2=some (.lst ys)/\∃st,PS H2 ys st/\st.map (·.1)=ks.take i/\∀s∈st,smK s.2)
  (fun i ys H2 ⟨k,_⟩=>⟨SqL.of (k _ _ nl hl4),SqL.of (k _ _ nr hr4)⟩) ⟨fun x o n e=>by rw[ap n];exact e,al,[],.nil,rfl,(fun _ h=>nomatch h)⟩ (fun i x y ys H2 pp hx hy ⟨k,hd,st,ps,e1,sm⟩ hpp=>?_) (fun i ys H2 ⟨k,hd,st,ps,e1,sm⟩=>?_)
 ·obtain⟨kk,hkk,rfl⟩:=jV hx
  obtain⟨zz,_,rfl⟩:=jV hy
  have yl:ys.length<=1000:=by
   have h1:=ps.length
   have h2:=congrArg OW e1
   rw[IU,Jz]at h2
   have h3:=(IW.mp hkk).1
   have:ks.length<=60:=by
    have:=Dd up kb;omega
   omega
  have hi:i<min (ks.map V.int).length (zs.map V.int).length:=by
   have h1:=(IW.mp hx).1
   have h2:=(IW.mp hy).1
   omega
  have S5:=ar.upd (o:=.tup [V.int kk,.int zz]) hpp
  refine pB ⟨zz,rfl,fun mk H5 S6 hm=>⟨aF (n:=2) (by decide),fun t ht=>?_⟩⟩
  have S7:=S5.trans (S6.trans (ar.upd (o:=.tup [V.int kk,kV mk]) ht))
  have nt:t≠D2:=fun z=>by subst z;rw[S6 _ _ (S5 _ _ hd)]at ht;cases ht
  refine⟨S7 _ _ hd,bL yl,CWd.next hi ⟨fun x o n e=>by rw[ap n];exact S7 _ _ (k x o n e),al,st++[(kk,mk)],?_,?_,?_⟩⟩
  ·refine gW (ps.keep fun x xs e=>?_) ⟨t,rfl,by rw[ap nt];exact al⟩
   rw[ap (de e hd (fun z=>nomatch z))];exact S7 _ _ e
  ·rw[JD,e1,<-cu hkk];rfl
  ·intro s hs
   rcases Ka.mp hs with h|h
   ·exact sm s h
   ·rw[JJ.mp h];exact hm
 ·have hD4:H D2=none:=jO S4 hD2
  refine⟨D2,ys,rfl,.inl ⟨SqL.of hd,fun t ht=>?_⟩⟩
  have S8:=ar.upd (o:=.tup ys) ht
  refine q t st _ (fun x o e=>S8 _ _ (k x o (ay e hD4) (S4 _ _ e))) (.tup al ((ps.keep fun x xs e=>S8 _ _ e).dat)) (pV st 0 (by rw[e1];exact up.sublist (Nf _ _)) fun s hs=>?_) sm
  have hm:s.1∈ks:=NL (by rw[<-e1];exact Ky.mpr ⟨s,hs,rfl⟩)
  exact⟨(kb _ hm).1,(kb _ hm).2,fQ (sm s hs)⟩
def turned {x j n m:Nat}(hj:j<n)(hx:x<2^m)(hjm:j<m):(x^^^2^j)/2^n=x/2^n/\x^^^2^j≠x/\x^^^2^j<2^m:=by
 have p:(2:Nat)^j<2^n:=QJ (by decide) hj
 refine⟨?_,fun e=>?_,Nat.xor_lt_two_pow hx (QJ (by decide) hjm)⟩
 ·rw[Nat.xor_div_two_pow,Nat.div_eq_of_lt p,Nat.xor_zero]
 ·have h:=congrArg (x^^^·) e
  simp only[<-Nat.xor_assoc,Nat.xor_self,Nat.zero_xor]at h
  have:=Pc j
  omega
def qy {x:Int}{j n m:Nat}(hj:j<n)(x0:0<=x)(hx:x<2^m)(hjm:j<m):∃y:Int,Mf x (1*2^j)=y/\y/2^n=x/2^n/\y≠x/\0<=y/\y<2^m:=by
 obtain⟨z,rfl⟩:=JW x0
 rw[<-gi]at hx
 obtain⟨t1,t2,t3⟩:=turned (x:=z) hj (by omega) hjm
 refine⟨((z^^^2^j:Nat):Int),by rw[Nv,<-gi,sr],?_,by omega,by omega,by rw[<-gi];omega⟩
 rw[<-gi,<-RS,<-RS,t1]
def ri (st:List (Int×Key)):PyData.eqv (du (.tup (st.map stD))) (.tuple [])=decide (st=[]):=by
 cases st with
 |nil=>rfl
 |cons s r=>rfl
def qu {H:Hp}{p:Addr}{st:List (Int×Key)}{s:Int×Key}(h:bj H (.ref p) (.tup (st.map stD)))(e:st.getLast?=some s):∃xs q,H p=some (.tup xs)/\xs.getLast?=some (.ref q)/\H q=some (.tup [.int s.1,kV s.2]):=by
 cases h with
 | @tup _ xs _ ea r=>
   have hl:xs.length=st.length:=by rw[r.len];simp
   rw[MY]at e
   have hi:=(IW.mp e).1
   obtain⟨x,hx⟩:∃x,xs[xs.length- 1]? =some x:=⟨_,IR (by omega)⟩
   obtain⟨s',q,hs,rfl,hq⟩:=kX r hx
   rw[hl,e]at hs
   cases hs
   exact⟨xs,q,ea,by rw[MY];exact hx,hq⟩
def zk {H:Hp}{Q:VK}{a:Addr}{xs:List V}{x:V}(ha:H a=some (.tup xs))(e:xs.getLast?=some x)(q:Q x H):az K (.ref a) (.int (-1)) H Q:=by
 obtain⟨ys,rfl⟩:=List.getLast?_eq_some_iff.mp e
 exact .inl (.inr (.inl ⟨a,_,-1,x,rfl,rfl,SqT.of ha,oh _ _,q⟩))
def En (K:If)(A:Adr):Ln (lC K A) 4:=by rintro vs H Q E ⟨L,p,ns,B,k,st,rfl,_⟩;rfl
def HE (T:Txt K mg A):Rd (lC K A) (T_5 K A) ["_law_xs","_law_bits","_law_key_here","_law_steps_here","_law_depth","_law_free","_law_further","_law_begin","_law_near"]:=by
 intro vs H Q E h
 obtain⟨L,p,ns,B,k,st,rfl,hL,h5,B1,B60,k0,k1,w,gs,so,q⟩:=h
 have p60:(2:Int)^60<10^60:=by decide+kernel
 obtain⟨a0,a1⟩:=va B1 gs
 have ixX:∀{H1:Hp}{R:VK}(i:Nat),i<5->ar H H1->(∀x:Int,R (.int x) H1)->az K (.ref L) (.int (i:Int)) H1 R:=fun{H1 R} i hi S r=>by
  have hx:ns[i]?=some (ns[i]'(by omega)):=IR (by omega)
  exact ixL (j:=i) (S _ _ hL) rfl (by rw[Jr,hx];rfl) (r _)
 obtain⟨o1,o2⟩:=iH so
 have dp:(du (.tup (st.map stD))).depth<=150:=by show JA _+1<=150;omega
 have okk:okP (.inl k)=true:=decide_eq_true ⟨k0,by have:=jQ (k:=B.toNat) (by omega);omega⟩
 have bD:∀(H1:Hp),ar H H1->yk K A {nx:=fun _ H'=>Q .non H',rt:=Q} [some (.ref L),some (.int B),some (.int k),some (.ref p),some (.int (bR 0 (st.map stD))),none,none,none,none] H1:=by
  intro H1 S1
  generalize hpl:bR 0 (st.map stD)=l at*
  have leaf:∀(H2:Hp)(x:Int)(σ:L2.St),ar H H2->0<=x->x<2^B.toNat->aJ B x l=aJ B k l->σ=[some (.ref L),some (.int B),some (.int k),some (.ref p),some (.int l),some (.int (B- l)),none,none,some (.int x)]->rS K A {nx:=fun _ H'=>Q .non H',rt:=Q} σ H2:=by
   rintro H2 x σ S2 x0 x1 xs rfl
   refine ixX 2 (by decide) S2 fun y=>⟨y,rfl,fun z H3 S3 vz=>⟨aF (n:=3) (by decide),fun t ht=>?_⟩⟩
   have okx:okP (.inl x)=true:=decide_eq_true ⟨x0,by have:=jQ (k:=B.toNat) (by omega);omega⟩
   refine q t [.inr "leaf",.inl x,.inr z] _ (S2.trans (S3.trans (ar.upd ht))) al ?_ (vb a0 a1 x0 x1 xs vz.2)
   exact HZ (BG "leaf" (by decide+kernel) (by decide+kernel)) okx (by show(cm z&&decide (z.length<=100000))=true;rw[vz.1,decide_eq_true (by have:=vz.2;omega)];rfl) rfl
  have near:∀(H2:Hp),ar H H2->yz K A {nx:=fun _ H'=>Q .non H',rt:=Q} [some (.ref L),some (.int B),some (.int k),some (.ref p),some (.int l),some (.int (B- l)),none,none,none] H2:=by
   intro H2 S2
   refine ixX 0 (by decide) S2 fun y=>⟨by decide,Sel.dec (fun h=>?_) (fun h=>?_)⟩
   ·refine Sel.dec (fun h'=>?_) (fun h'=>?_)
    ·have h':0<B- l:=h'
     refine ixX 1 (by decide) S2 fun y1=>⟨by omega,?_⟩
     obtain⟨j,hj⟩:=JW (Ll y1 (b:=B- l) (by omega))
     have hj1:=KH y1 (b:=B- l) (by omega)
     refine⟨⟨by omega,by omega,by decide⟩,?_⟩
     rw[hj]
     obtain⟨y,ey,e1,e2,e3,e4⟩:=qy (x:=k) (j:=j) (n:=(B- l).toNat) (m:=B.toNat) (by omega) k0 k1 (by omega)
     have hjt:((j:Nat):Int).toNat=j:=by omega
     show rS K A _ [some (.ref L),some (.int B),some (.int k),some (.ref p),some (.int l),some (.int (B- l)),none,none,some (.int (Mf k (1*2^((j:Nat):Int).toNat)))] H2
     rw[hjt,ey]
     exact leaf H2 y _ S2 e3 e4 e1 rfl
    ·exact leaf H2 k _ S2 k0 k1 rfl rfl
   ·exact Sel.f (leaf H2 k _ S2 k0 k1 rfl rfl)
  refine ixX 0 (by decide) S1 fun y=>⟨by decide,?_⟩
  have fork:∀(H2:Hp),ar H H2->yc K A {nx:=fun _ H'=>Q .non H',rt:=Q} [some (.ref L),some (.int B),some (.int k),some (.ref p),some (.int l),some (.int (B- l)),none,none,none] H2:=by
   intro H2 S2
   refine ixX 0 (by decide) S2 fun y=>⟨by decide,Sel.dec (fun h=>?_) (fun h=>?_)⟩
   ·refine Sel.dec (fun h'=>?_) (fun h'=>near H2 S2)
    have h':1<B- l:=h'
    refine ixX 1 (by decide) S2 fun y1=>⟨by omega,?_⟩
    have r0:=Ll y1 (b:=B- l- 1) (by omega)
    have r1:=KH y1 (b:=B- l- 1) (by omega)
    generalize y1%(B- l- 1)=r at r0 r1⊢
    refine⟨by omega,ixX 2 (by decide) S2 fun y2=>⟨by omega,?_⟩⟩
    obtain⟨j,hj⟩:=JW (Ll y2 (b:=l+1+r- l) (by omega))
    have hj1:=KH y2 (b:=l+1+r- l) (by omega)
    refine⟨⟨by omega,by omega,by decide⟩,?_⟩
    rw[hj]
    have hjt:((j:Nat):Int).toNat=j:=by omega
    have st0:0<=aJ B k (l+1+r):=lW k0
    have st1:aJ B k (l+1+r)<2^(l+1+r).toNat:=ml (by omega) (by omega) k1
    obtain⟨bb,ey,e1,e2,e3,e4⟩:=qy (x:=aJ B k (l+1+r)) (j:=j) (n:=(l+1+r- l).toNat) (m:=(l+1+r).toNat) (by omega) st0 st1 (by omega)
    rw[hjt]
    show(aI (bx (af (tC (.str "fork")) (af (ae 6) (af (ae 7) (af (ax (iB K A) (fun _=>E0) (af (tOp (az K) (ae 0) (tC (.int 3))) (ak))) (af (ax (iB K A) (fun _=>E0) (af (tOp (az K) (ae 0) (tC (.int 4))) (ak))) (ak))))))):TS) _ [some (.ref L),some (.int B),some (.int k),some (.ref p),some (.int l),some (.int (B- l)),some (.int (l+1+r)),some (.int (Mf (aJ B k (l+1+r)) (1*2^j))),none] H2
    rw[ey]
    refine ixX 3 (by decide) S2 fun y3=>⟨y3,rfl,fun m1 H3 S3 hm1=>ixX 4 (by decide) (S2.trans S3) fun y4=>⟨y4,rfl,fun m2 H4 S4 hm2=>⟨aF (n:=5) (by decide),fun t ht=>?_⟩⟩⟩
    have p6:=jQ (k:=(l+1+r).toNat) (by omega)
    refine q t [.inr "fork",.inl (l+1+r),.inl bb,m1,m2] _ (S2.trans (S3.trans (S4.trans (ar.upd ht)))) al ?_ ?_
    ·exact xN lR.1 (decide_eq_true ⟨by omega,by omega⟩) (decide_eq_true ⟨e3,by omega⟩) (fQ hm1) (fQ hm2) rfl
    ·refine xM (by omega) (by omega) e3 e4 ?_ e2 (fM (fQ hm1)) (fM (fQ hm2))
     rw[e1];exact qa (by omega) (by omega)
   ·exact Sel.f (near H2 S2)
  refine Sel.dec (fun h=>?_) (fun h=>Sel.f (fork H1 S1))
  refine⟨aF (n:=0) (by decide),fun t0 ht0=>?_⟩
  have S2:=S1.trans (ar.upd (o:=.tup []) ht0)
  refine .inr (.inl ⟨_,.tuple [],(w.mono S2).toV (by exact o1),.tup (SqT.of al) .nil,eQ (by exact o1),rfl,dp,?_⟩)
  rw[ri]
  refine Sel.dec (fun h'=>?_) (fun h'=>fork _ S2)
  refine⟨aF (n:=1) (by decide),fun t ht=>?_⟩
  refine q t [.inr "bare"] _ (S2.trans (ar.upd ht)) al (by decide+kernel) ?_
  subst h'
  have e0:l=0:=hpl.symm
  subst e0;rfl
 refine⟨aF (n:=0) (by decide),fun t0 ht0=>?_⟩
 have S1:=ar.upd (o:=.tup []) ht0
 refine⟨_,.tuple [],(w.mono S1).toV (by exact o1),.tup (SqT.of al) .nil,eQ (by exact o1),rfl,dp,?_⟩
 rw[ri]
 by_cases hn:st=[]
 ·rw[decide_eq_true hn]
  have:=bD _ S1
  subst hn
  exact Sel.no rfl this
 ·rw[decide_eq_false hn]
  refine Sel.yes rfl ?_
  obtain⟨s,hs⟩:∃s,st.getLast?=some s:=⟨_,OF hn⟩
  obtain⟨xs,pq,hp,hx,hq⟩:=qu w hs
  refine zk (S1 _ _ hp) hx (ixT (j:=0) (S1 _ _ hq) rfl rfl ?_)
  have e:bR 0 (st.map stD)=s.1+1:=by unfold bR;rw[Ov,hs];rfl
  have:=bD _ S1
  rw[e]at this;exact this
theorem dC {H:Hp}:∀ks:List Key,DatWs H (ks.map kV) (ks.map aT)
 |[]=>.nil
 |x::r=>.cons (je x) (dC r)
def eP {H H':Hp}{a:Addr}{xs:List V}(h:SqL K H a xs)(S:ar H H'):SqL K H' a xs:=by
 rcases h with h|h
 ·exact .inl (h.imp (fun e=>S _ _ e) fun⟨o,e⟩=>⟨o,S _ _ e⟩)
 ·exact .inr h
def DT (K:If)(A:Adr):Ln (rB K A) 1:=by rintro vs H Q E ⟨a,ns,rfl,_⟩;rfl
def Hg (T:Txt K mg A):Rd (rB K A) (T_4 K A) ["_law_script","_law_bits","_law_key_here","_law_cell","_law_count","_law_turns_here","_law_xs","_law_steps_here","_law_marks"]:=by
 intro vs H Q E h
 obtain⟨a,ns,rfl,hs,q⟩:=h
 have b0:0<=cg ns 0%60:=by omega
 have b1:cg ns 0%60<60:=by omega
 refine⟨a,ns,0,rfl,hs,by decide,by decide,?_⟩
 obtain⟨BB,hB⟩:∃BB:Nat,1+cg ns 0%60=(BB:Int):=⟨(1+cg ns 0%60).toNat,by omega⟩
 have hB1:1<=BB:=by omega
 have hB60:BB<=60:=by omega
 show yo K A _ [some (.ref a),some (.int (1+cg ns 0%60)),none,none,none,none,none,none,none] H
 rw[hB]
 refine⟨a,ns,1,rfl,hs,by decide,_,BB,rfl,hB1,hB60,fun k hk=>?_⟩
 refine⟨a,ns,2,rfl,hs,by decide,?_⟩
 generalize cg ns 2=cc
 refine⟨⟨by decide,by decide⟩,⟨by decide,by decide,by decide⟩,aF (n:=4) (by decide),fun D hD=>⟨by decide,?_⟩⟩
 have S1:=ar.upd (o:=.lst [V.int 9,.int 9,.int 100,.int (1*2^(60:Int).toNat- 1)]) hD
 refine wK al (by omega) (by show cc%4<((4:Nat):Int);omega) fun v hv=>?_
 generalize upd H D (.lst [V.int 9,.int 9,.int 100,.int (1*2^(60:Int).toNat- 1)])=H1 at S1
 obtain⟨md,rfl,d0,d1⟩:∃i:Int,v=.int i/\1<=i/\i<=2^60- 1:=by
  simp only[IY,Jl,or_false]at hv
  rcases hv with rfl|rfl|rfl|rfl
  ·exact⟨_,rfl,by decide,by decide⟩
  ·exact⟨_,rfl,by decide,by decide⟩
  ·exact⟨_,rfl,by decide,by decide⟩
  ·exact⟨_,rfl,by decide,by decide⟩
 refine⟨by omega,?_⟩
 have c0:=Ll (cc/4) (b:=md) (by omega)
 have c1:=KH (cc/4) (b:=md) (by omega)
 obtain⟨c,hc⟩:∃c:Nat,1+cc/4%md=(c:Int):=⟨(1+cc/4%md).toNat,by omega⟩
 have hc1:1<=c:=by omega
 have hc2:c<2^60:=by omega
 show yd K A _ [some (.ref a),some (.int (BB:Int)),some (.int (k:Int)),some (.int cc),some (.int (1+cc/4%md)),none,none,none,none] H1
 rw[hc]
 refine⟨a,ns,3,rfl,eP hs S1,by decide,by omega,?_⟩
 have p0:=Ll (cg ns 3) (b:=(c:Int)) (by omega)
 have p1:=KH (cg ns 3) (b:=(c:Int)) (by omega)
 obtain⟨p,hp⟩:∃p:Nat,cg ns 3%(c:Int)=(p:Int):=⟨(cg ns 3%(c:Int)).toNat,by omega⟩
 rw[hp]
 refine⟨p,c,rfl,by omega,by omega,fun W hW=>?_⟩
 have S2:=S1.trans (ar.upd (o:=.lst ((bi c p).map V.int)) hW)
 have hW2:upd H1 W (.lst ((bi c p).map V.int)) W=some (.lst ((bi c p).map V.int)):=al
 generalize upd H1 W (.lst ((bi c p).map V.int))=H2 at S2 hW2
 have wl:(bi c p).length<=60:=dm _ _ _
 generalize hts:bi c p=ts at*
 refine⟨a,ns,4,rfl,eP hs S2,by decide,_,100,rfl,by decide,by decide,fun X xs H3 S3 hXn xl hX=>?_⟩
 have xl:xs.length=100:=by omega
 have S23:=S2.trans S3
 have h90:xs[90]?=some (xs[90]'(by omega)):=IR (by omega)
 refine ixL (j:=90) (x:=.int (xs[90]'(by omega))) hX rfl (by rw[Jr,h90];rfl) ⟨by decide,?_⟩
 refine⟨X,xs,_,_,rfl,hX,by omega,by omega,by omega,by omega,by omega,fun s st H4 S4 ws gs sm=>?_⟩
 have hX4:=S4 _ _ hX
 have hW4:=S4 _ _ (S3 _ _ hW2)
 refine⟨20,rfl,.inl (.inl ⟨_,SqL.of hW4,_,rfl,.inl (.inl ⟨X,_,rfl,SqL.of hX4,fun Y hY=>?_⟩)⟩)⟩
 rw[IU,show(20:Int)+(ts.length:Int)=((20+ts.length:Nat):Int)by omega,show(20:Int)=((20:Nat):Int)from rfl,Ak,IU,<-MM,<-Nq]
 obtain⟨es,he,hel⟩:∃es:List Int,(xs.drop (min 20 xs.length)).take (min (20+ts.length) xs.length- min 20 xs.length)=es/\es.length=ts.length:=⟨_,rfl,by rw[Jz,Ku];omega⟩
 rw[he]
 have S5:=S4.trans (ar.upd (o:=.lst (es.map V.int)) hY)
 have S45:=ar.upd (o:=.lst (es.map V.int)) hY
 have hY5:upd H4 Y (.lst (es.map V.int)) Y=some (.lst (es.map V.int)):=al
 generalize upd H4 Y (.lst (es.map V.int))=H5 at S5 S45 hY5
 refine⟨Y,rfl,.inl ⟨⟨_,SqL.of hY5⟩,fun D2 hD2=>?_⟩⟩
 have nY:Y≠D2:=ay hY5 hD2
 refine jS (ci.list (xs:=es.map V.int) .non) (fun i ys H'=>∃ks:List Key,ys=ks.map kV/\ks.length=i/\(∀x∈ks,smK x)/\(∀x o,x≠D2->H5 x=some o->H' x=some o)/\H' D2=some (.lst ys)) (fun i ys H' hi ⟨ks,_,_,_,kp,_⟩=>SqL.of (kp _ _ nY hY5)) ⟨[],rfl,rfl,(fun _ h=>nomatch h),fun x o n e=>by rw[ap n];exact e,al⟩ (fun i ys H' hi ⟨ks,e1,e2,e3,kp,hd⟩=>?_) (fun ys H' ⟨ks,e1,e2,e3,kp,hd⟩=>?_)
 ·have hi':i<es.length:=by rw[IU]at hi;exact hi
  have hg:(es.map V.int).getD i .non=.int es[i]:=by rw[Jk,Jr,IR hi'];rfl
  rw[hg]
  refine pB ⟨_,rfl,fun m H6 S6 hm=>⟨S6 _ _ hd,by rw[e1,IU];exact bL (by omega),CWd.next hi ⟨ks++[m],by rw[e1,JD];rfl,by rw[Jg,e2];rfl,fun x hx=>?_,fun x o n e=>by rw[ap n];exact S6 _ _ (kp x o n e),al⟩⟩⟩
  rcases Ka.mp hx with h|h
  ·exact e3 x h
  ·rw[JJ.mp h];exact hm
 subst e1
 rw[IU]at e2
 have hD5:H4 D2=none:=jO S45 hD2
 have S6:ar H4 H':=fun x o e=>kp x o (ay e hD5) (S45 _ _ e)
 refine⟨D2,_,rfl,.inl ⟨SqL.of hd,fun M hM=>?_⟩⟩
 have S7:=S6.trans (ar.upd (o:=.tup (ks.map kV)) hM)
 have hM7:upd H' M (.tup (ks.map kV)) M=some (.tup (ks.map kV)):=al
 generalize upd H' M (.tup (ks.map kV))=H7 at S7 hM7
 refine⟨91,rfl,.inl (.inl ⟨X,_,rfl,SqL.of (S7 _ _ hX4),fun Z hZ=>?_⟩)⟩
 rw[show(91:Int)=((91:Nat):Int)from rfl,kj,<-MM]
 have S8:=ar.upd (o:=.lst ((xs.drop 91).map V.int)) hZ
 have k0:(0:Int)<=(k:Int):=by omega
 have kB:(k:Int)<2^((BB:Int)).toNat:=by rw[show((BB:Int)).toNat=BB by omega,<-gi];omega
 have okS:∀s∈st,okP s.2=true:=fun s h=>fQ (sm s h)
 refine⟨Z,s,xs.drop 91,_,_,st,rfl,al,by rw[Ku];omega,by omega,by omega,k0,kB,(ws.mono S7).mono S8,gs,okS,fun t e H9 S9 ht ok en=>?_⟩
 refine⟨aF (n:=2) (by decide),fun w hw=>⟨aF (n:=2) (by decide),fun P hP=>⟨aF (n:=5) (by decide),fun R hR=>?_⟩⟩⟩
 have SA:=S7.trans (S8.trans (S9.trans ((ar.upd (o:=.tup [.ref s,.ref t]) hw).trans ((ar.upd (o:=.tup [.ref M,.ref w]) hP).trans (ar.upd (o:=.lst [V.int (BB:Int),.int (k:Int),.int (c:Int),.ref W,.ref P]) hR)))))
 have SB:=(ar.upd (o:=.tup [.ref s,.ref t]) hw).trans ((ar.upd (o:=.tup [.ref M,.ref w]) hP).trans (ar.upd (o:=.lst [V.int (BB:Int),.int (k:Int),.int (c:Int),.ref W,.ref P]) hR))
 have SC:=(ar.upd (o:=.tup [.ref M,.ref w]) hP).trans (ar.upd (o:=.lst [V.int (BB:Int),.int (k:Int),.int (c:Int),.ref W,.ref P]) hR)
 have SD:=ar.upd (o:=.lst [V.int (BB:Int),.int (k:Int),.int (c:Int),.ref W,.ref P]) hR
 refine q R W P _ _ c p ks st e _ (S23.trans (S4.trans SA)) al hp.symm (by omega) hc2 (by rw[hts];exact SA _ _ hW4) ⟨?_,?_,by rw[hts,e2,hel],fun x hx=>fQ (e3 x hx)⟩ e3 sm
 ·refine .tup (SD _ _ al) (.cons (.tup (SB _ _ (S9 _ _ (S8 _ _ hM7))) ?_) (.cons (.tup (SC _ _ al) (.cons (ws.mono SA) (.cons (.tup (SB _ _ ht) ?_) .nil))) .nil))
  ·exact dC ks
  ·exact dC e
 ·exact⟨by omega,by omega,k0,kB,gs,okS,ok,en⟩
def Cw (K:If)(A:Adr):Ln (mP K A) 2:=by rintro vs H Q E ⟨P,i,m,B,k,ks,st,e,rfl,_⟩;rfl
def Ft (T:Txt K mg A):Rd (mP K A) (HJ K A) ["_law_paper","_law_at","_law_steps_here"]:=by
 intro vs H Q E h
 obtain⟨P,i,m,B,k,ks,st,e,rfl,pp,hi,q⟩:=h
 obtain⟨TT,w,hP,hT,sw⟩:=gB pp
 obtain⟨a,s,t,xs,rfl,ha,hs,ws,ht⟩:=fB sw
 have hxl:xs.length=st.length:=by rw[ws.len];simp
 have fin:∀z:Int,0<=z->z<=(st.length:Int)+(ks.length:Int)+1->Q (.int z) H:=fun z h0 h1=>by
  obtain⟨j,rfl⟩:=JW h0
  exact q j (by omega)
 refine ixT (j:=1) hP rfl rfl (ixT (j:=0) ha rfl rfl (.inl (.inr (.inl ⟨_,SqT.of hs,?_⟩))))
 rw[hxl]
 refine Sel.dec (fun h=>fin 0 (by omega) (by omega)) (fun h=>?_)
 have h:¬(i:Int)=0:=h
 refine Sel.dec (fun h'=>?_) (fun h'=>?_)
 ·have h':(i:Int)<=(st.length:Int):=h'
  exact fin _ (by omega) (by omega)
 ·have h':¬(i:Int)<=(st.length:Int):=h'
  refine ixT (j:=0) hP rfl rfl (.inl (.inr (.inl ⟨_,SqT.of hT,?_⟩)))
  rw[IU]
  exact fin _ (by omega) (by omega)
def yg {H:Hp}{a:Addr}{xs:List V}{i:Nat}{R:VK}(ha:H a=some (.tup xs))(q:∀(p:Addr)(H':Hp),ar H H'->H' p=some (.tup (xs.take i))->R (.ref p) H'):fJ K (.ref a) none (some (i:Int)) H R:=by
 refine .inl (.inr ⟨a,xs,rfl,ha,fun p H' S hp=>q p H' S ?_⟩)
 rw[pJ]at hp;exact hp
def qU {H:Hp}{a:Addr}{xs:List V}{i:Nat}{R:VK}(ha:H a=some (.tup xs))(q:∀(p:Addr)(H':Hp),ar H H'->H' p=some (.tup (xs.drop i))->R (.ref p) H'):fJ K (.ref a) (some (i:Int)) none H R:=by
 refine .inl (.inr ⟨a,xs,rfl,ha,fun p H' S hp=>q p H' S ?_⟩)
 rw[kj]at hp;exact hp
theorem oZ {H:Hp}:∀{xs ys:List V}{ds es:List Dat},DatWs H xs ds->DatWs H ys es->DatWs H (xs++ys) (ds++es)
 |_,_,_,_,.nil,h=>h
 |_,_,_,_,.cons a r,h=>.cons a (oZ r h)
theorem jc {H:Hp}:∀{xs:List V}{ds:List Dat}(i:Nat),DatWs H xs ds->DatWs H (xs.take i) (ds.take i)/\DatWs H (xs.drop i) (ds.drop i)
 |_,_,0,h=>⟨.nil,h⟩
 |_,_,i+1,.nil=>⟨.nil,.nil⟩
 |_,_,i+1,.cons a r=>let ⟨x,y⟩:=jc i r;⟨.cons a x,y⟩
theorem jn {B:Int}{d:Int}{m w:Key}{r:List (Int×Key)}(hw:okP w=true):∀(p:List (Int×Key))(low:Int),aQ B low ((p++(d,m)::r).map stD)=true->aQ B low ((p++(d,w)::r).map stD)=true
 |[],low,h=>by
  have h:((decide (low<=d/\d<B)&&bq (aT m))&&aQ B (d+1) (r.map stD))=true:=h
  rw[Jt,Jt]at h
  show((decide (low<=d/\d<B)&&bq (aT w))&&aQ B (d+1) (r.map stD))=true
  rw[h.1.1,h.2,(jL hw).2];rfl
 |s::p,low,h=>by
  have h:(bz B low (stD s)&&aQ B (dy (stD s)+1) ((p++(d,m)::r).map stD))=true:=h
  rw[Jt]at h
  show(bz B low (stD s)&&aQ B (dy (stD s)+1) ((p++(d,w)::r).map stD))=true
  rw[h.1,jn hw p _ h.2];rfl
def tw (d:Int)(m w:Key)(p r:List (Int×Key)):bR 0 ((p++(d,w)::r).map stD)=bR 0 ((p++(d,m)::r).map stD):=by
 unfold bR
 rw[Ov,Ov,Qw,Qw]
 cases r with
 |nil=>rfl
 |cons s r=>rw[Nr,Nr]
def cT.put {B k d:Int}{m w:Key}{p r:List (Int×Key)}{e:List Key}(g:cT B k (p++(d,m)::r) e)(hw:okP w=true):cT B k (p++(d,w)::r) e:=
 ⟨g.b1,g.b60,g.k0,g.k1,jn hw p 0 g.gs,fun s hs=>by
  rcases Ka.mp hs with h|h
  ·exact g.so s (Lf _ h)
  ·rcases IY.mp h with rfl|h
   ·exact hw
   ·exact g.so s (Jv _ (Je _ h)),g.et,by rw[tw d m w];exact g.en⟩
def wL {α:Type}{l:List α}{i:Nat}{x:α}(h:l[i]?=some x):l=l.take i++x::l.drop (i+1):=by
 obtain⟨hi,rfl⟩:=IW.mp h
 rw[List.getElem_cons_drop,List.take_append_drop]
def sJ {H:Hp}{a b:Addr}{xs ys:List V}{R:VK}(ha:H a=some (.tup xs))(hb:H b=some (.tup ys))(hl:xs.length+ys.length<=900)(q:∀(p:Addr)(H':Hp),ar H H'->H' p=some (.tup (xs++ys))->R (.ref p) H'):bo K (.ref a) (.ref b) H R:=
 .inr ⟨a,b,xs,ys,rfl,rfl,ha,hb,Lz (bL (by omega)),q⟩
def Gi (K:If)(A:Adr):Ln (sK K A) 3:=by rintro vs H Q E ⟨P,t,i,m,B,k,ks,st,e,e2,rfl,_⟩;rfl
def IJ (T:Txt K mg A):Rd (sK K A) (T_8 K A) ["_law_paper","_law_at","_law_other_here","_law_marks","_law_slip","_law_steps_here","_law_end_here","_law_step","_law_k"]:=by
 intro vs H Q E h
 obtain⟨P,t2,i,m,B,k,ks,st,e,e2,rfl,pp,m60,smk,sms,hi,ht2,g2,q⟩:=h
 have gl:=pp.g.len
 have kl:=pp.kl
 obtain⟨TT,w,hP,hT,sw⟩:=gB pp
 obtain⟨a,s,t,xs,rfl,ha,hs,ws,ht⟩:=fB sw
 have hxl:xs.length=st.length:=by rw[ws.len];simp
 refine⟨P,_,rfl,SqT.of hP,rfl,_,_,rfl,_,_,rfl,rfl,a,_,rfl,SqT.of ha,rfl,_,_,rfl,_,_,rfl,rfl,?_⟩
 have mk:∀(H1:Hp)(T' s' t':Addr)(ks':List Key)(xs':List V)(st':List (Int×Key))(e':List Key),ar H H1->H1 T'=some (.tup (ks'.map kV))->H1 s'=some (.tup xs')->DatWs H1 xs' (st'.map stD)->H1 t'=some (.tup (e'.map kV))->cT B k st' e'->ks'.length=m->(∀x∈ks',okP x=true)->
   ∀(w:Addr),H1 w=none->∀P',upd H1 w (.tup [.ref s',.ref t']) P'=none->Q (.ref P') (upd (upd H1 w (.tup [.ref s',.ref t'])) P' (.tup [.ref T',.ref w])):=fun H1 T' s' t' ks' xs' st' e' S1 h1 h2 h3 h4 g' l' o' w hw P' hP'=>by
  have Sw:=ar.upd (o:=.tup [V.ref s',.ref t']) hw
  have SP:=ar.upd (o:=.tup [V.ref T',.ref w]) hP'
  have SS:=Sw.trans SP
  refine q P' ks' st' e' _ (S1.trans SS) ⟨.tup al (.cons (.tup (SS _ _ h1) (dC ks')) (.cons (.tup (SP _ _ al) (.cons (.tup (SS _ _ h2) (h3.mono SS)) (.cons (.tup (SS _ _ h4) (dC e')) .nil))) .nil)),g',l',o'⟩
 refine Sel.dec (fun h=>?_) (fun h=>?_)
 ·refine⟨aF (n:=2) (by decide),fun w hw=>⟨aF (n:=2) (by decide),fun P' hP'=>?_⟩⟩
  exact mk H TT s t2 ks xs st e2 (.refl H) hT hs ws ht2 g2 kl pp.ke w hw P' hP'
 have h:¬(i:Int)=0:=h
 refine .inl (.inr (.inl ⟨_,SqT.of hs,?_⟩))
 rw[hxl]
 refine Sel.dec (fun h'=>?_) (fun h'=>?_)
 ·have h':(i:Int)<=(st.length:Int):=h'
  have ei:(i:Int)- 1=((i- 1:Nat):Int):=by omega
  obtain⟨x,hx⟩:∃x,xs[i- 1]?=some x:=⟨_,IR (by omega)⟩
  obtain⟨sk,p1,hsk,rfl,hp1⟩:=kX ws hx
  have hxx:xs[i- 1]?=some (.ref p1):=hx
  have ix:∀{H1:Hp}{R:VK}(j:Nat)(v:V),ar H H1->[V.int sk.1,kV sk.2][j]?=some v->R v H1->az K (.ref s) (.int ((i:Int)- 1)) H1 fun x H2=>az K x (.int (j:Int)) H2 R:=fun{H1 R} j v S hv r=>ixT (j:=i- 1) (S _ _ hs) ei hxx (ixT (j:=j) (S _ _ hp1) rfl hv r)
  refine ix 0 _ (.refl H) rfl (ix 1 _ (.refl H) rfl ⟨sk.2,rfl,sms sk (Jq hsk),fun wk okw=>⟨aF (n:=2) (by decide),fun p2 hp2=>?_⟩⟩)
  have S1:=ar.upd (o:=.tup [V.int sk.1,kV wk]) hp2
  have hp21:upd H p2 (.tup [V.int sk.1,kV wk]) p2=some (.tup [V.int sk.1,kV wk]):=al
  generalize upd H p2 (.tup [V.int sk.1,kV wk])=H1 at S1 hp21
  refine⟨((i- 1:Nat):Int),by rw[<-ei],yg (S1 _ _ hs) fun p3 H3 S3 hp3=>⟨aF (n:=1) (by decide),fun p4 hp4=>?_⟩⟩
  have S4:=S3.trans (ar.upd (o:=.tup [V.ref p2]) hp4)
  refine sJ (ar.upd hp4 _ _ hp3) al (by rw[Jz];simp;omega) fun p5 H5 S5 hp5=>?_
  have S15:=S1.trans (S4.trans S5)
  refine⟨(i:Int),rfl,qU (S15 _ _ hs) fun p6 H6 S6 hp6=>sJ (S6 _ _ hp5) hp6 (by rw[Jg,Jz,Ku];simp;omega) fun p7 H7 S7 hp7=>⟨aF (n:=2) (by decide),fun w hw=>⟨aF (n:=2) (by decide),fun P' hP'=>?_⟩⟩⟩
  have S17:=S15.trans (S6.trans S7)
  have est:=wL hsk
  obtain⟨d1,d2⟩:=jc (i- 1) (ws.mono S17)
  obtain⟨_,d3⟩:=jc i (ws.mono S17)
  have hii:i- 1+1=i:=by omega
  rw[hii]at est
  have g0:=pp.g
  rw[est]at g0
  have g':cT B k (st.take (i- 1)++(sk.1,wk)::st.drop i) e:=cT.put (m:=sk.2) g0 okw
  refine mk H7 TT p7 t ks _ (st.take (i- 1)++(sk.1,wk)::st.drop i) e S17 (S17 _ _ hT) hp7 ?_ (S17 _ _ ht) g' kl pp.ke w hw P' hP'
  rw[JD,JY,<-Nq,<-MM]at*
  rw[KP]
  exact oZ d1 (.cons (.tup (((S4.trans (S5.trans (S6.trans S7))) _ _ hp21)) (.cons (.int _) (.cons (je _) .nil))) d3)
 ·have h':¬(i:Int)<=(st.length:Int):=h'
  refine .inl (.inr (.inl ⟨_,SqT.of hs,?_⟩))
  rw[hxl]
  obtain⟨j,hj⟩:∃j:Nat,(i:Int)- 1- (st.length:Int)=(j:Int):=⟨i- 1- st.length,by omega⟩
  show yA K A _ [some (.ref P),some (.int (i:Int)),some (.ref t2),some (.ref TT),some (.ref a),some (.ref s),some (.ref t),none,some (.int ((i:Int)- 1- (st.length:Int)))] H
  rw[hj]
  have hjk:j<ks.length:=by omega
  obtain⟨x,hx⟩:∃x,ks[j]?=some x:=⟨_,IR hjk⟩
  refine⟨(j:Int),rfl,yg hT fun p3 H3 S3 hp3=>ixT (j:=j) (S3 _ _ hT) rfl (x:=kV x) (by rw[Jr,hx];rfl) ⟨x,rfl,smk x (Jq hx),fun wk okw=>⟨aF (n:=1) (by decide),fun p4 hp4=>?_⟩⟩⟩
  have S4:=S3.trans (ar.upd (o:=.tup [kV wk]) hp4)
  refine sJ (ar.upd hp4 _ _ hp3) al (by rw[Jz,IU];simp;omega) fun p5 H5 S5 hp5=>?_
  have S15:=S4.trans S5
  refine⟨((j+1:Nat):Int),by show V.int ((j:Int)+1)=_;rw[show(j:Int)+1=((j+1:Nat):Int)by omega],qU (S15 _ _ hT) fun p6 H6 S6 hp6=>sJ (S6 _ _ hp5) hp6 (by rw[Jg,Jz,Ku,IU];simp;omega) fun p7 H7 S7 hp7=>⟨aF (n:=2) (by decide),fun P' hP'=>?_⟩⟩
  have S17:=S15.trans (S6.trans S7)
  have SP:=ar.upd (o:=.tup [V.ref p7,.ref a]) hP'
  refine q P' (ks.take j++wk::ks.drop (j+1)) st e _ (S17.trans SP) ⟨.tup al (.cons (.tup (SP _ _ hp7) ?_) (.cons ((sw.1.mono S17).mono SP) .nil)),pp.g,?_,fun y hy=>?_⟩
  ·rw[<-Nq,<-MM,KP,show[kV wk]++(ks.drop (j+1)).map kV=(wk::ks.drop (j+1)).map kV from rfl,<-JD]
   exact dC _
  ·rw[Jg,Jz,JU,Ku];omega
  ·rcases Ka.mp hy with h|h
   ·exact pp.ke y (NL h)
   ·rcases IY.mp h with rfl|h
    ·exact okw
    ·exact pp.ke y (List.mem_of_mem_drop h)
section
variable {K:If}{mg:Str->Option Gt}{A:Adr}
structure TL (H:Hp)(M:Addr)(g:gOp)(e:List Key)(os:List (Key->List Key))(ps:List Addr)(tt:List (List Key)):Prop where
 hM:H M=some (.lst (ps.map V.ref))
 pk:PK H ps tt
 len:tt.length=os.length+1
 eq:∀h,Ext g h->tt=cU h e os
def TL.kb {H H':Hp}{f b M:Addr}{d:Kd}{g g':gOp}{n:Nat}{e:List Key}{os:List (Key->List Key)}{ps:List Addr}{tt:List (List Key)}(t:TL H M g e os ps tt)(s:Stp A H f b d g n)(kb:aG b H H')(sub:Sub g g'):TL H' M g' e os ps tt:=
 ⟨aG.lst s kb _ _ t.hM,t.pk.keep (aG.tup s kb),t.len,fun h eh=>t.eq h (Ext.of sub eh)⟩
def TL.same {H H':Hp}{M:Addr}{g:gOp}{e:List Key}{os:List (Key->List Key)}{ps:List Addr}{tt:List (List Key)}(t:TL H M g e os ps tt)(S:ar H H'):TL H' M g e os ps tt:=
 ⟨S _ _ t.hM,t.pk.keep fun x xs e=>S _ _ e,t.len,t.eq⟩
def TL.last {H:Hp}{M:Addr}{g:gOp}{e:List Key}{os:List (Key->List Key)}{ps:List Addr}{tt:List (List Key)}(t:TL H M g e os ps tt):∃qs p pre x,ps=qs++[p]/\tt=pre++[x]/\tt.dropLast=pre/\H p=some (.tup (x.map kV))/\okT x=true/\H M=some (.lst (qs.map V.ref++[.ref p])):=by
 obtain⟨pre,x,ex,hd⟩:=jE (l:=tt) (by have:=t.len;omega)
 have pk:=t.pk
 rw[ex]at pk
 obtain⟨qs,p,rfl,pk'⟩:=km pk
 obtain⟨hp,ok⟩:=ij (il pk) pk
 exact⟨qs,p,pre,x,rfl,ex,hd,hp,ok,by rw[t.hM,JD];rfl⟩
def pU {H:Hp}{M N:Addr}{ps rs:List Addr}{tt:List (List Key)}(hM:H M=some (.lst (ps.map V.ref)))(hN:H N=some (.lst (rs.map V.ref)))(p1:PK H ps tt)(p2:PK H rs tt):∃d e:QB,dz K H (.ref M) d/\dz K H (.ref N) e/\d.canLay0=true/\e.canLay0=true/\d.depth<=150/\d.eqv e=true:=by
 obtain⟨l1,d1⟩:=lZ p1
 exact⟨.list _,.list _,.lst (SqL.of hM) (gR p1),.lst (SqL.of hN) (gR p2),l1,l1,by show JA _+1<=150;omega,mv tt⟩
theorem da:∀ks:List Key,toPys (ks.map aT)=ks.map bA
 |[]=>rfl
 |.inl i::r=>by show PyData.int i::toPys (r.map aT)=_;rw[da r];rfl
 |.inr z::r=>by show PyData.str z::toPys (r.map aT)=_;rw[da r];rfl
theorem lV:∀s1 s2:List (Int×Key),KN (toPys (s1.map stD)) (toPys (s2.map stD))=decide (s1=s2)
 |[],[]=>rfl
 |[],_::_=>by rw[decide_eq_false (by simp)];rfl
 |_::_,[]=>by rw[decide_eq_false (by simp)];rfl
 |a::r,b::s=>by
  show(KN (toPys ([LR a.1,a.2].map aT)) (toPys ([LR b.1,b.2].map aT))&&KN (toPys (r.map stD)) (toPys (s.map stD)))=_
  rw[da,da,cH,lV r s,<-Bool.decide_and]
  obtain⟨a1,a2⟩:=a
  obtain⟨b1,b2⟩:=b
  simp[and_assoc]
def Ad (ks1 ks2:List Key)(st1 st2:List (Int×Key))(e1 e2:List Key):(du (oy ks1 st1 e1)).eqv (du (oy ks2 st2 e2))=decide (ks1=ks2/\st1=st2/\e1=e2):=by
 show(KN (toPys (ks1.map aT)) (toPys (ks2.map aT))&&((KN (toPys (st1.map stD)) (toPys (st2.map stD))&&(KN (toPys (e1.map aT)) (toPys (e2.map aT))&&true))&&true))=_
 rw[da,da,da,da,cH,cH,lV]
 simp
def BW {ks:List Key}(h:∀x∈ks,okP x=true):ks.all okP=true:=Kv.mpr h
def Pap.ok {H:Hp}{P:Addr}{B k:Int}{m:Nat}{ks:List Key}{st:List (Int×Key)}{e:List Key}(h:Pap H P B k m ks st e):okD (oy ks st e)=true/\(du (oy ks st e)).depth<=150:=by
 obtain⟨o1,o2⟩:=iH h.g.so
 refine⟨?_,?_⟩
 ·show(okDs (ks.map aT)&&((okDs (st.map stD)&&(okDs (e.map aT)&&true))&&true))=true
  rw[gM (BW h.ke),o1,gM (ls h.g.et)];rfl
 ·show max (JA (toPys (ks.map aT))+1) (max (max (JA (toPys (st.map stD))+1) (max (JA (toPys (e.map aT))+1) 0)+1) 0)+1<=150
  rw[jI,jI];omega
def qz {H:Hp}{R:VK}{P1 P2:Addr}{B k:Int}{m:Nat}{ks1 ks2:List Key}{st1 st2:List (Int×Key)}{e1 e2:List Key}(p1:Pap H P1 B k m ks1 st1 e1)(p2:Pap H P2 B k m ks2 st2 e2)(q:R (.bl (decide (ks1=ks2/\st1=st2/\e1=e2))) H):bw K (.ref P1) (.ref P2) H R:=by
 obtain⟨o1,d1⟩:=p1.ok
 obtain⟨o2,_⟩:=p2.ok
 refine .inr (.inl ⟨_,_,p1.w.toV o1,p2.w.toV o2,eQ o1,eQ o2,d1,?_⟩)
 rw[Ad];exact q
structure Lw (K:If)(H:Hp)(a W P1 P2:Addr)(ns:List Int)(B k:Int)(c p:Nat)(ks1:List Key)(st1:List (Int×Key))(e1:List Key)(ks2:List Key)(st2:List (Int×Key))(e2:List Key):Prop where
 sc:SqL K H a (ns.map V.int)
 hW:H W=some (.lst ((bi c p).map V.int))
 lp:p<c
 c2:c<2^60
 p1:Pap H P1 B k (bi c p).length ks1 st1 e1
 p2:Pap H P2 B k (bi c p).length ks2 st2 e2
def CK {H H':Hp}{f b a:Addr}{d:Kd}{g:gOp}{n:Nat}{xs:List V}(h:SqL K H a xs)(s:Stp A H f b d g n)(kb:aG b H H'):SqL K H' a xs:=by
 rcases h with h|h
 ·refine .inl (h.imp (fun e=>kb _ _ (s.nb e (nbL _)) e) fun⟨o,e⟩=>⟨o,kb _ _ (s.nb e ?_) e⟩)
  rintro(⟨_,z⟩|⟨_,z⟩)<;>cases z
 ·exact .inr h
variable {a W P1 P2:Addr}{ns:List Int}{B k:Int}{c p:Nat}{ks1:List Key}{st1:List (Int×Key)}{e1:List Key}{ks2:List Key}{st2:List (Int×Key)}{e2:List Key}
def Lw.kb {H H':Hp}{f b:Addr}{d:Kd}{g:gOp}{n:Nat}(l:Lw K H a W P1 P2 ns B k c p ks1 st1 e1 ks2 st2 e2)(s:Stp A H f b d g n)(kb:aG b H H'):Lw K H' a W P1 P2 ns B k c p ks1 st1 e1 ks2 st2 e2:=
 ⟨CK l.sc s kb,aG.lst s kb _ _ l.hW,l.lp,l.c2,l.p1.kb s kb,l.p2.kb s kb⟩
def Lw.same {H H':Hp}(l:Lw K H a W P1 P2 ns B k c p ks1 st1 e1 ks2 st2 e2)(S:ar H H'):Lw K H' a W P1 P2 ns B k c p ks1 st1 e1 ks2 st2 e2:=
 ⟨eP l.sc S,S _ _ l.hW,l.lp,l.c2,l.p1.same S,l.p2.same S⟩
def Ct {Q:VK}{H:Hp}{f b hd M1 M2:Addr}{d:Kd}{g:gOp}{n:Nat}{mk w:Key}{wy:Int}{ps1 ps2:List Addr}{tt1 tt2:List (List Key)}{x7 x8 x9 x11 x13 x14 x15 x16 x17:Option V}
  (l:Lw K H a W P1 P2 ns B k c p ks1 st1 e1 ks2 st2 e2)(s:Stp A H f b d g n)(hn:n<=30000)(wd:wy=0->d=.sur)(hh:H hd=some (.tup [.int (c:Int),kV mk]))(okm:okP mk=true)(okw:okP w=true)
  (t1:TL H M1 g e1 (bH B k c st1 (bi c p) ks1) ps1 tt1)(t2:TL H M2 g e2 (bH B k c st2 (bi c p) ks2) ps2 tt2)(td1:∀x∈tt1,∃v,g x=some v)(td2:∀x∈tt2,∃v,g x=some v)
  (em:∀h,Ext g h->mk=h (eS h e1 (bH B k c st1 (bi c p) ks1)))(ew:∀h,Ext g h->w=h (eS h e2 (bH B k c st2 (bi c p) ks2)))(q:∀H',Q (.bl true) H'):
  qx K A {nx:=fun _ H'=>Q .non H',rt:=Q} [some (.ref a),some (.int B),some (.int k),some (.int (c:Int)),some (.ref W),some (.ref P1),some (.int (p:Int)),x7,x8,x9,some (.ref P2),x11,some (.int wy),x13,x14,x15,x16,x17,some (.ref f),some (.ref hd),some (.ref M1),some (.ref M2),some (kV w)] H:=by
 refine ixT (j:=1) hh rfl rfl ⟨f,b,hd,P1,d,B,k,c,p,mk,mk,ks1,st1,e1,g,n,rfl,l.p1,l.lp,l.c2,hh,okm,okm,s,by omega,em,fun g1 H1 kb1 s1 sub1=>Sel.no rfl ?_⟩
 have l1:=l.kb s kb1
 have hh1:=aG.tup s kb1 _ _ hh
 refine⟨f,b,hd,P2,d,B,k,c,p,mk,w,ks2,st2,e2,g1,_,rfl,l1.p2,l.lp,l.c2,hh1,okm,okw,s1,by omega,fun h eh=>ew h (Ext.of sub1 eh),fun g2 H2 kb2 s2 sub2=>Sel.no rfl ?_⟩
 have l2:=l1.kb s1 kb2
 have hh2:=aG.tup s1 kb2 _ _ hh1
 have u1:=(t1.kb s kb1 sub1).kb s1 kb2 sub2
 have u2:=(t2.kb s kb1 sub1).kb s1 kb2 sub2
 have sub:=sub1.trans sub2
 have one:∀h,Ext g2 h->(∀x∈tt1++tt2,∀y∈tt1++tt2,h x=h y->x=y)->w=mk->ks1=ks2/\st1=st2/\e1=e2:=fun h eh inj e=>by
  rw[u1.eq h eh,u2.eq h eh]at inj
  refine wI l.p1.g l.p2.g l.p1.kl l.p2.kl inj ?_
  rw[<-em h (Ext.of sub eh),<-ew h (Ext.of sub eh),e]
 have same:(ks1=ks2/\st1=st2/\e1=e2)->w=mk:=by
  rintro⟨rfl,rfl,rfl⟩
  have x:=Ext.refl' g
  rw[ew _ x,em _ x]
 have last:qA K A {nx:=fun _ H'=>Q .non H',rt:=Q} [some (.ref a),some (.int B),some (.int k),some (.int (c:Int)),some (.ref W),some (.ref P1),some (.int (p:Int)),x7,x8,x9,some (.ref P2),x11,some (.int wy),x13,x14,x15,x16,x17,some (.ref f),some (.ref hd),some (.ref M1),some (.ref M2),some (kV w)] H2:=by
  refine ixT (j:=1) hh2 rfl rfl (gN ?_)
  by_cases e:w=mk
  ·rw[decide_eq_true e]
   refine Sel.no rfl (qz l2.p1 l2.p2 ?_)
   refine Sel.dec (fun h=>q _) (fun h=>?_)
   have h:¬(ks1=ks2/\st1=st2/\e1=e2):=h
   have l1':=fb u1.pk
   have l2':=fb u2.pk
   have ol1:=fw (B:=B) (k:=k) (c:=(c:Int)) (st:=st1) l.p1.kl
   have ol2:=fw (B:=B) (k:=k) (c:=(c:Int)) (st:=st2) l.p2.kl
   have wl:(bi c p).length<=60:=dm _ _ _
   have gl1:=l.p1.g.len
   have gl2:=l.p2.g.len
   have n1:=u1.len
   have n2:=u2.len
   refine .inl ⟨M1,M2,_,_,rfl,rfl,u1.hM,u2.hM,?_,fun R hR=>?_⟩
   ·rw[IU,IU];exact Lz (bL (by omega))
   have S3:=ar.upd (o:=.lst (ps1.map V.ref++ps2.map V.ref)) hR
   refine⟨f,b,R,d,ps1++ps2,tt1++tt2,g2,_,rfl,s2.same (IV _) S3,by rw[al,JD],iE (u1.pk.keep fun x xs e=>S3 _ _ e) (u2.pk.keep fun x xs e=>S3 _ _ e),by rw[Jg];omega,by omega,fun hf eh=>?_,q⟩
   refine Ls fun no=>h (one hf eh (fun x hx y hy exy=>?_) e)
   exact Ls fun ne=>no ⟨x,hx,y,hy,ne,exy⟩
  ·rw[decide_eq_false e]
   exact Sel.yes rfl (Sel.t (q _))
 refine Sel.dec (fun h0=>?_) (fun h0=>Sel.f last)
 have h0:wy=0:=h0
 refine ixT (j:=1) hh2 rfl rfl (pW (qz l2.p1 l2.p2 ?_))
 have sur:=wd h0
 subst sur
 have iff:w=mk↔(ks1=ks2/\st1=st2/\e1=e2):=by
  refine⟨fun e=>one _ (Ext.refl' g2) (fun x hx y hy exy=>?_) e,same⟩
  have td:∀x∈tt1++tt2,∃v,g2 x=some v:=fun x hx=>by
   rcases Ka.mp hx with h|h
   ·obtain⟨v,hv⟩:=td1 x h;exact⟨v,sub _ _ hv⟩
   ·obtain⟨v,hv⟩:=td2 x h;exact⟨v,sub _ _ hv⟩
  obtain⟨v,hv⟩:=td x hx
  obtain⟨v',hv'⟩:=td y hy
  have exy:(g2 x).getD (.inl 0)=(g2 y).getD (.inl 0):=exy
  rw[hv,hv']at exy
  have exy:v=v':=exy
  subst exy
  exact s2.inj hv hv'
 have ed:decide (w=mk)=decide (ks1=ks2/\st1=st2/\e1=e2):=decide_eq_decide.mpr iff
 rw[ed]
 show Sel (!decide (decide (ks1=ks2/\st1=st2/\e1=e2)=decide (ks1=ks2/\st1=st2/\e1=e2))) _ _
 rw[decide_eq_true rfl]
 exact Sel.no rfl last
end
section
variable {K:If}{mg:Str->Option Gt}{A:Adr}
variable {a W P1 P2:Addr}{ns:List Int}{B k:Int}{c p:Nat}{ks1:List Key}{st1:List (Int×Key)}{e1:List Key}{ks2:List Key}{st2:List (Int×Key)}{e2:List Key}
def oF {g g':gOp}{tt pre:List (List Key)}{x:List Key}{v:Key}(ex:tt=pre++[x])(hd:tt.dropLast=pre)(td:∀y∈tt.dropLast,∃v,g y=some v)(sub:Sub g g')(gv:g' x=some v):∀y∈tt,∃v,g' y=some v:=fun y hy=>by
 rw[ex]at hy
 rcases Ka.mp hy with h|h
 ·obtain⟨w,hw⟩:=td y (by rw[hd];exact h);exact⟨w,sub _ _ hw⟩
 ·rw[JJ.mp h];exact⟨v,gv⟩
def AV {Q:VK}{H:Hp}{f b:Addr}{d:Kd}{g:gOp}{n:Nat}{wy:Int}{x7 x8 x9 x11 x13 x14 x15 x16 x17:Option V}
  (l:Lw K H a W P1 P2 ns B k c p ks1 st1 e1 ks2 st2 e2)(s:Stp A H f b d g n)(hn:n<=1000)(wd:wy=0->d=.sur)(q:∀H',Q (.bl true) H'):
  rc K A {nx:=fun _ H'=>Q .non H',rt:=Q} [some (.ref a),some (.int B),some (.int k),some (.int (c:Int)),some (.ref W),some (.ref P1),some (.int (p:Int)),x7,x8,x9,some (.ref P2),x11,some (.int wy),x13,x14,x15,x16,x17,some (.ref f),none,none,none,none] H:=by
 have wl:(bi c p).length<=60:=dm _ _ _
 have w01:∀t∈bi c p,t=0\/t=1:=kW _ _ _
 refine⟨f,b,P1,W,d,B,k,c,bi c p,ks1,st1,e1,g,n,rfl,l.p1,l.hW,w01,wl,l.c2,s,by omega,fun M ps tt g1 H1 kb1 s1 sub1 _ hM pk len td eq=>?_⟩
 have t1:TL H1 M g1 e1 (bH B k c st1 (bi c p) ks1) ps tt:=⟨hM,pk,len,eq⟩
 have l1:=l.kb s kb1
 obtain⟨qs,pc,pre,x,_,ex,hdl,hpc,ok,hMl⟩:=t1.last
 refine⟨f,rfl,s1.clo,ii hMl ?_⟩
 dsimp only[ak]
 refine eV s1 (by omega) hpc ok fun mk H2 g2 kb2 s2 sub2 gv2 sv2=>⟨aF (n:=2) (by decide),fun hd hhd=>?_⟩
 have S2:=ar.upd (o:=.tup [V.int (c:Int),kV mk]) hhd
 have hh:upd H2 hd (.tup [V.int (c:Int),kV mk]) hd=some (.tup [V.int (c:Int),kV mk]):=al
 have l2:=(l1.kb s1 kb2).same S2
 have t2:=(t1.kb s1 kb2 sub2).same S2
 have s2':=s2.same (IV _) S2
 generalize upd H2 hd (.tup [V.int (c:Int),kV mk])=H3 at S2 hh l2 t2 s2'
 have em:∀h,Ext g2 h->mk=h (eS h e1 (bH B k c st1 (bi c p) ks1)):=fun h eh=>by
  have e0:=eq h (Ext.of sub2 eh)
  rw[ex]at e0
  rw[<-ik e0];exact(eh _ _ gv2).symm
 refine⟨f,b,P1,d,B,k,c,p,ks1,st1,e1,g2,_,rfl,l2.p1,l.lp,l.c2,s2',by omega,fun M1 ps1 tt1 g4 H4 kb4 s4 sub4 _ hM1 pk1 len1 td1 eq1=>?_⟩
 have u1:TL H4 M1 g4 e1 (bH B k c st1 (bi c p) ks1) ps1 tt1:=⟨hM1,pk1,len1,eq1⟩
 have l4:=l2.kb s2' kb4
 refine⟨f,b,P2,d,B,k,c,p,ks2,st2,e2,g4,_,rfl,l4.p2,l.lp,l.c2,s4,by omega,fun M2 ps2 tt2 g5 H5 kb5 s5 sub5 _ hM2 pk2 len2 td2 eq2=>?_⟩
 have u2:TL H5 M2 g5 e2 (bH B k c st2 (bi c p) ks2) ps2 tt2:=⟨hM2,pk2,len2,eq2⟩
 have l5:=l4.kb s4 kb5
 have u1:=u1.kb s4 kb5 sub5
 have t5:=(t2.kb s2' kb4 sub4).kb s4 kb5 sub5
 have x5:=Ext.refl' g5
 have ett:tt1=tt:=by rw[u1.eq _ x5,t5.eq _ x5]
 subst ett
 obtain⟨dd,ee,v1,v2,c1,c2',dp,ev⟩:=pU (K:=K) u1.hM t5.hM u1.pk t5.pk
 refine⟨dd,ee,v1,v2,c1,c2',dp,?_⟩
 rw[ev]
 refine Sel.no rfl ?_
 refine⟨f,b,P2,W,d,B,k,c,bi c p,ks2,st2,e2,g5,_,rfl,l5.p2,l5.hW,w01,wl,l.c2,s5,by omega,fun M3 ps3 tt3 g6 H6 kb6 s6 sub6 _ hM3 pk3 len3 td3 eq3=>?_⟩
 have l6:=l5.kb s5 kb6
 have u1:=u1.kb s5 kb6 sub6
 have u2:=u2.kb s5 kb6 sub6
 have ett:tt2=tt3:=by rw[u2.eq _ (Ext.refl' g6),eq3 _ (Ext.refl' g6)]
 subst ett
 obtain⟨dd,ee,v1,v2,c1,c2',dp,ev⟩:=pU (K:=K) u2.hM hM3 u2.pk pk3
 refine⟨dd,ee,v1,v2,c1,c2',dp,?_⟩
 rw[ev]
 refine Sel.no rfl ?_
 obtain⟨qs2,pc2,pre2,y,_,ey,hdl2,hpc2,ok2,hMl2⟩:=u2.last
 refine⟨f,rfl,s6.clo,ii hMl2 ?_⟩
 dsimp only[ak]
 refine eV s6 (by omega) hpc2 ok2 fun w H7 g7 kb7 s7 sub7 gv7 sv7=>?_
 have sub27:Sub g2 g7:=sub4.trans (sub5.trans (sub6.trans sub7))
 have hh7:=aG.tup s6 kb7 _ _ (aG.tup s5 kb6 _ _ (aG.tup s4 kb5 _ _ (aG.tup s2' kb4 _ _ hh)))
 refine Ct (l6.kb s6 kb7) s7 (by omega) wd hh7 (eT sv2) (eT sv7) (u1.kb s6 kb7 sub7) (u2.kb s6 kb7 sub7) (fun z hz=>?_) (oF ey hdl2 (fun z hz=>?_) sub7 gv7) (fun h eh=>em h (Ext.of sub27 eh)) (fun h eh=>?_) q
 ·obtain⟨v,hv⟩:=oF ex hdl (fun z hz=>td z hz) sub2 gv2 z hz
  exact⟨v,sub27 _ _ hv⟩
 ·obtain⟨v,hv⟩:=td2 z hz;exact⟨v,sub6 _ _ hv⟩
 ·have e0:=u2.eq h (Ext.of sub7 eh)
  rw[ey]at e0
  rw[<-ik e0];exact(eh _ _ gv7).symm
end
section
variable {K:If}{mg:Str->Option Gt}{A:Adr}
variable {a W P1 P2:Addr}{ns:List Int}{B k:Int}{c p:Nat}{ks1:List Key}{st1:List (Int×Key)}{e1:List Key}{ks2:List Key}{st2:List (Int×Key)}{e2:List Key}
def iQ.keep {H H':Hp}(h:iQ A H)(k:∀z o,H z=some o->((∃ps,o=.tbl ps)\/∃φ,o=.ext φ)->H' z=some o):iQ A H':=by
 obtain⟨ps,h1,h2⟩:=h
 exact⟨ps,k _ _ h1 (.inl ⟨_,rfl⟩),h2.imp id fun⟨c,z1,z2⟩=>⟨c,z1,k _ _ z2 (.inr ⟨_,rfl⟩)⟩⟩
def Lw.kp {H H':Hp}{ps:Array Gt}(l:Lw K H a W P1 P2 ns B k c p ks1 st1 e1 ks2 st2 e2)(hP:H A.t_10=some (.tbl ps))(kp:dh A.t_10 H H'):Lw K H' a W P1 P2 ns B k c p ks1 st1 e1 ks2 st2 e2:=by
 have kk:∀x o,H x=some o->(∀ps,o≠.tbl ps)->H' x=some o:=fun x o e h=>kp x o e fun z=>by subst z;rw[hP]at e;exact h _ (Js e).symm
 have kd:∀x o,H x=some o->dO o->H' x=some o:=fun x o e h=>kk x o e (by rcases h with⟨_,rfl⟩|⟨_,rfl⟩|⟨_,rfl⟩<;>intro _ z<;>cases z)
 refine⟨?_,kk _ _ l.hW (fun _ z=>nomatch z),l.lp,l.c2,⟨l.p1.w.kp kd,l.p1.g,l.p1.kl,l.p1.ke⟩,⟨l.p2.w.kp kd,l.p2.g,l.p2.kl,l.p2.ke⟩⟩
 rcases l.sc with h|h
 ·exact .inl (h.imp (fun e=>kk _ _ e (fun _ z=>nomatch z)) fun⟨o,e⟩=>⟨o,kk _ _ e (fun _ z=>nomatch z)⟩)
 ·exact .inr h
def GC {Q:VK}{H:Hp}{i:Nat}{x7 x8 x11:Option V}(l:Lw K H a W P1 P2 ns B k c p ks1 st1 e1 ks2 st2 e2)(hi:i<=st1.length+ks1.length)(tb:iQ A H)(q:∀H',Q (.bl true) H'):
  oq K A {nx:=fun _ H'=>Q .non H',rt:=Q} [some (.ref a),some (.int B),some (.int k),some (.int (c:Int)),some (.ref W),some (.ref P1),some (.int (p:Int)),x7,x8,some (.int (i:Int)),some (.ref P2),x11,none,none,none,none,none,none,none,none,none,none,none] H:=by
 have wl:(bi c p).length<=60:=dm _ _ _
 have w01:∀t∈bi c p,t=0\/t=1:=kW _ _ _
 have gl1:=l.p1.g.len
 have gl2:=l.p2.g.len
 have kl1:=l.p1.kl
 have ol1:=fw (B:=B) (k:=k) (c:=(c:Int)) (st:=st1) l.p1.kl
 have ol2:=fw (B:=B) (k:=k) (c:=(c:Int)) (st:=st2) l.p2.kl
 refine⟨a,ns,7,rfl,l.sc,by decide,by decide,.inr fun bk hbk=>?_⟩
 have S1:=ar.upd (o:=.dT []) hbk
 have hb1:upd H bk (.dT []) bk=some (.dT (cw [])):=al
 have l1:=l.same S1
 have tb1:=tb.keep fun z o e _=>S1 z o e
 generalize upd H bk (.dT [])=H1 at S1 hb1 l1 tb1
 refine⟨aF (n:=0) (by decide),fun o1 ho1=>⟨aF (n:=0) (by decide),fun o2 ho2=>?_⟩⟩
 have S2:=(ar.upd (o:=.tup []) ho1).trans (ar.upd (o:=.tup []) ho2)
 have l2:=l1.same S2
 have tb2:=tb1.keep fun z o e _=>S2 z o e
 have h1:upd (upd H1 o1 (.tup [])) o2 (.tup []) o1=some (.tup (([]:List Key).map kV)):=ar.upd ho2 _ _ al
 have h2:upd (upd H1 o1 (.tup [])) o2 (.tup []) o2=some (.tup (([]:List Key).map kV)):=al
 have hb2:=S2 _ _ hb1
 generalize upd (upd H1 o1 (.tup [])) o2 (.tup [])=H2 at S2 l2 tb2 h1 h2 hb2
 obtain⟨pt,hpt,_⟩:=id tb2
 refine⟨0,1,bk,.ref o1,.ref o2,[],0,rfl,tb2,hb2,IV _,vq,Lin.nil,by decide,by decide,by decide,by decide,⟨o1,o2,[],[],rfl,rfl,h1,h2⟩,fun f b d g H3 kp tb3 s3 wd=>?_⟩
 obtain⟨rfl,rfl⟩:=wd rfl
 have tb3:=tb3 rfl
 have l3:=l2.kp hpt kp
 refine⟨P1,i,_,B,k,ks1,st1,e1,rfl,l3.p1,hi,fun j hj=>?_⟩
 refine⟨f,b,P1,W,.sur,B,k,c,bi c p,ks1,st1,e1,g,0,rfl,l3.p1,l3.hW,w01,wl,l.c2,s3,by omega,fun M1 ps1 tt1 g4 H4 kb4 s4 sub4 _ hM1 pk1 len1 td1 eq1=>?_⟩
 have l4:=l3.kb s3 kb4
 have tbk:∀{H H':Hp}{g:gOp}{n:Nat},Stp A H f b .sur g n->aG b H H'->iQ A H->iQ A H':=fun{H H' g n} s kb tb=>tb.keep fun z o e h=>kb _ _ (fun z'=>by
  subst z'
  obtain⟨kvs,hb,_⟩:=s.tab
  rw[hb]at e
  rcases h with⟨_,rfl⟩|⟨_,rfl⟩<;>cases e) e
 have tb4:=tbk s3 kb4 tb3
 have lt1:=fb pk1
 obtain⟨pj,hpj⟩:∃pj,ps1[j]?=some pj:=⟨_,IR (by omega)⟩
 obtain⟨t1,ht1,hpj4,okt1⟩:=sM pk1 hpj
 refine ixL (j:=j) (x:=.ref pj) hM1 rfl (by rw[Jr,hpj];rfl) ?_
 refine⟨f,b,P2,W,.sur,B,k,c,bi c p,ks2,st2,e2,g4,_,rfl,l4.p2,l4.hW,w01,wl,l.c2,s4,by omega,fun M2 ps2 tt2 g5 H5 kb5 s5 sub5 _ hM2 pk2 len2 td2 eq2=>?_⟩
 have l5:=l4.kb s4 kb5
 have tb5:=tbk s4 kb5 tb4
 have hpj5:=aG.tup s4 kb5 _ _ hpj4
 have lt2:=fb pk2
 obtain⟨kvs,hb5,hl5,sm5,li5⟩:=s5.tab
 obtain⟨pt5,hpt5,_⟩:=id tb5
 have w0:0<=cg ns 7%3:=by omega
 have w2:cg ns 7%3<=2:=by omega
 have go:∀(o2:Addr)(t2:List Key),H5 o2=some (.tup (t2.map kV))->qG K A {nx:=fun _ H'=>Q .non H',rt:=Q} [some (.ref a),some (.int B),some (.int k),some (.int (c:Int)),some (.ref W),some (.ref P1),some (.int (p:Int)),x7,x8,some (.int (j:Int)),some (.ref P2),x11,some (.int (cg ns 7%3)),some (.ref b),some (.ref f),some (.ref pj),some (.ref o2),some (.ref M2),none,none,none,none,none] H5:=fun o2 t2 ho2=>by
  refine⟨a,ns,7,rfl,l5.sc,by decide,⟨by decide,by decide⟩,by decide,?_⟩
  refine⟨_,_,b,.ref pj,.ref o2,kvs,_,rfl,tb5,hb5,hl5,sm5,li5,w0,w2,by omega,by omega,⟨pj,o2,t1,t2,rfl,rfl,hpj5,ho2⟩,fun f' b' d g' H6 kp6 _ s6 wd=>?_⟩
  exact AV (l5.kp hpt5 kp6) s6 (by omega) (fun z=>(wd z).2) q
 refine .inl (.inl ⟨_,SqL.of hM2,?_⟩)
 rw[IU]
 refine Sel.dec (fun h=>?_) (fun h=>?_)
 ·have h:(j:Int)<(ps2.length:Int):=h
  obtain⟨pq,hpq⟩:∃pq,ps2[j]?=some pq:=⟨_,IR (by omega)⟩
  obtain⟨t2,_,hpq5,_⟩:=sM pk2 hpq
  exact ixL (j:=j) (x:=.ref pq) hM2 rfl (by rw[Jr,hpq];rfl) (go pq t2 hpq5)
 ·exact go pj t1 hpj5
def Dn (K:If)(A:Adr):Ln (nQ K A) 1:=by rintro vs H Q E ⟨a,ns,rfl,_⟩;rfl
def EY (T:Txt K mg A):Rd (nQ K A) (HW K A) ["_law_script","_law_bits","_law_key_here","_law_count","_law_turns_here","_law_paper","_law_place","_law_ys","_law_steps_here","_law_at","_law_other_here","_law_more","_law_way","_law_book","_law_sure","_law_one","_law_two","_law_due","_law_stamper_here","_law_head","_law_terms_here","_law_others","_law_came"]:=by
 intro vs H Q E h
 obtain⟨a,ns,rfl,hs,_,⟨t0,_⟩,q⟩:=h
 have tb0:iQ A H:=⟨#[],t0,.inl rfl⟩
 refine⟨a,ns,rfl,hs,fun R W P B k c p ks st e H1 S1 hR hp lp c2 hW pp smk sms=>?_⟩
 have tb1:=tb0.keep fun z o e _=>S1 z o e
 refine⟨R,_,rfl,SqL.of hR,rfl,_,_,rfl,_,_,rfl,_,_,rfl,_,_,rfl,_,_,rfl,rfl,?_⟩
 have gd:=pp.g
 have kl:=pp.kl
 have wl:(bi c p).length<=60:=dm _ _ _
 refine⟨a,ns,3,rfl,eP hs S1,by decide,by omega,?_⟩
 rw[<-hp]
 refine⟨a,ns,5,rfl,eP hs S1,by decide,_,30,rfl,by decide,by decide,fun Y ys H2 S2 hYn yl hY=>?_⟩
 have yl:ys.length=30:=by omega
 have pp2:=pp.same S2
 obtain⟨TT,w,hP,hT,sw⟩:=gB pp2
 obtain⟨b,s,t,xs,rfl,hb,hs2,ws,ht⟩:=fB sw
 have hxl:xs.length=st.length:=by rw[ws.len];simp
 have S12:=S1.trans S2
 refine ixT (j:=1) hP rfl rfl (ixT (j:=0) hb rfl rfl ⟨a,ns,6,rfl,eP hs S12,by decide,.inl (.inr (.inl ⟨_,SqT.of hs2,ixT (j:=0) hP rfl rfl (.inl (.inr (.inl ⟨_,SqT.of hT,?_⟩)))⟩))⟩)
 rw[hxl,IU]
 refine⟨by omega,?_⟩
 have i0:=Ll (cg ns 6) (b:=1+(st.length:Int)+(ks.length:Int)) (by omega)
 have i1:=KH (cg ns 6) (b:=1+(st.length:Int)+(ks.length:Int)) (by omega)
 obtain⟨i,hi⟩:=JW i0
 have wst:bj H2 (.ref s) (.tup (st.map stD)):=.tup hs2 ws
 show uR K A _ [some (.ref a),some (.int B),some (.int k),some (.int (c:Int)),some (.ref W),some (.ref P),some (.int (p:Int)),some (.ref Y),some (.ref s),some (.int (cg ns 6%(1+(st.length:Int)+(ks.length:Int)))),none,none,none,none,none,none,none,none,none,none,none,none,none] H2
 rw[hi]
 refine⟨Y,s,ys,B,k,st,rfl,hY,by omega,gd.b1,gd.b60,gd.k0,gd.k1,wst,gd.gs,gd.so,fun t2 e2 H3 S3 ht2 ok2 en2=>?_⟩
 have g2:cT B k st e2:=⟨gd.b1,gd.b60,gd.k0,gd.k1,gd.gs,gd.so,ok2,en2⟩
 refine⟨P,t2,i,_,B,k,ks,st,e,e2,rfl,pp2.same S3,wl,smk,sms,by omega,ht2,g2,fun P2 ks2 st2 e2' H4 S4 pq=>?_⟩
 have S14:=S12.trans (S3.trans S4)
 have hY4:=S4 _ _ (S3 _ _ hY)
 have h9:ys[9]?=some (ys[9]'(by omega)):=IR (by omega)
 have ix9:∀{H':Hp}{R:VK},H' Y=some (.lst (ys.map V.int))->R (.int (ys[9]'(by omega))) H'->az K (.ref Y) (.int 9) H' R:=fun h r=>ixL (j:=9) h rfl (by rw[Jr,h9];rfl) r
 have fin:∀(H':Hp)(P2:Addr)(x11:Option V)(ks2:List Key)(st2:List (Int×Key))(e2:List Key),ar H4 H'->Pap H' P2 B k (bi c p).length ks2 st2 e2->oq K A {nx:=fun _ H'=>Q .non H',rt:=Q} [some (.ref a),some (.int B),some (.int k),some (.int (c:Int)),some (.ref W),some (.ref P),some (.int (p:Int)),some (.ref Y),some (.ref s),some (.int (i:Int)),some (.ref P2),x11,none,none,none,none,none,none,none,none,none,none,none] H':=fun H' P2 x11 ks2 st2 e2 S pq=>by
  have SS:=S2.trans (S3.trans (S4.trans S))
  exact GC (ns:=ns) ⟨eP hs (S1.trans SS),SS _ _ hW,lp,c2,pp.same SS,pq⟩ (by omega) (tb1.keep fun z o e _=>SS z o e) q
 refine ix9 hY4 ⟨by decide,Sel.dec (fun h=>?_) (fun h=>fin H4 P2 none ks2 st2 e2' (.refl _) pq)⟩
 refine⟨10,rfl,.inl (.inl ⟨Y,_,rfl,SqL.of hY4,fun Z hZ=>?_⟩)⟩
 rw[show(10:Int)=((10:Nat):Int)from rfl,kj,<-MM]
 have S5:=ar.upd (o:=.lst ((ys.drop 10).map V.int)) hZ
 refine ix9 (S5 _ _ hY4) ⟨by decide,?_⟩
 refine⟨Z,ys.drop 10,B,_,rfl,al,by rw[Ku];omega,gd.b1,gd.b60,by omega,by omega,fun s3 st3 H6 S6 ws3 gs3 sm3=>?_⟩
 have S56:=S5.trans S6
 have S26:=S3.trans (S4.trans S56)
 have ok3:∀s∈st3,okP s.2=true:=fun s h=>fQ (sm3 s h)
 refine ixT (j:=0) (S26 _ _ hP) rfl rfl ⟨Y,s3,ys,B,k,st3,rfl,S56 _ _ hY4,by omega,gd.b1,gd.b60,gd.k0,gd.k1,ws3,gs3,ok3,fun t3 e3 H7 S7 ht3 okt3 en3=>?_⟩
 refine⟨aF (n:=2) (by decide),fun w hw=>⟨aF (n:=2) (by decide),fun P3 hP3=>?_⟩⟩
 have Sw:=ar.upd (o:=.tup [V.ref s3,.ref t3]) hw
 have SP:=ar.upd (o:=.tup [V.ref TT,.ref w]) hP3
 have SwP:=Sw.trans SP
 refine fin _ P3 _ ks st3 e3 (S56.trans (S7.trans SwP)) ⟨.tup al (.cons (.tup (SwP _ _ (S7 _ _ (S26 _ _ hT))) (dC ks)) (.cons (.tup (SP _ _ al) (.cons ((ws3.mono S7).mono SwP) (.cons (.tup (SwP _ _ ht3) (dC e3)) .nil))) .nil)),⟨gd.b1,gd.b60,gd.k0,gd.k1,gs3,ok3,okt3,en3⟩,kl,pp.ke⟩
end
section
structure TP (P:Jd)(w:JL)(K:If)(mg:Str->Option Gt)(base:Heap)(A:Adr):Prop extends Txt K mg A where
 B:BM mg base
 C_10:NR base A.k_10 A.t_10
variable {P:Jd}{w:JL}{K:If}{mg:Str->Option Gt}{base:Heap}{A:Adr}(T:TP P w K mg base A)
include T
def Fg (f c:Addr)(cl:List (Str×Addr))(Ar:JK)(outer:List Env)(s:IQ)(H:Hp)(E:XK)
  (hr:bC 0 (Ar.deeper (OO eZ.qual eZ.scope s.heap.objs.size f (.ref c) cl))):PE (jU P w K mg base ["_law_term","_law_book"] eZ.qual eZ.scope f c cl Ar outer s H E).nox (gm wB) (Dw K A):=QE.out (
 dQ Nb Kj MF (jh hr.units1) (aa 1) (ac (aa 0) (ac (aw bu (aw dW (ag) (aN bX T.z_len JI (ac (aa 1) (ai)))) (ag)) (ai))))
def FV:gL P w K mg base 1 eZ (sd K A):=
 lM rfl Fk (fun f c cl Ar outer s H vs cvs Q E hr hl hc h=>by
  obtain⟨a0,rfl⟩:=L2.fL hl
  obtain⟨b0,rfl⟩:=L2.fL hc
  exact⟨_,(Fg T f c cl Ar outer s H E hr).nox,EJ T.1 a0 b0 H Q E h⟩)
def EW (f c:Addr)(cl:List (Str×Addr))(Ar:JK)(outer:List Env)(s:IQ)(H:Hp)(E:XK)
  (hr:bC 0 (Ar.deeper (OO gb.qual gb.scope s.heap.objs.size f (.ref c) cl))):PE (jU P w K mg base ["_law_those","_law_other_here","_law_one","_law_book"] gb.qual gb.scope f c cl Ar outer s H E).nox (gm wz) (AG K A):=QE.out (
 dQ Nb Kj MF (jh hr.units1) (aa 3) (ac (aA (aq hr.units1) (fe (ac (aa 0) (ac (aa 2) (ai)))) (fE BL T.z_int L2.uN (ac (db (bJ hr.units150) (aa 0) (aa 1)) (ai))) (fun _ _=>rfl)) (ac (aw bu (aw dW (ag) (aN bX T.z_len JI (ac (aa 3) (ai)))) (ag)) (ai))))
def Gd:gL P w K mg base 1 gb (rM K A):=
 lM rfl Ed (fun f c cl Ar outer s H vs cvs Q E hr hl hc h=>by
  obtain⟨a0,rfl⟩:=L2.fL hl
  obtain⟨b0,b1,b2,rfl⟩:=L2.sB hc
  exact⟨_,(EW T f c cl Ar outer s H E hr).nox,DJ T.1 a0 b0 b1 b2 H Q E h⟩)
def Fx:aV P w K mg base (CX1 P w) 1 A.a_16 A.d_16 ["_law_term"] (nJ K A):=
 T.f_16.f.okS gH (CY K A) (Fu T.1) fun _ _ _ _ _ _ hr=>
 aj (aB 1 gH.nd (ag)) (aj (iA 2 gH.nd (gF (aa 0)) (aj (aP (br (aN eC T.z_isinstance JS (ac (aa 2) (ac (eB T.z_str PN) (ai))))) (aj (aB 1 gH.nd (aw bu (aw dW (aa 1) (ag)) (aw dW (ag) (aN bX T.z_len JI (ac (aa 2) (ai)))))) (ao (iA 3 gH.nd (gF (dM eN (aa 2) (eE) (dB (ag)))) (ao (aB 1 gH.nd (aw bu (aw dW (aa 1) (ag)) (aN Hw T.z_ord boot_ord (ac (aa 3) (ai)))))) Kr))) (ao (aB 1 gH.nd (aw bu (aw dW (aa 1) (ag)) (aa 2))))) (ao (aB 1 gH.nd (aw bK (aa 1) (ag))))) Kr) (ao (aD (aa 1))))
def FI (f c:Addr)(cl:List (Str×Addr))(Ar:JK)(outer:List Env)(s:IQ)(H:Hp)(E:XK)
  (hr:bC 1 (Ar.deeper (OO gc.qual gc.scope s.heap.objs.size f (.ref c) cl))):PE (jU P w K mg base ["_law_these","_law_many"] gc.qual gc.scope f c cl Ar outer s H E).nox (gm vd) (Dm K A):=QE.out (
 aw bK (aH (Fx T) hr.le T.f_16 (ac (aa 0) (ai))) (aa 1))
def Fe:gL P w K mg base 2 gc (rL K A):=
 lM rfl FR (fun f c cl Ar outer s H vs cvs Q E hr hl hc h=>by
  obtain⟨a0,rfl⟩:=L2.fL hl
  obtain⟨b0,rfl⟩:=L2.fL hc
  exact⟨_,(FI T f c cl Ar outer s H E hr).nox,FG T.1 a0 b0 H Q E h⟩)
def gX:aV P w K mg base (CX1 P w) 1 A.a_2 A.d_2 ["_law_script","_law_k"] (fq K A):=
 T.f_2.f.okS HC (GU K A) (IA T.1) fun _ _ _ _ _ _ hr=>
 aj (aP (aK oLt (aa 1) (aN bX T.z_len JI (ac (aa 0) (ai)))) (ao (aD (aA (aq hr.units1) (aa 0) (aa 1) (fun _ _=>rfl)))) (aL)) (ao (aD (ag)))
def HV:aV P w K mg base (CX1 P w) 1 A.a_6 A.d_6 ["_law_cell","_law_bits"] (sN K A):=
 T.f_6.f.okS BR (GL K A) (Im T.1) fun _ _ _ _ _ _ hr=>
 aj (aB 2 BR.nd (aw iU (ag) (aa 1))) (aj (aP (aK (bJ hr.units150) (aw bK (aa 0) (ag)) (ag)) (ao (aD (aw bK (aw dL (aa 0) (ag)) (aa 2)))) (aL)) (aj (aP (aK (bJ hr.units150) (aw bK (aa 0) (ag)) (ag)) (ao (aD (aw bK (aw dW (aw dL (aa 0) (ag)) (ag)) (aa 2)))) (aL)) (ao (aD (aw cb (aw cb (aa 2) (ag)) (aw bK (aw dL (aa 0) (ag)) (aa 2)))))))
def Gy:aV P w K mg base (CX1 P w) 1 A.a_19 A.d_19 ["_law_place","_law_count"] (nG K A):=
 T.f_19.f.okS iv (Cp K A) (Fy T.1) fun _ _ _ _ _ _ hr=>
 aj (aB 2 iv.nd (fe (ai))) (aj (lG (aK oGt (aa 1) (ag)) (aj (aB 3 iv.nd (ag)) (aj (lG (aK oLt (aw dW (ag) (aa 3)) (aa 1)) (ao (aB 3 iv.nd (aw dW (ag) (aa 3)))) Kr) (ao (aP (aK oLt (aa 0) (aa 3)) (aj (cj (dQ JE Jy JB bG (aa 2) (ac (ag) (ai)))) (ao (aB 1 iv.nd (aa 3)))) (aj (cj (dQ JE Jy JB bG (aa 2) (ac (ag) (ai)))) (aj (aB 0 iv.nd (aw cb (aa 0) (aa 3))) (ao (aB 1 iv.nd (aw cb (aa 1) (aa 3)))))))))) Kr) (ao (aD (aa 2))))
def yJ:aV P w K mg base (CX1 P w) 1 A.a_15 A.d_15 ["_law_cell","_law_many"] (lj K A):=
 T.f_15.f.okS kK (Ds K A) (Ef T.1) fun _ _ _ _ _ _ hr=>
 aj (aB 2 kK.nd (fe (ai))) (aj (aB 3 kK.nd (aw bu (aw bK (aa 0) (ag)) (ag))) (aj (iA 4 kK.nd (oV T.z_range (ac (aa 1) (ai))) (aj (aB 3 kK.nd (aw bK (aw bu (aw bu (aw dW (aa 3) (ag)) (aw dW (ag) (aa 4))) (ag)) (ag))) (ao (cj (dQ JE Jy JB bG (aa 2) (ac (aw dL (aa 3) (ag)) (ai)))))) Kr) (ao (aD (aa 2)))))
def rj:aV P w K mg base (CX1 P w) 1 A.a_7 A.d_7 ["_law_number"] (iB K A):=
 T.f_7.f.okS Ie (DI K A) (Hz T.1) fun _ _ _ _ _ _ hr=>
 ao (aD (aA (aq hr.units1) (fe (ac (aw bK (aw dL (aa 0) (ag)) (ag)) (ac (fE HP T.z_str PN (ac (aw bK (aw dL (aa 0) (ag)) (ag)) (ai))) (ac (aw bK (aw dL (aa 0) (ag)) (ag)) (ac (aw dW (bU) (aw bK (aw dL (aa 0) (ag)) (ag))) (ai)))))) (aw bK (aa 0) (ag)) (fun _ _=>rfl)))
def yi:aV P w K mg base (CX1 P w) 2 A.a_14 A.d_14 ["_law_xs","_law_bits","_law_many"] (kM K A):=
 T.f_14.f.okS yq (BV K A) (Fl T.1) fun _ _ _ _ _ _ hr=>
 aj (aB 3 yq.nd (sZ rfl T.z_sorted boot_sorted T.z_set boot_set (ac (kR (ys:=["_law_bits"]) (by exact⟨rfl,by decide+kernel,by decide+kernel,rfl,by decide+kernel,by decide+kernel⟩) (by exact .cons rfl (by first|exact .inl rfl|exact .inr rfl) rfl (.nil)) (gF (dM eN (aa 0) (eE) (dB (aa 2)))) (fun Cc s H fp=>jk) (fun Cc s H fp=>(aw bK (aa 0) (aa 1)))) (ai)))) (ao (aD (fE sU T.z_tuple Mb (ac (Ah (ys:=[]) (by exact⟨rfl,by decide+kernel,by decide+kernel,rfl,rfl,by decide+kernel,by decide+kernel⟩) (by exact .nil) (AQ T.z_zip (ac (aa 3) (ac (dM eN (aa 0) (dB (aa 2)) (eE)) (ai)))) (fun Cc s H fp=>jk) (fun Cc s H fp=>(bp (ac (aa 0) (ac (aH (rj T) hr.le T.f_7 (ac (aa 1) (ai))) (ai)))))) (ai)))))
def EB:aV P w K mg base (CX1 P w) 1 A.a_20 A.d_20 ["_law_number"] (mT K A):=
 T.f_20.f.okS sy (CN K A) (DL T.1) fun _ _ _ _ _ _ hr=>
 aj (aB 1 sy.nd (bU)) (aj (aB 2 sy.nd (aw bu (aA (aq hr.units1) (fe (ac (ag) (ac (ag) (ac (ag) (ac (ag) (ai)))))) (aw bK (aa 0) (ag)) (fun _ _=>rfl)) (aw dW (ag) (fE BL T.z_int L2.uN (ac (db (bJ hr.units150) (aw bK (aw dL (aa 0) (ag)) (ag)) (ag)) (ai)))))) (ao (aD (dQ PySem.F.plainAttrs_str PySem.F.slot_str_join PySem.F.type_str_join zQ (bU) (ac (kR (ys:=["_law_number","_law_letters"]) (by exact⟨rfl,by decide+kernel,by decide+kernel,rfl,by decide+kernel,by decide+kernel⟩) (by exact .cons rfl (by first|exact .inl rfl|exact .inr rfl) rfl (.cons rfl (by first|exact .inl rfl|exact .inr rfl) rfl (.nil))) (oV T.z_range (ac (aa 2) (ai))) (fun Cc s H fp=>jk) (fun Cc s H fp=>(aA (aq hr.units1) (aa 2) (aw bK (aw bu (aw dL (aa 1) (ag)) (aw dW (ag) (aa 0))) (ag)) (fun _ _=>rfl)))) (ai))))))
def xV:aV P w K mg base (CX1 P w) 2 A.a_5 A.d_5 ["_law_xs","_law_bits","_law_key_here","_law_steps_here"] (lC K A):=
 T.f_5.f.okS jf (En K A) (HE T.1) fun _ _ _ _ _ _ hr=>
 aj (aB 4 jf.nd (ag)) (aj (aP (aK (dZ hr.units150) (aa 3) (bp (ai))) (ao (aB 4 jf.nd (aw bu (aA (aq hr.units1) (aA (aq hr.units1) (aa 3) (dE (ag)) (fun _ _=>rfl)) (ag) (fun _ _=>rfl)) (ag)))) (aL)) (aj (aB 5 jf.nd (aw cb (aa 1) (aa 4))) (aj (aP (x_w (ia (aK (bJ hr.units150) (aw bK (aA (aq hr.units1) (aa 0) (ag) (fun _ _=>rfl)) (ag)) (ag)) (gk (aK (bJ hr.units150) (aa 3) (bp (ai)))))) (ao (aD (bp (ac (bU) (ai))))) (aL)) (aj (aP (x_w (ia (aK (bJ hr.units150) (aw bK (aA (aq hr.units1) (aa 0) (ag) (fun _ _=>rfl)) (ag)) (ag)) (gk (aK oGt (aa 5) (ag))))) (aj (aB 6 jf.nd (aw bu (aw bu (aa 4) (ag)) (aw bK (aA (aq hr.units1) (aa 0) (ag) (fun _ _=>rfl)) (aw cb (aa 5) (ag))))) (aj (aB 7 jf.nd (aw CU (aw lI (aa 2) (aw cb (aa 1) (aa 6))) (aw iU (ag) (aw bK (aA (aq hr.units1) (aa 0) (ag) (fun _ _=>rfl)) (aw cb (aa 6) (aa 4)))))) (ao (aD (bp (ac (bU) (ac (aa 6) (ac (aa 7) (ac (aH (rj T) hr.le T.f_7 (ac (aA (aq hr.units1) (aa 0) (ag) (fun _ _=>rfl)) (ai))) (ac (aH (rj T) hr.le T.f_7 (ac (aA (aq hr.units1) (aa 0) (ag) (fun _ _=>rfl)) (ai))) (ai))))))))))) (aL)) (aj (aB 8 jf.nd (aa 2)) (aj (aP (x_w (ia (aK (bJ hr.units150) (aw bK (aA (aq hr.units1) (aa 0) (ag) (fun _ _=>rfl)) (ag)) (ag)) (gk (aK oGt (aa 5) (ag))))) (ao (aB 8 jf.nd (aw CU (aa 2) (aw iU (ag) (aw bK (aA (aq hr.units1) (aa 0) (ag) (fun _ _=>rfl)) (aa 5)))))) (aL)) (ao (aD (bp (ac (bU) (ac (aa 8) (ac (aH (EB T) hr.le T.f_20 (ac (aA (aq hr.units1) (aa 0) (ag) (fun _ _=>rfl)) (ai))) (ai)))))))))))))
def GX:aV P w K mg base (CX1 P w) 3 A.a_4 A.d_4 ["_law_script"] (rB K A):=
 T.f_4.f.okS iw (DT K A) (Hg T.1) fun _ _ _ _ _ _ hr=>
 aj (aB 1 iw.nd (aw bu (ag) (aw bK (aH (gX T) hr.le T.f_2 (ac (aa 0) (ac (ag) (ai)))) (ag)))) (aj (aB 2 iw.nd (aH (HV T) hr.le T.f_6 (ac (aH (gX T) hr.le T.f_2 (ac (aa 0) (ac (ag) (ai)))) (ac (aa 1) (ai))))) (aj (aB 3 iw.nd (aH (gX T) hr.le T.f_2 (ac (aa 0) (ac (ag) (ai))))) (aj (aB 4 iw.nd (aw bu (ag) (aw bK (aw dL (aa 3) (ag)) (aA (aq hr.units1) (fe (ac (ag) (ac (ag) (ac (ag) (ac (aw cb (aw iU (ag) (ag)) (ag)) (ai)))))) (aw bK (aa 3) (ag)) (fun _ _=>rfl))))) (aj (aB 5 iw.nd (aH (Gy T) hr.le T.f_19 (ac (aw bK (aH (gX T) hr.le T.f_2 (ac (aa 0) (ac (ag) (ai)))) (aa 4)) (ac (aa 4) (ai))))) (aj (aB 6 iw.nd (aH (yJ T) hr.le T.f_15 (ac (aH (gX T) hr.le T.f_2 (ac (aa 0) (ac (ag) (ai)))) (ac (ag) (ai))))) (aj (aB 7 iw.nd (aH (yi T) hr.le T.f_14 (ac (aa 6) (ac (aa 1) (ac (aw bK (aA (aq hr.units1) (aa 6) (ag) (fun _ _=>rfl)) (ag)) (ai)))))) (aj (aB 8 iw.nd (fE sU T.z_tuple Mb (ac (kR (ys:=[]) (by exact⟨rfl,by decide+kernel,by decide+kernel,rfl,by decide+kernel,by decide+kernel⟩) (by exact .nil) (gF (dM eN (aa 6) (dB (ag)) (dB (aw bu (ag) (aN bX T.z_len JI (ac (aa 5) (ai))))))) (fun Cc s H fp=>jk) (fun Cc s H fp=>(aH (rj T) hr.le T.f_7 (ac (aa 0) (ai))))) (ai)))) (ao (aD (fe (ac (aa 1) (ac (aa 2) (ac (aa 4) (ac (aa 5) (ac (bp (ac (aa 8) (ac (bp (ac (aa 7) (ac (aH (xV T) hr.le T.f_5 (ac (dM eN (aa 6) (dB (ag)) (eE)) (ac (aa 1) (ac (aa 2) (ac (aa 7) (ai)))))) (ai)))) (ai)))) (ai))))))))))))))))
def Dg:aV P w K mg base (CX1 P w) 1 A.a_9 A.d_9 ["_law_mark_here"] (oI K A):=
 T.f_9.f.okS Hi (Ec K A) (IF T.1) fun _ _ _ _ _ _ hr=>
 aj (aP (br (aN eC T.z_isinstance JS (ac (aa 0) (ac (eB T.z_str PN) (ai))))) (ao (aD (aw bu (aa 0) (bU)))) (aL)) (ao (aD (aw bu (aa 0) (ag))))
def IP:aV P w K mg base (CX1 P w) 2 A.a_8 A.d_8 ["_law_paper","_law_at","_law_other_here"] (sK K A):=
 T.f_8.f.okS oP (Gi K A) (IJ T.1) fun _ _ _ _ _ _ hr=>
 aj (pS 3 4 oP.nd rfl (aa 0)) (aj (pS 5 6 oP.nd rfl (aa 4)) (aj (aP (aK (bJ hr.units150) (aa 1) (ag)) (ao (aD (bp (ac (aa 3) (ac (bp (ac (aa 5) (ac (aa 2) (ai)))) (ai)))))) (aL)) (aj (aP (aK oLe (aa 1) (aN bX T.z_len JI (ac (aa 5) (ai)))) (aj (aB 7 oP.nd (bp (ac (aA (aq hr.units1) (aA (aq hr.units1) (aa 5) (aw cb (aa 1) (ag)) (fun _ _=>rfl)) (ag) (fun _ _=>rfl)) (ac (aH (Dg T) hr.le T.f_9 (ac (aA (aq hr.units1) (aA (aq hr.units1) (aa 5) (aw cb (aa 1) (ag)) (fun _ _=>rfl)) (ag) (fun _ _=>rfl)) (ai))) (ai))))) (ao (aD (bp (ac (aa 3) (ac (bp (ac (aw bu (aw bu (dM eN (aa 5) (eE) (dB (aw cb (aa 1) (ag)))) (bp (ac (aa 7) (ai)))) (dM eN (aa 5) (dB (aa 1)) (eE))) (ac (aa 6) (ai)))) (ai))))))) (aL)) (aj (aB 8 oP.nd (aw cb (aw cb (aa 1) (ag)) (aN bX T.z_len JI (ac (aa 5) (ai))))) (ao (aD (bp (ac (aw bu (aw bu (dM eN (aa 3) (eE) (dB (aa 8))) (bp (ac (aH (Dg T) hr.le T.f_9 (ac (aA (aq hr.units1) (aa 3) (aa 8) (fun _ _=>rfl)) (ai))) (ai)))) (dM eN (aa 3) (dB (aw bu (aa 8) (ag))) (eE))) (ac (aa 4) (ai))))))))))
theorem FJ (B:BM mg base)(C:NR base A.k_10 A.t_10)(Ar:JK)(outer:List Env)(s:IQ)(H:Hp)(E:XK)
  (hr:bC 0 (Ar.deeper (envOfC "_law_stamper" (am iu) s.heap.objs.size A.a_10 (.ref A.k_10)))):QMs (dR (CX1 P w) P w K mg base ["_law_way","_law_many","_law_book","_law_one","_law_other_here"] "_law_stamper" (am iu) A.a_10 (.ref A.k_10) Ar outer s H E).nox (ba iu) (Ba K A (s.heap.objs.size+1) (s.heap.objs.size+1+1) (s.heap.objs.size+1+1+1) (s.heap.objs.size+1+1+1+1)):=(
 uO (Da (aK (bJ hr.units150) (aa 0) (ag)) (sD (sF (ss B C rfl (by rfl) (by simp<;>omega) rfl rfl rfl rfl (fun _ _ _ _ us hl=>by obtain⟨_,rfl⟩:=L2.fL hl;rfl)))) (yf)) (uO (Da (aK (bJ hr.units150) (aa 0) (ag)) (sD (sF (ss B C rfl (by rfl) (by simp<;>omega) rfl rfl rfl rfl (fun _ _ _ _ us hl=>by obtain⟨_,rfl⟩:=L2.fL hl;rfl)))) (yf)) (sD (sF (ss B C rfl (by rfl) (by simp<;>omega) rfl rfl rfl rfl (fun _ _ _ _ us hl=>by obtain⟨_,rfl⟩:=L2.fL hl;rfl))))))
def yK:aV P w K mg base (CX1 P w) 1 A.a_10 A.d_10 ["_law_way","_law_many","_law_book","_law_one","_law_other_here"] (kI K A):=
 T.f_10.f.okM (caps:=fun L=>[(1,L+1),(2,L+1+1),(3,L+1+1+1),(4,L+1+1+1+1)]) T.kc_10 GW (Ce K A) (fun L p hp=>by simp only[IY,Jl,or_false]at hp;rcases hp with rfl|rfl|rfl|rfl<;>exact⟨_,rfl,rfl,rfl⟩) (fun L=>by simp) (fun Ar outer s H vs Q E hr h=>⟨_,QMs.nox (FJ T T.B T.C_10 Ar outer s H E hr),Fq T.1 (s.heap.objs.size+1) (s.heap.objs.size+1+1) (s.heap.objs.size+1+1+1) (s.heap.objs.size+1+1+1+1) (by simp) vs H Q E h⟩)
def Gp:aV P w K mg base (CX1 P w) 1 A.a_17 A.d_17 ["_law_paper","_law_at"] (mP K A):=
 T.f_17.f.okS yQ (Cw K A) (Ft T.1) fun _ _ _ _ _ _ hr=>
 aj (aB 2 yQ.nd (aN bX T.z_len JI (ac (aA (aq hr.units1) (aA (aq hr.units1) (aa 0) (ag) (fun _ _=>rfl)) (ag) (fun _ _=>rfl)) (ai)))) (aj (aP (aK (bJ hr.units150) (aa 1) (ag)) (ao (aD (ag))) (aL)) (aj (aP (aK oLe (aa 1) (aa 2)) (ao (aD (aw bu (aw cb (aa 2) (aa 1)) (ag)))) (aL)) (ao (aD (aw cb (aw bu (aw bu (aa 2) (ag)) (aN bX T.z_len JI (ac (aA (aq hr.units1) (aa 0) (ag) (fun _ _=>rfl)) (ai)))) (aw cb (aw cb (aa 1) (ag)) (aa 2)))))))
def cE:qH P w K mg base 2 (dk K A):=fun ts hts=>by
 simp only[dk,IY,Jl,or_false]at hts
 rcases hts with rfl|rfl|rfl
 ·exact(FV T).mono (by decide)
 ·exact(Gd T).mono (by decide)
 ·exact(Fe T).mono (by decide)
def mM:aV P w K mg base (CX1 P w) 3 A.a_18 A.d_18 ["_law_stamper_here","_law_bits","_law_key_here","_law_count","_law_turns_here","_law_paper"] (iz K A):=
 T.f_18.f.okS jG (CT K A) (Fi T.1) fun _ _ _ _ _ _ hr=>
 aj (pS 6 7 jG.nd rfl (aA (aq hr.units1) (aa 5) (ag) (fun _ _=>rfl))) (aj (aB 8 jG.nd (fe (ac (aa 7) (ai)))) (aj (uI 9 10 jG.nd (pY T.z_reversed (ac (aa 6) (ai))) (aj (aB 11 jG.nd (aw lI (aa 2) (aw cb (aa 1) (aa 9)))) (ao (aP (aK (bJ hr.units150) (aw bK (aw lI (aa 2) (aw cb (aw cb (aa 1) (aa 9)) (ag))) (ag)) (ag)) (ao (cj (dQ JE Jy JB bG (aa 8) (ac (bp (ac (bU) (ac (aa 9) (ac (aa 11) (ac (cD (cE T) hr.le cX (aa 0) (ac (aA (aq hr.units1) (aa 8) (dE (ag)) (fun _ _=>rfl)) (ai))) (ac (aa 10) (ai))))))) (ai))))) (ao (cj (dQ JE Jy JB bG (aa 8) (ac (bp (ac (bU) (ac (aa 9) (ac (aa 11) (ac (aa 10) (ac (cD (cE T) hr.le cX (aa 0) (ac (aA (aq hr.units1) (aa 8) (dE (ag)) (fun _ _=>rfl)) (ai))) (ai))))))) (ai)))))))) Kr) (aj (cj (dQ JE Jy JB bG (aa 8) (ac (bp (ac (bU) (ac (cD (cE T) hr.le cX (aa 0) (ac (aA (aq hr.units1) (aa 8) (dE (ag)) (fun _ _=>rfl)) (ai))) (ai)))) (ai)))) (aj (uI 12 10 jG.nd (AZ T.z_zip T.z_reversed (ac (aa 4) (ai)) (ac (aA (aq hr.units1) (aa 5) (ag) (fun _ _=>rfl)) (ai))) (ao (aP (aK (bJ hr.units150) (aa 12) (ag)) (ao (cj (dQ JE Jy JB bG (aa 8) (ac (bp (ac (bU) (ac (cD (cE T) hr.le cX (aa 0) (ac (aA (aq hr.units1) (aa 8) (dE (ag)) (fun _ _=>rfl)) (ai))) (ac (aa 10) (ai))))) (ai))))) (ao (cj (dQ JE Jy JB bG (aa 8) (ac (bp (ac (bU) (ac (aa 10) (ac (cD (cE T) hr.le cX (aa 0) (ac (aA (aq hr.units1) (aa 8) (dE (ag)) (fun _ _=>rfl)) (ai))) (ai))))) (ai))))))) Kr) (aj (cj (dQ JE Jy JB bG (aa 8) (ac (bp (ac (bU) (ac (aa 3) (ac (cD (cE T) hr.le cX (aa 0) (ac (aA (aq hr.units1) (aa 8) (dE (ag)) (fun _ _=>rfl)) (ai))) (ai))))) (ai)))) (ao (aD (aa 8))))))))
def iJ:aV P w K mg base (CX1 P w) 1 A.a_43 A.d_43 ["thing"] (fK K A):=
 T.f_43.f.okS Ge (Dt K A) (DP T.1) fun _ _ _ _ _ _ hr=>
 ao (aD (cF (aN eC T.z_isinstance JS (ac (aa 0) (ac (eB T.z_int boot_int) (ai)))) (eF (Fh (aN eC T.z_isinstance JS (ac (aa 0) (ac (eB T.z_bool boot_bool) (ai))))))))
def yO:aV P w K mg base (CX1 P w) 2 A.a_31 A.d_31 ["thing"] (kY K A):=
 T.f_31.f.okS Gg (Cz K A) (EM T.1) fun _ _ _ _ _ _ hr=>
 ao (aD (cF (aH (iJ T) hr.le T.f_43 (ac (aa 0) (ai))) (eF (ie oLe oLt (ag) (aa 0) (aw iU (ag) (ag))))))
def yM:aV P w K mg base (CX1 P w) 3 A.a_37 A.d_37 ["count","place"] (kG K A):=
 T.f_37.f.okS FM (Dj K A) (GG T.1) fun _ _ _ _ _ _ hr=>
 ao (aD (cF (aH (yO T) hr.le T.f_31 (ac (aa 0) (ai))) (cF (aH (iJ T) hr.le T.f_43 (ac (aa 1) (ai))) (eF (ie oLe oLt (ag) (aa 1) (aa 0))))))
def Fo:aV P w K mg base (CX1 P w) 4 A.a_26 A.d_26 ["count","place"] (nv K A):=
 T.f_26.f.okS EC (Cs K A) (EA T.1) fun _ _ _ _ _ _ hr=>
 ao (aP (bB (br (aH (yM T) hr.le T.f_37 (ac (aa 0) (ac (aa 1) (ai)))))) (ao (eU)) (aL))
def rE:aV P w K mg base (CX1 P w) 2 A.a_35 A.d_35 ["bits","thing"] (jJ K A):=
 T.f_35.f.okS Gz (Dh K A) (FY T.1) fun _ _ _ _ _ _ hr=>
 ao (aD (cF (aH (iJ T) hr.le T.f_43 (ac (aa 1) (ai))) (eF (ie oLe oLt (ag) (aa 1) (aw iU (ag) (aa 0))))))
def DU:aV P w K mg base (CX1 P w) 1 A.a_25 A.d_25 ["thing"] (nX K A):=
 T.f_25.f.okS Gx (AH K A) (FS T.1) fun _ _ _ _ _ _ hr=>
 ao (aP (x_w (dX (bB (br (aN eC T.z_isinstance JS (ac (aa 0) (ac (eB T.z_tuple Mb) (ai)))))) (dY (aK (dZ hr.units150) (aN bX T.z_len JI (ac (aa 0) (ai))) (ag))))) (ao (eU)) (aL))
def FL:aV P w K mg base (CX1 P w) 1 A.a_30 A.d_30 ["many"] (mY K A):=
 T.f_30.f.okS Eb (Cv K A) (EQ T.1) fun _ _ _ _ _ _ hr=>
 ao (aD (aw iU (ag) (aw cb (Ep PySem.F.plainAttrs_int PySem.F.slot_int_bit_length PySem.F.type_int_bit_length Ab (aw cb (aa 0) (ag))) (ag))))
def Gv:aV P w K mg base (CX1 P w) 2 A.a_52 A.d_52 ["place","many"] (nP K A):=
 T.f_52.f.okS gJ (DC K A) (ES T.1) fun _ _ _ _ _ _ hr=>
 aj (aB 2 gJ.nd (fe (ai))) (aj (aB 3 gJ.nd (ag)) (aj (aB 4 gJ.nd (aa 1)) (aj (lG (aK oGt (aa 4) (ag)) (aj (aB 5 gJ.nd (aH (FL T) hr.le T.f_30 (ac (aa 4) (ai)))) (ao (aP (aK oLt (aa 0) (aw bu (aa 3) (aa 5))) (aj (cj (dQ JE Jy JB bG (aa 2) (ac (ag) (ai)))) (ao (aB 4 gJ.nd (aa 5)))) (aj (cj (dQ JE Jy JB bG (aa 2) (ac (ag) (ai)))) (aj (aB 3 gJ.nd (aw bu (aa 3) (aa 5))) (ao (aB 4 gJ.nd (aw cb (aa 4) (aa 5))))))))) Kr) (ao (aD (aa 2))))))
def jC:aV P w K mg base (CX1 P w) 2 A.a_40 A.d_40 ["thing"] (gh K A):=
 T.f_40.f.okS FE (AO K A) (Ej T.1) fun _ _ _ _ _ _ hr=>
 aj (aP (br (aH (iJ T) hr.le T.f_43 (ac (aa 0) (ai)))) (ao (aD (ie oLe oLt (ag) (aa 0) (aw HK (ag) (ag))))) (aL)) (ao (aD (aN eC T.z_isinstance JS (ac (aa 0) (ac (eB T.z_str PN) (ai))))))
def GQ:aV P w K mg base (CX1 P w) 3 A.a_21 A.d_21 ["many","thing"] (nH K A):=
 T.f_21.f.okS GM (Bg K A) (GH T.1) fun _ _ _ _ _ _ hr=>
 ao (aD (cF (aN eC T.z_isinstance JS (ac (aa 1) (ac (eB T.z_tuple Mb) (ai)))) (cF (db (bJ hr.units150) (aN bX T.z_len JI (ac (aa 1) (ai))) (aa 0)) (eF (aN (IG rfl) T.z_all L2.AS (ac (kR (ys:=[]) (by exact⟨rfl,by decide+kernel,by decide+kernel,rfl,by decide+kernel,by decide+kernel⟩) (by exact .nil) (gF (aa 1)) (fun Cc s H fp=>jk) (fun Cc s H fp=>(aH (jC T) hr.le T.f_40 (ac (aa 0) (ai))))) (ai)))))))
def EI:aV P w K mg base (CX1 P w) 4 A.a_38 A.d_38 ["turns","thing"] (nO K A):=
 T.f_38.f.okS EN (AD K A) (Ei T.1) fun _ _ _ _ _ _ hr=>
 aj (aP (x_w (dX (bB (br (aN eC T.z_isinstance JS (ac (aa 1) (ac (eB T.z_tuple Mb) (ai)))))) (dY (aK (dZ hr.units150) (aN bX T.z_len JI (ac (aa 1) (ai))) (ag))))) (ao (aD (cS))) (aL)) (ao (aD (cF (aH (jC T) hr.le T.f_40 (ac (aA (aq hr.units1) (aa 1) (ag) (fun _ _=>rfl)) (ai))) (eF (aH (GQ T) hr.le T.f_21 (ac (aN bX T.z_len JI (ac (aa 0) (ai))) (ac (aA (aq hr.units1) (aa 1) (ag) (fun _ _=>rfl)) (ai))))))))
def El:aV P w K mg base (CX1 P w) 1 A.a_44 A.d_44 ["turn","own","aside"] (nB K A):=
 T.f_44.f.okS Eg (Bu K A) (Gf T.1) fun _ _ _ _ _ _ hr=>
 ao (aD (vQ (aK (bJ hr.units150) (aa 0) (ag)) (bp (ac (bU) (ac (aa 1) (ac (aa 2) (ai))))) (bp (ac (bU) (ac (aa 2) (ac (aa 1) (ai)))))))
def EO:aV P w K mg base (CX1 P w) 5 A.a_46 A.d_46 ["stamper","count","place","paper"] (nW K A):=
 T.f_46.f.okS nK (Dx K A) (GB T.1) fun _ _ _ _ _ _ hr=>
 aj (aP (bB (br (aH (yM T) hr.le T.f_37 (ac (aa 1) (ac (aa 2) (ai)))))) (ao (eU)) (aL)) (aj (aB 4 nK.nd (aH (Gv T) hr.le T.f_52 (ac (aa 2) (ac (aa 1) (ai))))) (aj (aP (bB (br (aH (EI T) hr.le T.f_38 (ac (aa 4) (ac (aa 3) (ai)))))) (ao (eU)) (aL)) (aj (aB 5 nK.nd (fe (ac (bp (ac (bU) (ac (aA (aq hr.units1) (aa 3) (ag) (fun _ _=>rfl)) (ai)))) (ai)))) (aj (iA 6 nK.nd (pY T.z_reversed (ac (tE T.z_list T.z_zip rfl (ac (aa 4) (ac (aA (aq hr.units1) (aa 3) (ag) (fun _ _=>rfl)) (ai)))) (ai))) (ao (cj (dQ JE Jy JB bG (aa 5) (ac (aH (El T) hr.le T.f_44 (ac (aA (aq hr.units1) (aa 6) (ag) (fun _ _=>rfl)) (ac (cD (cE T) hr.le cX (aa 0) (ac (aA (aq hr.units1) (aa 5) (dE (ag)) (fun _ _=>rfl)) (ai))) (ac (aA (aq hr.units1) (aa 6) (ag) (fun _ _=>rfl)) (ai))))) (ai))))) Kr) (aj (cj (dQ JE Jy JB bG (aa 5) (ac (bp (ac (bU) (ac (aa 1) (ac (cD (cE T) hr.le cX (aa 0) (ac (aA (aq hr.units1) (aa 5) (dE (ag)) (fun _ _=>rfl)) (ai))) (ai))))) (ai)))) (ao (aD (aa 5))))))))
def DG:aV P w K mg base (CX1 P w) 6 A.a_53 A.d_53 ["stamper","count","place","terms","marks"] (mU K A):=
 T.f_53.f.okS Gu (Bj K A) (Fp T.1) fun _ _ _ _ _ _ hr=>
 ao (aD (aw bu (aa 3) (aH (EO T) hr.le T.f_46 (ac (aa 0) (ac (aa 1) (ac (aa 2) (ac (bp (ac (cD (cE T) hr.le cX (aa 0) (ac (aA (aq hr.units1) (aa 3) (dE (ag)) (fun _ _=>rfl)) (ai))) (ac (aa 4) (ai)))) (ai))))))))
def Fv:aV P w K mg base (CX1 P w) 3 A.a_41 A.d_41 ["bits","least","thing"] (nq K A):=
 T.f_41.f.okS GT (AY K A) (DE T.1) fun _ _ _ _ _ _ hr=>
 aj (aP (x_w (dX (bB (br (aN eC T.z_isinstance JS (ac (aa 2) (ac (eB T.z_tuple Mb) (ai)))))) (dY (aK (dZ hr.units150) (aN bX T.z_len JI (ac (aa 2) (ai))) (ag))))) (ao (aD (cS))) (aL)) (ao (aD (cF (aH (iJ T) hr.le T.f_43 (ac (aA (aq hr.units1) (aa 2) (ag) (fun _ _=>rfl)) (ai))) (cF (ie oLe oLt (aa 1) (aA (aq hr.units1) (aa 2) (ag) (fun _ _=>rfl)) (aa 0)) (eF (aH (jC T) hr.le T.f_40 (ac (aA (aq hr.units1) (aa 2) (ag) (fun _ _=>rfl)) (ai))))))))
def Gw:aV P w K mg base (CX1 P w) 4 A.a_22 A.d_22 ["bits","thing"] (nj K A):=
 T.f_22.f.okS mQ (BS K A) (EG T.1) fun _ _ _ _ _ _ hr=>
 aj (aP (bB (br (aN eC T.z_isinstance JS (ac (aa 1) (ac (eB T.z_tuple Mb) (ai)))))) (ao (aD (cS))) (aL)) (aj (aB 2 mQ.nd (ag)) (aj (iA 3 mQ.nd (gF (aa 1)) (aj (aP (bB (br (aH (Fv T) hr.le T.f_41 (ac (aa 0) (ac (aa 2) (ac (aa 3) (ai))))))) (ao (aD (cS))) (aL)) (ao (aB 2 mQ.nd (aw bu (aA (aq hr.units1) (aa 3) (ag) (fun _ _=>rfl)) (ag))))) Kr) (ao (aD (cS)))))
def mZ:aV P w K mg base (CX1 P w) 1 A.a_50 A.d_50 ["bits","key","depth"] (iM K A):=
 T.f_50.f.okS GD (AF K A) (Ga T.1) fun _ _ _ _ _ _ hr=>
 ao (aD (aw lI (aa 1) (aw cb (aa 0) (aa 2))))
def Es:aV P w K mg base (CX1 P w) 1 A.a_42 A.d_42 ["thing"] (mX K A):=
 T.f_42.f.okS FA (Cj K A) (ED T.1) fun _ _ _ _ _ _ hr=>
 ao (aD (cF (aN eC T.z_isinstance JS (ac (aa 0) (ac (eB T.z_str PN) (ai)))) (eF (db oLe (aN bX T.z_len JI (ac (aa 0) (ai))) (IL T.c_MOST_SIGNS)))))
def DY:aV P w K mg base (CX1 P w) 3 A.a_36 A.d_36 ["bits","depth","begin","thing"] (nF K A):=
 T.f_36.f.okS Gh (CA K A) (FX T.1) fun _ _ _ _ _ _ hr=>
 aj (aP (x_w (dX (bB (br (aN eC T.z_isinstance JS (ac (aa 3) (ac (eB T.z_tuple Mb) (ai)))))) (dX (aK (dZ hr.units150) (aN bX T.z_len JI (ac (aa 3) (ai))) (ag)) (dY (aK (dZ hr.units150) (aA (aq hr.units1) (aa 3) (ag) (fun _ _=>rfl)) (bU)))))) (ao (aD (cS))) (aL)) (aj (aP (x_w (dX (bB (br (aH (rE T) hr.le T.f_35 (ac (aa 0) (ac (aA (aq hr.units1) (aa 3) (ag) (fun _ _=>rfl)) (ai)))))) (dY (bB (br (aH (Es T) hr.le T.f_42 (ac (aA (aq hr.units1) (aa 3) (ag) (fun _ _=>rfl)) (ai)))))))) (ao (aD (cS))) (aL)) (ao (aD (db (bJ hr.units150) (aH (mZ T) hr.le T.f_50 (ac (aa 0) (ac (aA (aq hr.units1) (aa 3) (ag) (fun _ _=>rfl)) (ac (aa 1) (ai))))) (aa 2)))))
def EX:aV P w K mg base (CX1 P w) 2 A.a_33 A.d_33 ["bits","depth","begin","thing"] (nh K A):=
 T.f_33.f.okS DH (BK K A) (DM T.1) fun _ _ _ _ _ _ hr=>
 aj (aP (x_w (dX (bB (br (aN eC T.z_isinstance JS (ac (aa 3) (ac (eB T.z_tuple Mb) (ai)))))) (dX (aK (dZ hr.units150) (aN bX T.z_len JI (ac (aa 3) (ai))) (ag)) (dY (aK (dZ hr.units150) (aA (aq hr.units1) (aa 3) (ag) (fun _ _=>rfl)) (bU)))))) (ao (aD (cS))) (aL)) (aj (aP (x_w (dX (bB (br (aH (iJ T) hr.le T.f_43 (ac (aA (aq hr.units1) (aa 3) (ag) (fun _ _=>rfl)) (ai))))) (dY (bB (oW oLe oLt (aa 1) (aA (aq hr.units1) (aa 3) (ag) (fun _ _=>rfl)) (aa 0)))))) (ao (aD (cS))) (aL)) (aj (aP (x_w (dX (bB (br (aH (iJ T) hr.le T.f_43 (ac (aA (aq hr.units1) (aa 3) (ag) (fun _ _=>rfl)) (ai))))) (dY (bB (oW oLe oLt (ag) (aA (aq hr.units1) (aa 3) (ag) (fun _ _=>rfl)) (aw iU (ag) (aA (aq hr.units1) (aa 3) (ag) (fun _ _=>rfl)))))))) (ao (aD (cS))) (aL)) (ao (aD (db (bJ hr.units150) (aw lI (aA (aq hr.units1) (aa 3) (ag) (fun _ _=>rfl)) (aw cb (aA (aq hr.units1) (aa 3) (ag) (fun _ _=>rfl)) (aa 1))) (aa 2))))))
def Gs:aV P w K mg base (CX1 P w) 4 A.a_32 A.d_32 ["bits","key","place","thing"] (nV K A):=
 T.f_32.f.okS yE (Bx K A) (FW T.1) fun _ _ _ _ _ _ hr=>
 aj (aP (aK (bJ hr.units150) (aa 3) (bp (ac (bU) (ai)))) (ao (aD (db (bJ hr.units150) (aa 2) (ag)))) (aL)) (aj (aB 4 yE.nd (aH (mZ T) hr.le T.f_50 (ac (aa 0) (ac (aa 1) (ac (aa 2) (ai)))))) (aj (aP (br (aH (DY T) hr.le T.f_36 (ac (aa 0) (ac (aa 2) (ac (aa 4) (ac (aa 3) (ai))))))) (ao (aD (cS))) (aL)) (aj (aP (bB (br (aH (EX T) hr.le T.f_33 (ac (aa 0) (ac (aa 2) (ac (aa 4) (ac (aa 3) (ai)))))))) (ao (aD (cS))) (aL)) (aj (aP (aK (bJ hr.units150) (aA (aq hr.units1) (aa 3) (ag) (fun _ _=>rfl)) (aH (mZ T) hr.le T.f_50 (ac (aa 0) (ac (aa 1) (ac (aA (aq hr.units1) (aa 3) (ag) (fun _ _=>rfl)) (ai)))))) (ao (aD (cS))) (aL)) (ao (aD (cF (aH (jC T) hr.le T.f_40 (ac (aA (aq hr.units1) (aa 3) (ag) (fun _ _=>rfl)) (ai))) (eF (aH (jC T) hr.le T.f_40 (ac (aA (aq hr.units1) (aa 3) (ag) (fun _ _=>rfl)) (ai)))))))))))
def Gb:aV P w K mg base (CX1 P w) 5 A.a_39 A.d_39 ["bits","key","thing"] (ni K A):=
 T.f_39.f.okS yw (Cy K A) (Fj T.1) fun _ _ _ _ _ _ hr=>
 aj (aP (x_w (dX (bB (br (aN eC T.z_isinstance JS (ac (aa 2) (ac (eB T.z_tuple Mb) (ai)))))) (dY (aK (dZ hr.units150) (aN bX T.z_len JI (ac (aa 2) (ai))) (ag))))) (ao (aD (cS))) (aL)) (aj (aP (bB (br (aH (Gw T) hr.le T.f_22 (ac (aa 0) (ac (aA (aq hr.units1) (aa 2) (ag) (fun _ _=>rfl)) (ai)))))) (ao (aD (cS))) (aL)) (aj (aB 3 yw.nd (vQ (br (aA (aq hr.units1) (aa 2) (ag) (fun _ _=>rfl))) (aw bu (aA (aq hr.units1) (aA (aq hr.units1) (aA (aq hr.units1) (aa 2) (ag) (fun _ _=>rfl)) (dE (ag)) (fun _ _=>rfl)) (ag) (fun _ _=>rfl)) (ag)) (ag))) (ao (aD (aH (Gs T) hr.le T.f_32 (ac (aa 0) (ac (aa 1) (ac (aa 3) (ac (aA (aq hr.units1) (aa 2) (ag) (fun _ _=>rfl)) (ai))))))))))
def FT:aV P w K mg base (CX1 P w) 1 A.a_47 A.d_47 ["bits","key","depth"] (nI K A):=
 T.f_47.f.okS DF (Bt K A) (Eu T.1) fun _ _ _ _ _ _ hr=>
 ao (aD (aw Fz (aw lI (aa 1) (aw cb (aw cb (aa 0) (aa 2)) (ag))) (ag)))
def Ff:aV P w K mg base (CX1 P w) 2 A.a_51 A.d_51 ["bits","key","step","mark"] (nR K A):=
 T.f_51.f.okS sq (De K A) (EK T.1) fun _ _ _ _ _ _ hr=>
 aj (aB 4 sq.nd (aA (aq hr.units1) (aa 2) (ag) (fun _ _=>rfl))) (aj (aB 5 sq.nd (aH (mZ T) hr.le T.f_50 (ac (aa 0) (ac (aa 1) (ac (aa 4) (ai)))))) (aj (aP (aK (bJ hr.units150) (aH (FT T) hr.le T.f_47 (ac (aa 0) (ac (aa 1) (ac (aa 4) (ai))))) (ag)) (ao (aD (bp (ac (bU) (ac (aa 4) (ac (aa 5) (ac (aa 3) (ac (aA (aq hr.units1) (aa 2) (ag) (fun _ _=>rfl)) (ai))))))))) (aL)) (ao (aD (bp (ac (bU) (ac (aa 4) (ac (aa 5) (ac (aA (aq hr.units1) (aa 2) (ag) (fun _ _=>rfl)) (ac (aa 3) (ai)))))))))))
def Gm:aV P w K mg base (CX1 P w) 6 A.a_48 A.d_48 ["stamper","bits","key","slip"] (mR K A):=
 T.f_48.f.okS rO (Cm K A) (EZ T.1) fun _ _ _ _ _ _ hr=>
 aj (aP (bB (br (aH (rE T) hr.le T.f_35 (ac (aa 1) (ac (aa 2) (ai)))))) (ao (eU)) (aL)) (aj (aP (bB (br (aH (Gb T) hr.le T.f_39 (ac (aa 1) (ac (aa 2) (ac (aa 3) (ai))))))) (ao (eU)) (aL)) (aj (aB 4 rO.nd (fe (ac (aA (aq hr.units1) (aa 3) (ag) (fun _ _=>rfl)) (ai)))) (aj (iA 5 rO.nd (pY T.z_reversed (ac (aA (aq hr.units1) (aa 3) (ag) (fun _ _=>rfl)) (ai))) (ao (cj (dQ JE Jy JB bG (aa 4) (ac (aH (Ff T) hr.le T.f_51 (ac (aa 1) (ac (aa 2) (ac (aa 5) (ac (cD (cE T) hr.le cX (aa 0) (ac (aA (aq hr.units1) (aa 4) (dE (ag)) (fun _ _=>rfl)) (ai))) (ai)))))) (ai))))) Kr) (ao (aD (aa 4))))))
def sg:aV P w K mg base (CX1 P w) 7 A.a_29 A.d_29 ["stamper","bits","count","place","key","paper"] (jW K A):=
 T.f_29.f.okS DQ (Co K A) (Fs T.1) fun _ _ _ _ _ _ hr=>
 aj (cj (aH (Fo T) hr.le T.f_26 (ac (aa 2) (ac (aa 3) (ai))))) (aj (aP (bB (br (aH (rE T) hr.le T.f_35 (ac (aa 1) (ac (aa 4) (ai)))))) (ao (eU)) (aL)) (aj (cj (aH (DU T) hr.le T.f_25 (ac (aa 5) (ai)))) (ao (aD (aH (DG T) hr.le T.f_53 (ac (aa 0) (ac (aa 2) (ac (aa 3) (ac (aH (Gm T) hr.le T.f_48 (ac (aa 0) (ac (aa 1) (ac (aa 4) (ac (aA (aq hr.units1) (aa 5) (ag) (fun _ _=>rfl)) (ai)))))) (ac (aA (aq hr.units1) (aa 5) (ag) (fun _ _=>rfl)) (ai)))))))))))
def Fd:aV P w K mg base (CX1 P w) 3 A.a_34 A.d_34 ["thing"] (nE K A):=
 T.f_34.f.okS GP (AR K A) (DX T.1) fun _ _ _ _ _ _ hr=>
 ao (aD (cF (aN eC T.z_isinstance JS (ac (aa 0) (ac (eB T.z_tuple Mb) (ai)))) (cF (db (bJ hr.units150) (aN bX T.z_len JI (ac (aa 0) (ai))) (ag)) (cF (aH (yO T) hr.le T.f_31 (ac (aA (aq hr.units1) (aa 0) (ag) (fun _ _=>rfl)) (ai))) (eF (aH (jC T) hr.le T.f_40 (ac (aA (aq hr.units1) (aa 0) (ag) (fun _ _=>rfl)) (ai))))))))
def Gk:aV P w K mg base (CX1 P w) 4 A.a_23 A.d_23 ["thing"] (mK K A):=
 T.f_23.f.okS FF (AK K A) (Er T.1) fun _ _ _ _ _ _ hr=>
 ao (aP (bB (br (aH (Fd T) hr.le T.f_34 (ac (aa 0) (ai))))) (ao (eU)) (aL))
def Hn:aV P w K mg base (CX1 P w) 1 A.a_0 A.d_0 ["self","due","came"] (si K A):=
 T.f_0.okS HB (GO K A) (Hm T.1) fun _ _ _ _ _ _ hr=>
 aj (uF (aa 0) (aa 1)) (ao (uF (aa 0) (aa 2)))
def Ea (cdv:Gt)(Ar:JK)(outer:List Env)(s:IQ)(H:Hp)(E:XK)
  (hr:bC 2 (Ar.deeper (envOfC "check_mark" (am lP) s.heap.objs.size A.a_24 cdv))):PSs (dR (CX1 P w) P w K mg base ["stamper","head","terms","came"] "check_mark" (am lP) A.a_24 cdv Ar outer s H E) (ba lP) (CB K A E):=QSs.out (
 aj (aB 3 yL.nd (cD (cE T) hr.le cX (aa 0) (ac (aA (aq hr.units1) (aa 2) (dE (ag)) (fun _ _=>rfl)) (ai)))) (ao (aP (aK (dZ hr.units150) (aa 3) (aA (aq hr.units1) (aa 1) (ag) (fun _ _=>rfl))) (ao (vV T.em_Broken (Hn T) hr.le T.b_0 T.mc_Broken uK (ac (aA (aq hr.units1) (aa 1) (ag) (fun _ _=>rfl)) (ac (aa 3) (ai))))) (aL))))
def Gq:aV P w K mg base (CX1 P w) 3 A.a_24 A.d_24 ["stamper","head","terms"] (nU K A):=
 T.f_24.f.okX yL (Dv K A) (fun cdv Ar outer s H vs Q E hr h=>⟨_,Ea T cdv Ar outer s H E hr,FU T.1 vs H Q E h⟩)
def DN:aV P w K mg base (CX1 P w) 1 A.a_49 A.d_49 ["key","slip"] (mL K A):=
 T.f_49.f.okS yj (CL K A) (Ey T.1) fun _ _ _ _ _ _ hr=>
 aj (aB 2 yj.nd (aA (aq hr.units1) (aa 1) (ag) (fun _ _=>rfl))) (ao (aD (vQ (x_w (ia (aK (bJ hr.units150) (aA (aq hr.units1) (aa 2) (ag) (fun _ _=>rfl)) (bU)) (gk (aK (bJ hr.units150) (aA (aq hr.units1) (aa 2) (ag) (fun _ _=>rfl)) (aa 0))))) (aA (aq hr.units1) (aa 2) (ag) (fun _ _=>rfl)) (iN))))
def GF (cdv:Gt)(Ar:JK)(outer:List Env)(s:IQ)(H:Hp)(E:XK)
  (hr:bC 7 (Ar.deeper (envOfC "full_answer" (am lB) s.heap.objs.size A.a_28 cdv))):PSs (dR (CX1 P w) P w K mg base ["stamper","bits","head","place","key","paper"] "full_answer" (am lB) A.a_28 cdv Ar outer s H E) (ba lB) (Bz K A E):=QSs.out (
 aj (cj (aH (Gk T) hr.le T.f_23 (ac (aa 2) (ai)))) (aj (cj (lF (Gq T) hr.le T.f_24.m T.f_24.f.kp T.f_24.b wM (ac (aa 0) (ac (aa 2) (ac (aH (sg T) hr.le T.f_29 (ac (aa 0) (ac (aa 1) (ac (aA (aq hr.units1) (aa 2) (ag) (fun _ _=>rfl)) (ac (aa 3) (ac (aa 4) (ac (aa 5) (ai)))))))) (ai)))))) (ao (aD (aH (DN T) hr.le T.f_49 (ac (aa 4) (ac (aA (aq hr.units1) (aa 5) (ag) (fun _ _=>rfl)) (ai))))))))
def Gr:aV P w K mg base (CX1 P w) 8 A.a_28 A.d_28 ["stamper","bits","head","place","key","paper"] (mO K A):=
 T.f_28.f.okX Eo (CC K A) (fun cdv Ar outer s H vs Q E hr h=>⟨_,GF T cdv Ar outer s H E hr,Ek T.1 vs H Q E h⟩)
def Bk:aV P w K mg base (CX1 P w) 9 A.a_1 A.d_1 ["_law_stamper_here","_law_bits","_law_head","_law_place","_law_key_here","_law_paper","_law_came"] (oQ K A):=
 T.f_1.f.okS ip (Fc K A) (Hh T.1) fun _ _ _ _ _ E hr=>
 aj (aB 7 ip.nd (aA (aq hr.units1) (aA (aq hr.units1) (aa 5) (ag) (fun _ _=>rfl)) (ag) (fun _ _=>rfl))) (aj (aB 8 ip.nd (iN)) (aj (aP (x_w (ia (aK (bJ hr.units150) (aA (aq hr.units1) (aa 7) (ag) (fun _ _=>rfl)) (bU)) (gk (aK (bJ hr.units150) (aA (aq hr.units1) (aa 7) (ag) (fun _ _=>rfl)) (aa 4))))) (ao (aB 8 ip.nd (aA (aq hr.units1) (aa 7) (ag) (fun _ _=>rfl)))) (aL)) (aj (aB 9 ip.nd (iN)) (aj (aB 10 ip.nd (iN)) (aj (EU (fun pn' E' EH hEH=>ao (aB 10 ip.nd (lF (Gr T) hr.le T.f_28.m T.f_28.f.kp T.f_28.b hEH (ac (aa 0) (ac (aa 1) (ac (aa 2) (ac (aa 3) (ac (aa 4) (ac (aa 5) (ai)))))))))) (GR 11 ip.nd T.eo_Broken T.mc_Broken (fun a=>ao (aB 9 ip.nd (bp (ac (ui (aa 11)) (ac (ui (aa 11)) (ai)))))) (Av)) (aL)) (aj (aP (aK (dZ hr.units150) (aa 6) (aA (aq hr.units1) (aa 2) (ag) (fun _ _=>rfl))) (ao (aD (db (bJ hr.units150) (aa 9) (bp (ac (aA (aq hr.units1) (aa 2) (ag) (fun _ _=>rfl)) (ac (aa 6) (ai))))))) (aL)) (ao (aD (cF (db AT (aa 9) (iN)) (cF (db (bJ hr.units150) (aa 10) (aa 8)) (eF (HQ (db AT (aa 10) (iN)) (eF (aN eC T.z_isinstance JS (ac (aa 10) (ac (eB T.z_str PN) (ai)))))))))))))))))
def DD:aV P w K mg base (CX1 P w) 3 A.a_27 A.d_27 ["stamper","terms"] (mV K A):=
 T.f_27.f.okS nu (BC K A) (DK T.1) fun _ _ _ _ _ _ hr=>
 aj (aB 2 nu.nd (qK)) (aj (iA 3 nu.nd (gF (aa 1)) (aj (aB 4 nu.nd (dQ Nb Kj MF (jh hr.units1) (aa 2) (ac (cD (cE T) hr.le cX (aa 0) (ac (aa 3) (ai))) (ac (aa 3) (ai))))) (ao (aP (aK (dZ hr.units150) (aa 4) (aa 3)) (ao (aD (bp (ac (aa 4) (ac (aa 3) (ai)))))) (aL)))) Kr) (ao (aD (iN))))
def II:aV P w K mg base (CX1 P w) 4 A.a_3 A.d_3 ["_law_stamper_here","_law_terms_here"] (sO K A):=
 T.f_3.f.okS Bl (Gj K A) (HH T.1) fun _ _ _ _ _ _ hr=>
 aj (aB 2 Bl.nd (aH (DD T) hr.le T.f_27 (ac (aa 0) (ac (aa 1) (ai))))) (aj (aP (x_w (dX (bB (br (aN eC T.z_isinstance JS (ac (aa 2) (ac (eB T.z_tuple Mb) (ai)))))) (dX (aK (dZ hr.units150) (aN bX T.z_len JI (ac (aa 2) (ai))) (ag)) (dY (aK (bJ hr.units150) (aA (aq hr.units1) (aa 2) (ag) (fun _ _=>rfl)) (aA (aq hr.units1) (aa 2) (ag) (fun _ _=>rfl))))))) (ao (aD (cS))) (aL)) (ao (aD (cF (db (Dl hr.units150) (aA (aq hr.units1) (aa 2) (ag) (fun _ _=>rfl)) (aa 1)) (cF (db (Dl hr.units150) (aA (aq hr.units1) (aa 2) (ag) (fun _ _=>rfl)) (aa 1)) (eF (db (bJ hr.units150) (cD (cE T) hr.le cX (aa 0) (ac (aA (aq hr.units1) (aa 2) (ag) (fun _ _=>rfl)) (ai))) (cD (cE T) hr.le cX (aa 0) (ac (aA (aq hr.units1) (aa 2) (ag) (fun _ _=>rfl)) (ai))))))))))
def ET:aV P w K mg base (CX1 P w) 10 A.a_45 A.d_45 ["_law_script"] (nQ K A):=
 T.f_45.f.okS bT (Dn K A) (EY T.1) fun _ _ _ _ _ _ hr=>
 aj (zZ 1 2 3 4 5 bT.nd rfl (aH (GX T) hr.le T.f_4 (ac (aa 0) (ai)))) (aj (aB 6 bT.nd (aw bK (aH (gX T) hr.le T.f_2 (ac (aa 0) (ac (ag) (ai)))) (aa 3))) (aj (aB 7 bT.nd (aH (yJ T) hr.le T.f_15 (ac (aH (gX T) hr.le T.f_2 (ac (aa 0) (ac (ag) (ai)))) (ac (ag) (ai))))) (aj (aB 8 bT.nd (aA (aq hr.units1) (aA (aq hr.units1) (aa 5) (ag) (fun _ _=>rfl)) (ag) (fun _ _=>rfl))) (aj (aB 9 bT.nd (aw bK (aH (gX T) hr.le T.f_2 (ac (aa 0) (ac (ag) (ai)))) (aw bu (aw bu (ag) (aN bX T.z_len JI (ac (aa 8) (ai)))) (aN bX T.z_len JI (ac (aA (aq hr.units1) (aa 5) (ag) (fun _ _=>rfl)) (ai)))))) (aj (aB 10 bT.nd (aH (IP T) hr.le T.f_8 (ac (aa 5) (ac (aa 9) (ac (aH (xV T) hr.le T.f_5 (ac (aa 7) (ac (aa 1) (ac (aa 2) (ac (aa 8) (ai)))))) (ai)))))) (aj (aP (aK (bJ hr.units150) (aw bK (aA (aq hr.units1) (aa 7) (ag) (fun _ _=>rfl)) (ag)) (ag)) (aj (aB 11 bT.nd (aH (yi T) hr.le T.f_14 (ac (dM eN (aa 7) (dB (ag)) (eE)) (ac (aa 1) (ac (aw bK (aA (aq hr.units1) (aa 7) (ag) (fun _ _=>rfl)) (ag)) (ai)))))) (ao (aB 10 bT.nd (bp (ac (aA (aq hr.units1) (aa 5) (ag) (fun _ _=>rfl)) (ac (bp (ac (aa 11) (ac (aH (xV T) hr.le T.f_5 (ac (aa 7) (ac (aa 1) (ac (aa 2) (ac (aa 11) (ai)))))) (ai)))) (ai))))))) (aL)) (aj (aB 12 bT.nd (aw bK (aH (gX T) hr.le T.f_2 (ac (aa 0) (ac (ag) (ai)))) (ag))) (aj (aB 13 bT.nd (qK)) (aj (aB 14 bT.nd (aH (yK T) hr.le T.f_10 (ac (ag) (ac (ag) (ac (aa 13) (ac (bp (ai)) (ac (bp (ai)) (ai)))))))) (aj (aB 9 bT.nd (aH (Gp T) hr.le T.f_17 (ac (aa 5) (ac (aa 9) (ai))))) (aj (aB 15 bT.nd (aA (aq hr.units1) (aH (mM T) hr.le T.f_18 (ac (aa 14) (ac (aa 1) (ac (aa 2) (ac (aa 3) (ac (aa 4) (ac (aa 5) (ai)))))))) (aa 9) (fun _ _=>rfl))) (aj (aB 16 bT.nd (aa 15)) (aj (aB 17 bT.nd (aH (mM T) hr.le T.f_18 (ac (aa 14) (ac (aa 1) (ac (aa 2) (ac (aa 3) (ac (aa 4) (ac (aa 10) (ai))))))))) (aj (aP (aK oLt (aa 9) (aN bX T.z_len JI (ac (aa 17) (ai)))) (ao (aB 16 bT.nd (aA (aq hr.units1) (aa 17) (aa 9) (fun _ _=>rfl)))) (aL)) (aj (aB 18 bT.nd (aH (yK T) hr.le T.f_10 (ac (aa 12) (ac (aw bu (ag) (aw bK (aw dL (aH (gX T) hr.le T.f_2 (ac (aa 0) (ac (ag) (ai)))) (ag)) (ag))) (ac (aa 13) (ac (aa 15) (ac (aa 16) (ai)))))))) (aj (aB 17 bT.nd (aH (mM T) hr.le T.f_18 (ac (aa 18) (ac (aa 1) (ac (aa 2) (ac (aa 3) (ac (aa 4) (ac (aa 5) (ai))))))))) (aj (aB 19 bT.nd (bp (ac (aa 3) (ac (cD (cE T) hr.le cX (aa 18) (ac (aA (aq hr.units1) (aa 17) (dE (ag)) (fun _ _=>rfl)) (ai))) (ai))))) (aj (aB 20 bT.nd (aH (sg T) hr.le T.f_29 (ac (aa 18) (ac (aa 1) (ac (aa 3) (ac (aa 6) (ac (aa 2) (ac (aa 5) (ai))))))))) (aj (aB 21 bT.nd (aH (sg T) hr.le T.f_29 (ac (aa 18) (ac (aa 1) (ac (aa 3) (ac (aa 6) (ac (aa 2) (ac (aa 10) (ai))))))))) (aj (aP (aK (dZ hr.units150) (aa 20) (aa 17)) (ao (aD (cS))) (aL)) (aj (aB 17 bT.nd (aH (mM T) hr.le T.f_18 (ac (aa 18) (ac (aa 1) (ac (aa 2) (ac (aa 3) (ac (aa 4) (ac (aa 10) (ai))))))))) (aj (aP (aK (dZ hr.units150) (aa 21) (aa 17)) (ao (aD (cS))) (aL)) (aj (aB 22 bT.nd (cD (cE T) hr.le cX (aa 18) (ac (aA (aq hr.units1) (aa 21) (dE (ag)) (fun _ _=>rfl)) (ai)))) (aj (aP (bB (br (aH (Bk T) hr.le T.f_1 (ac (aa 18) (ac (aa 1) (ac (aa 19) (ac (aa 6) (ac (aa 2) (ac (aa 5) (ac (aA (aq hr.units1) (aa 19) (ag) (fun _ _=>rfl)) (ai))))))))))) (ao (aD (cS))) (aL)) (aj (aP (bB (br (aH (Bk T) hr.le T.f_1 (ac (aa 18) (ac (aa 1) (ac (aa 19) (ac (aa 6) (ac (aa 2) (ac (aa 10) (ac (aa 22) (ai))))))))))) (ao (aD (cS))) (aL)) (aj (aP (x_w (ia (aK (bJ hr.units150) (aa 12) (ag)) (gk (aK (dZ hr.units150) (db (bJ hr.units150) (aa 22) (aA (aq hr.units1) (aa 19) (ag) (fun _ _=>rfl))) (db (bJ hr.units150) (aa 5) (aa 10)))))) (ao (aD (cS))) (aL)) (aj (aP (x_w (dX (aK (dZ hr.units150) (aa 22) (aA (aq hr.units1) (aa 19) (ag) (fun _ _=>rfl))) (dY (aK (bJ hr.units150) (aa 5) (aa 10))))) (ao (aD (cS))) (aL)) (ao (aD (aH (II T) hr.le T.f_3 (ac (aa 18) (ac (aw bu (aa 20) (aa 21)) (ai)))))))))))))))))))))))))))))))))
omit T
def rR (P:Jd)(w:JL)(K:If)(mg:Str->Option Gt)(fa:Addr):Prop:=∃(fd:Jn)(tabs:List (Addr×Addr))(sp:Sp),(∀(s:IQ)(v:Gt),QU s fd ⟨[v],[]⟩ [("_law_script",v)])/\Qo K=true/\(∀t∈tabs,∃y∈(["_law_stamper"]:List Str),Qn K y=some t)/\(∀base:Heap,K.In base->base.Ns mainGlobals mg->BM mg base->(∀t∈tabs,NR base t.1 t.2)->aV P w K mg base (CX1 P w) 10 fa fd ["_law_script"] sp)/\∀(H:Hp)(a:Addr)(ns:List Int),ns.length<=63->(∀t∈tabs,H t.2=some (.tbl #[]))->SqL K H a (ns.map V.int)->sp [.ref a] H (fun v _=>v=.bl true) fun _ _ _=>False
def AN (T:Txt K mg A)(nt:Qo K=true)(tb_10:Qn K "_law_stamper"=some (A.k_10,A.t_10))(tdn:([A.t_10]:List Addr).Nodup):rR P w K mg A.a_45:=by
 refine⟨A.d_45,[(A.k_10,A.t_10)],nQ K A,T.f_45.f.bt,nt,?_,fun base _ _ B C=>?_,fun H a ns hl hO hS=>⟨a,ns,rfl,hS,hl,⟨hO (A.k_10,A.t_10) (by simp),tdn⟩,fun _=>rfl⟩⟩
 ·intro t ht
  simp only[IY,Jl,or_false]at ht
  rcases ht with rfl
  ·exact⟨"_law_stamper",by simp,tb_10⟩
 ·exact ET ⟨T,B,C (A.k_10,A.t_10) (by simp)⟩
def Cq {h:Heap}{fa:Addr}(X:K.In h)(G:h.Ns mainGlobals mg)(hfa:mg "law"=some (.ref fa)){x_16 x_2 x_6 x_19 x_15 x_7 x_14 x_20 x_5 x_4 x_9 x_8 x_10 x_17 x_18 x_43 x_31 x_37 x_26 x_35 x_25 x_30 x_52 x_40 x_21 x_38 x_44 x_46 x_53 x_41 x_22 x_50 x_42 x_36 x_33 x_32 x_39 x_47 x_51 x_48 x_29 x_34 x_23 x_0 x_24 x_49 x_28 x_1 x_27 x_3 x_45 y_Broken:Addr}{d0 d1 d2 d3 d4 d5 d6 d7 d8 d9 d10 d11 d12 d13 d14 d15 d16 d17 d18 d19 d20 d21 d22 d23 d24 d25 d26 d27 d28 d29 d30 d31 d32 d33 d34 d35 d36 d37 d38 d39 d40 d41 d42 d43 d44 d45 d46 d47 d48 d49 d50:Jn}{tc0:Tok}
  (bc_Broken:MO K mainGlobals "Broken"=some (some (.ref y_Broken)))(h0:Fa K "_law_sum" "_law_sum" wU x_16 d0)(h1:Fa K "_law_cell_at" "_law_cell_at" s_2 x_2 d1)(h2:Fa K "_law_key" "_law_key" s_6 x_6 d2)(h3:Fa K "_law_turns" "_law_turns" xa x_19 d3)(h4:Fa K "_law_stream" "_law_stream" xy x_15 d4)(h5:Fa K "_law_mark" "_law_mark" s_7 x_7 d5)(h6:Fa K "_law_steps" "_law_steps" xg x_14 d6)(h7:Fa K "_law_word" "_law_word" wH x_20 d7)(h8:Fa K "_law_end" "_law_end" s_5 x_5 d8)(h9:Fa K "_law_drawn" "_law_drawn" s_4 x_4 d9)(h10:Fa K "_law_other_mark" "_law_other_mark" s_9 x_9 d10)(h11:Fa K "_law_other" "_law_other" s_8 x_8 d11)(h12:Fa K "_law_stamper" "_law_stamper" iu x_10 d12)(tb_10:(Qn K "_law_stamper").isSome=true)(h13:Fa K "_law_term_at" "_law_term_at" xD x_17 d13)(h14:Fa K "_law_terms" "_law_terms" wn x_18 d14)(h15:Fa K "is_whole" "is_whole" vv x_43 d15)(h16:Fa K "is_count" "is_count" vo x_31 d16)(h17:Fa K "is_place" "is_place" vE x_37 d17)(h18:Fa K "check_place" "check_place" xL x_26 d18)(h19:Fa K "is_key" "is_key" wg x_35 d19)(h20:Fa K "check_pair" "check_pair" xQ x_25 d20)(h21:Fa K "half" "half" vB x_30 d21)(h22:Fa K "ways" "ways" xi x_52 d22)(h23:Fa K "is_stamp" "is_stamp" vc x_40 d23)(h24:Fa K "are_marks" "are_marks" vn x_21 d24)(h25:Fa K "is_place_paper" "is_place_paper" vZ x_38 d25)(h26:Fa K "joint" "joint" vR x_44 d26)(h27:Fa K "place_terms" "place_terms" vi x_46 d27)(h28:Fa K "with_place" "with_place" vh x_53 d28)(h29:Fa K "is_step" "is_step" wt x_41 d29)(h30:Fa K "are_steps" "are_steps" vA x_22 d30)(h31:Fa K "start" "start" wX x_50 d31)(h32:Fa K "is_value" "is_value" wO x_42 d32)(h33:Fa K "is_leaf" "is_leaf" xv x_36 d33)(h34:Fa K "is_fork" "is_fork" wJ x_33 d34)(h35:Fa K "is_end" "is_end" xH x_32 d35)(h36:Fa K "is_slip" "is_slip" vp x_39 d36)(h37:Fa K "side" "side" xK x_47 d37)(h38:Fa K "step_term" "step_term" xZ x_51 d38)(h39:Fa K "slip_terms" "slip_terms" xk x_48 d39)(h40:Fa K "full_terms" "full_terms" vX x_29 d40)(h41:Fa K "is_head" "is_head" xh x_34 d41)(h42:Fa K "check_head" "check_head" xt x_23 d42)(a43:Mp K (.ref y_Broken) "__init__"=some (some (.ref x_0)))(h43:Fun K "__init__" "Broken.__init__" s_0 x_0 d43)(fn43:W.isFn K (.ref x_0)=true)(h44:Fa K "check_mark" "check_mark" lP x_24 d44)(h45:Fa K "slip_value" "slip_value" xE x_49 d45)(h46:Fa K "full_answer" "full_answer" lB x_28 d46)(h47:Fa K "_law_answered" "_law_answered" s_1 x_1 d47)(h48:Fa K "clash" "clash" wu x_27 d48)(h49:Fa K "_law_clash" "_law_clash" s_3 x_3 d49)(h50:Fa K "law" "law" wR x_45 d50)(eo2_Broken:oN K y_Broken=true)(sa_Broken:Mp K (.ref y_Broken) "__setattr__"=some (some (.builtin "object.__setattr__")))(hd_Broken:W.hasDictIn K y_Broken=true)(na_Broken_came:Mp K (.ref y_Broken) "came"=some none)(na_Broken_due:Mp K (.ref y_Broken) "due"=some none)(kc_Broken:Ph K (.ref y_Broken)=true)(e0_Broken:Mp K (.ref y_Broken) "__getattribute__"=some (some (.builtin "BaseException.__getattribute__")))(e1_Broken:Mp K (.ref y_Broken) "__getattr__"=some none)(e2_Broken:Mp K (.ref y_Broken) "__class__"=some (some (.builtin "object.__class__")))(em0_Broken:OJ K y_Broken (.type "object")=some true)(em1_Broken:OJ K y_Broken (.type "BaseException")=some true)(sb_Broken_Broken:OJ K y_Broken (.ref y_Broken)=some true)(z_all:MO K mainGlobals "all"=some none)(z_bool:MO K mainGlobals "bool"=some none)(z_int:MO K mainGlobals "int"=some none)(z_isinstance:MO K mainGlobals "isinstance"=some none)(z_len:MO K mainGlobals "len"=some none)(z_list:MO K mainGlobals "list"=some none)(z_ord:MO K mainGlobals "ord"=some none)(z_range:MO K mainGlobals "range"=some none)(z_reversed:MO K mainGlobals "reversed"=some none)(z_set:MO K mainGlobals "set"=some none)(z_sorted:MO K mainGlobals "sorted"=some none)(z_str:MO K mainGlobals "str"=some none)(z_tuple:MO K mainGlobals "tuple"=some none)(z_zip:MO K mainGlobals "zip"=some none)(c_MOST_SIGNS:MO K mainGlobals "MOST_SIGNS"=some (some (.int 60 tc0)))(nt:Qo K=true)(td:mi K ["_law_stamper"]=true):rR P w K mg fa:=by
 cases hfa.symm.trans (NB X G h50.m)
 obtain⟨⟨z_10,t_10⟩,tb_10⟩:=JR.mp tb_10
 have tdn:([t_10]:List Addr).Nodup:=xf (by unfold mi at td;simp only[JY,OB,tb_10,Mq]at td;exact of_decide_eq_true td)
 exact AN (A:=⟨x_16,d0,x_2,d1,x_6,d2,x_19,d3,x_15,d4,x_7,d5,x_14,d6,x_20,d7,x_5,d8,x_4,d9,x_9,d10,x_8,d11,x_10,d12,x_17,d13,x_18,d14,x_43,d15,x_31,d16,x_37,d17,x_26,d18,x_35,d19,x_25,d20,x_30,d21,x_52,d22,x_40,d23,x_21,d24,x_38,d25,x_44,d26,x_46,d27,x_53,d28,x_41,d29,x_22,d30,x_50,d31,x_42,d32,x_36,d33,x_33,d34,x_32,d35,x_39,d36,x_47,d37,x_51,d38,x_48,d39,x_29,d40,x_34,d41,x_23,d42,x_0,d43,x_24,d44,x_49,d45,x_28,d46,x_1,d47,x_27,d48,x_3,d49,fa,d50,z_10,t_10,y_Broken⟩) ⟨h0.fm1 X G,h1.fm2 X G,h2.fm2 X G,h3.fm2 X G,h4.fm2 X G,h5.fm1 X G,h6.fm3 X G,h7.fm1 X G,h8.fm4 X G,h9.fm1 X G,h10.fm1 X G,h11.fm3 X G,h12.fm5 X G,h13.fm2 X G,h14.fm6 X G,h15.fm1 X G,h16.fm1 X G,h17.fm2 X G,h18.fm2 X G,h19.fm2 X G,h20.fm1 X G,h21.fm1 X G,h22.fm2 X G,h23.fm1 X G,h24.fm2 X G,h25.fm2 X G,h26.fm3 X G,h27.fm4 X G,h28.fm5 X G,h29.fm3 X G,h30.fm2 X G,h31.fm3 X G,h32.fm1 X G,h33.fm4 X G,h34.fm4 X G,h35.fm4 X G,h36.fm3 X G,h37.fm3 X G,h38.fm4 X G,h39.fm4 X G,h40.fm6 X G,h41.fm1 X G,h42.fm1 X G,h43,h43.b3,h44.fm3 X G,h45.fm2 X G,h46.fm6 X G,h47.fm7 X G,h48.fm2 X G,h49.fm2 X G,h50.fm1 X G,KI X G z_all,KI X G z_bool,KI X G z_int,KI X G z_isinstance,KI X G z_len,KI X G z_list,KI X G z_ord,KI X G z_range,KI X G z_reversed,KI X G z_set,KI X G z_sorted,KI X G z_str,KI X G z_tuple,KI X G z_zip,⟨_,NB X G c_MOST_SIGNS⟩,h12.code X G tb_10,NB X G bc_Broken,eo2_Broken,⟨e0_Broken,e1_Broken,e2_Broken,em0_Broken,em1_Broken⟩,⟨eo2_Broken,sa_Broken,⟨e0_Broken,e1_Broken,e2_Broken,em0_Broken,em1_Broken⟩,na_Broken_came,hd_Broken⟩,⟨eo2_Broken,sa_Broken,⟨e0_Broken,e1_Broken,e2_Broken,em0_Broken,em1_Broken⟩,na_Broken_due,hd_Broken⟩,⟨eo2_Broken,a43,fn43,kc_Broken⟩,wV sb_Broken_Broken⟩ nt tb_10 tdn
def Ii {l:W.OpenLaw}{q:Jd}{loose:List Str}{XP:(Str->Option Gt)->Heap->Prop}{YP:JL->Heap->Prop}{d:DefRec}{K:Params->If}(hn:l.most=some 63)(hdf:d.params.defaults=[])
  (hY:∀(w:JL)(h:Heap),YP w h->(K w.params).In h)(hq:∀y∈(["_law_stamper"]:List Str),((OR q).find? fun e=>e.name==y).isSome=true)
  (F:∀(w:JL)(mg:Str->Option Gt)(fa:Addr)(h:Heap),(K w.params).In h->h.Ns mainGlobals mg->mg d.name=some (.ref fa)->rR l.prog w (K w.params) mg fa):
  W.WalkO q loose XP YP l.row.toRowW d [] (fun f vs=>QP f vs):=
 L2.xT (n:=63) (k:=10) (x:="_law_script") (CX:=fun w=>CX1 l.prog w) hn (by decide) hdf ⟨rfl,by decide,by decide⟩ hY hq F fun _ _ _ _ _ ⟨_,_,_,_,_,_,z⟩=>z
end
end Rs
namespace PySem.W.Fast
def tw18232519413763830136:=()
def tw6180328735636384699:=()
def tw4550603224626464501:=()
def tw11946281596168654084:=()
def tw11316352751853216840:=()
def tw3886368020422235520:=()
def tw11761323457776427639:=()
def tw10743041169576606761:=()
def tw17201112654352670851:=()
def tw5840381541184268404:=()
def tw11120056358711764664:=()
def tw259102570224054134:=()
def tw2133396611880591984:=()
def tw14908266526052912651:=()
def tw13901866729599546438:=()
def tw453028556294285169:=()
def tw12908125861269919083:=()
def tw9424438446929476813:=()
def tw13808709403280639075:=()
def tw5889259406848280330:=()
def tw9602494929775259681:=()
def tw8234346530066135920:=()
def tw5143415529392531538:=()
def tw13946187005087067655:=()
def tw10335878666932035948:=()
def tw15753080930399016248:=()
def tw12456017028257546524:=()
def tw1348876429489932108:=()
def tw7704432320314435385:=()
def tw10376824193490094208:=()
def tw1790949027383546743:=()
def tw186799278387339524:=()
def tw8207081903854001147:=()
def tw10114596094726808935:=()
def tw18056908316442803237:=()
def tw13422065724754702912:=()
def tw17333787489164063160:=()
def tw11516181751253466600:=()
def tw8414291237734620871:=()
def tw9568017918932075385:=()
def tw3360062977571185211:=()
def tw912115468051334554:=()
def tw4765258449454989315:=()
def tw5509504598141231046:=()
def tw13940426049030845592:=()
def tw14150362481365988203:=()
def tw16453227266450056576:=()
def tw18275669022325531713:=()
def tw11454913319522683957:=()
def tw870695630018207523:=()
def tw6163212776625902332:=()
def tw16650703118934485230:=()
def tw108481200775236287:=()
def tw4371544603059781223:=()
def tw1065604489471927312:=()
def tw13735621865141821744:=()
def tw11811586208964645060:=()
def tw7589166169140725377:=()
def tw6007374188905759767:=()
def tw5827647179427061704:=()
def tw12346229231187699109:=()
def tw11835817296855659561:=()
def tw243965008321873846:=()
def tw12139837889302565380:=()
def tw18131063235126564198:=()
def tw15863103598735148068:=()
def tw17803560396470982119:=()
def tw8303574084332429639:=()
def tw3766177861749766135:=()
def tw940528716391306134:=()
def tw1071484448094065642:=()
def tw7381952363476031550:=()
def tw13499084308726422896:=()
def tw8857348735175461576:=()
def tw10927285601053455922:=()
def tw9600793638545548241:=()
def tw12962822196202687965:=()
def tw17002698591737429662:=()
def tw13961851600541789436:=()
def tw13614074732566231386:=()
def tw11169899865935348355:=()
def tw18388704249200319218:=()
def tw4007907297598597720:=()
def tw700596361006284773:=()
def tw10854337778106323678:=()
def tw18363807272720556752:=()
def tw9841891722986724278:=()
def tw2101791231720991771:=()
def tw3183134946499060646:=()
def tw2187195201751094207:=()
def tw10153435540295053855:=()
def tw14922560601172566768:=()
def tw8858566363533690486:=()
def tw18306979707968475468:=()
def tw16731838963716147612:=()
def tw9495005595794659729:=()
def tw9392330492134029171:=()
def tw2553123603652357058:=()
def tw33616902652222522:=()
def tw17177229599447730965:=()
def tw12874610252413678967:=()
def tw380774344445707537:=()
def tw324552723709167674:=()
def tw3870969547116086921:=()
def tw4243921747135392784:=()
def tw8777140661942833061:=()
def tw15634563700652274638:=()
def tw1364133456551250909:=()
def tw16758593345846823515:=()
def tw15644328196399206968:=()
def tw11829048949823464158:=()
def tw8890151069638852241:=()
def tw13820159450791831652:=()
def tw14292043347062187401:=()
def tw4877803414720719198:=()
def tw6811222713831363869:=()
def tw13612345319072845545:=()
def tw2425866599019174128:=()
def tw18035799947137259485:=()
def tw16770371402100372741:=()
def tw12119083062673962606:=()
def tw17822840112203667283:=()
def tw450395063081926447:=()
def tw4749786171888176394:=()
def tw6557305529478421958:=()
def tw5158417846154414718:=()
def tw8670527149867985949:=()
def tw16263442796205872482:=()
end PySem.W.Fast
open PySem PySem.W PyProof.Rows
set_option maxRecDepth 100000 in
set_option maxHeartbeats 0 in
theorem PySem.Challenge.cw_rootstamp_k57_whole_one_full_paper_holds : PySem.Challenge.rw_rootstamp_k57_whole_one_full_paper.Holds := by
 w_on; o_law; k_head; (case hw => w_witness2)
 k_fill
 refine Rs.Ii (l := PySem.Challenge.rw_rootstamp_k57_whole_one_full_paper) rfl rfl (fun w h Y => by first | exact PySem.W.kIn_of Y | exact PySem.W.km_in_of Y) (by decide +kernel) ?F
 case F =>
  intro w mg fa h KX G hmg
  refine' Rs.Cq KX G hmg ?bc_Broken (L2.aW ?a0 ?l0 ?c0 ?k0) (L2.aW ?a1 ?l1 ?c1 ?k1) (L2.aW ?a2 ?l2 ?c2 ?k2) (L2.aW ?a3 ?l3 ?c3 ?k3) (L2.aW ?a4 ?l4 ?c4 ?k4) (L2.aW ?a5 ?l5 ?c5 ?k5) (L2.aW ?a6 ?l6 ?c6 ?k6) (L2.aW ?a7 ?l7 ?c7 ?k7) (L2.aW ?a8 ?l8 ?c8 ?k8) (L2.aW ?a9 ?l9 ?c9 ?k9) (L2.aW ?a10 ?l10 ?c10 ?k10) (L2.aW ?a11 ?l11 ?c11 ?k11) (L2.aW ?a12 ?l12 ?c12 ?k12) ?tb_10 (L2.aW ?a13 ?l13 ?c13 ?k13) (L2.aW ?a14 ?l14 ?c14 ?k14) (L2.aW ?a15 ?l15 ?c15 ?k15) (L2.aW ?a16 ?l16 ?c16 ?k16) (L2.aW ?a17 ?l17 ?c17 ?k17) (L2.aW ?a18 ?l18 ?c18 ?k18) (L2.aW ?a19 ?l19 ?c19 ?k19) (L2.aW ?a20 ?l20 ?c20 ?k20) (L2.aW ?a21 ?l21 ?c21 ?k21) (L2.aW ?a22 ?l22 ?c22 ?k22) (L2.aW ?a23 ?l23 ?c23 ?k23) (L2.aW ?a24 ?l24 ?c24 ?k24) (L2.aW ?a25 ?l25 ?c25 ?k25) (L2.aW ?a26 ?l26 ?c26 ?k26) (L2.aW ?a27 ?l27 ?c27 ?k27) (L2.aW ?a28 ?l28 ?c28 ?k28) (L2.aW ?a29 ?l29 ?c29 ?k29) (L2.aW ?a30 ?l30 ?c30 ?k30) (L2.aW ?a31 ?l31 ?c31 ?k31) (L2.aW ?a32 ?l32 ?c32 ?k32) (L2.aW ?a33 ?l33 ?c33 ?k33) (L2.aW ?a34 ?l34 ?c34 ?k34) (L2.aW ?a35 ?l35 ?c35 ?k35) (L2.aW ?a36 ?l36 ?c36 ?k36) (L2.aW ?a37 ?l37 ?c37 ?k37) (L2.aW ?a38 ?l38 ?c38 ?k38) (L2.aW ?a39 ?l39 ?c39 ?k39) (L2.aW ?a40 ?l40 ?c40 ?k40) (L2.aW ?a41 ?l41 ?c41 ?k41) (L2.aW ?a42 ?l42 ?c42 ?k42) ?a43 (L2.ur ?l43 ?c43 ?k43) ?fn43 (L2.aW ?a44 ?l44 ?c44 ?k44) (L2.aW ?a45 ?l45 ?c45 ?k45) (L2.aW ?a46 ?l46 ?c46 ?k46) (L2.aW ?a47 ?l47 ?c47 ?k47) (L2.aW ?a48 ?l48 ?c48 ?k48) (L2.aW ?a49 ?l49 ?c49 ?k49) (L2.aW ?a50 ?l50 ?c50 ?k50) ?eo2_Broken ?sa_Broken ?hd_Broken ?na_Broken_came ?na_Broken_due ?kc_Broken ?e0_Broken ?e1_Broken ?e2_Broken ?em0_Broken ?em1_Broken ?sb_Broken_Broken ?z_all ?z_bool ?z_int ?z_isinstance ?z_len ?z_list ?z_ord ?z_range ?z_reversed ?z_set ?z_sorted ?z_str ?z_tuple ?z_zip ?c_MOST_SIGNS ?nt ?td
  case bc_Broken | a0 | l0 | c0 | k0 | a1 | l1 | c1 | k1 | a2 | l2 | c2 | k2 | a3 | l3 | c3 | k3 | a4 | l4 | c4 | k4 | a5 | l5 | c5 | k5 | a6 | l6 | c6 | k6 | a7 | l7 | c7 | k7 | a8 | l8 | c8 | k8 | a9 | l9 | c9 | k9 | a10 | l10 | c10 | k10 | a11 | l11 | c11 | k11 | a12 | l12 | c12 | k12 => k_is
  case tb_10 => kernel_rfl
  case a13 | l13 | c13 | k13 | a14 | l14 | c14 | k14 | a15 | l15 | c15 | k15 | a16 | l16 | c16 | k16 | a17 | l17 | c17 | k17 | a18 | l18 | c18 | k18 | a19 | l19 | c19 | k19 | a20 | l20 | c20 | k20 | a21 | l21 | c21 | k21 | a22 | l22 | c22 | k22 | a23 | l23 | c23 | k23 | a24 | l24 | c24 | k24 | a25 | l25 | c25 | k25 | a26 | l26 | c26 | k26 | a27 | l27 | c27 | k27 | a28 | l28 | c28 | k28 | a29 | l29 | c29 | k29 | a30 | l30 | c30 | k30 | a31 | l31 | c31 | k31 | a32 | l32 | c32 | k32 | a33 | l33 | c33 | k33 | a34 | l34 | c34 | k34 | a35 | l35 | c35 | k35 | a36 | l36 | c36 | k36 | a37 | l37 | c37 | k37 | a38 | l38 | c38 | k38 | a39 | l39 | c39 | k39 | a40 | l40 | c40 | k40 | a41 | l41 | c41 | k41 | a42 | l42 | c42 | k42 | a43 | l43 | c43 | k43 | fn43 | a44 | l44 | c44 | k44 | a45 | l45 | c45 | k45 | a46 | l46 | c46 | k46 | a47 | l47 | c47 | k47 | a48 | l48 | c48 | k48 | a49 | l49 | c49 | k49 | a50 | l50 | c50 | k50 => k_is
  case eo2_Broken => kernel_rfl
  case sa_Broken | hd_Broken | na_Broken_came | na_Broken_due | kc_Broken | e0_Broken | e1_Broken | e2_Broken | em0_Broken | em1_Broken | sb_Broken_Broken | z_all | z_bool | z_int | z_isinstance | z_len | z_list | z_ord | z_range | z_reversed | z_set | z_sorted | z_str | z_tuple | z_zip | c_MOST_SIGNS => k_is
  case nt | td => kernel_rfl
